import Derived.Test.YtbkkfpfddebakaaDoorLentAll
namespace Go.Proofs.YtbkkfpfddebakaaDoor
open Go.RowKit
end Go.Proofs.YtbkkfpfddebakaaDoor

import Derived.Test.YtbkkfpfddebakaaDoorNumAll
namespace Go.Proofs.YtbkkfpfddebakaaDoor
open Go.RowKit
end Go.Proofs.YtbkkfpfddebakaaDoor

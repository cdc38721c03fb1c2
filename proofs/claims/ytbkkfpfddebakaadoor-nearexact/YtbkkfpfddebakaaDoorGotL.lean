import Derived.Test.YtbkkfpfddebakaaDoorLentAll
import Derived.Test.YtbkkfpfddebakaaDoorRefAll
namespace Go.Proofs.YtbkkfpfddebakaaDoor
open Go.RowKit

end Go.Proofs.YtbkkfpfddebakaaDoor

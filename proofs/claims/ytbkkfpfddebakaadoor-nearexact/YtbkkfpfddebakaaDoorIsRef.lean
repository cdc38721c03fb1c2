import Derived.Test.YtbkkfpfddebakaaDoorEnds
import Derived.Test.YtbkkfpfddebakaaDoorNumAll
import Derived.LaidEql
namespace Go.Proofs.YtbkkfpfddebakaaDoor
open Go.RowKit

theorem Tryd.errComp : (Tryd.prog.info? 115).map (·.comparable) = some true := by kernel_rfl
theorem Tryd.errSize : (Tryd.prog.info? 133).map (·.size) = some 1 := by kernel_rfl
end Go.Proofs.YtbkkfpfddebakaaDoor

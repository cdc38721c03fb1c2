import Derived.Test.YtjlmboakeigmpaaDoorEnds
import Derived.Test.YtjlmboakeigmpaaDoorNumAll
import Derived.LaidEql
namespace Go.Proofs.YtjlmboakeigmpaaDoor
open Go.RowKit

theorem Tryd.errComp : (Tryd.prog.info? 126).map (·.comparable) = some true := by kernel_rfl
theorem Tryd.errSize : (Tryd.prog.info? 144).map (·.size) = some 1 := by kernel_rfl
end Go.Proofs.YtjlmboakeigmpaaDoor

import Derived.Test.YtpkfiomabiacaaaGreatDoorPqJ
import Derived.Test.YtpkfiomabiacaaaGreatDoorPrT
import Derived.Test.YtpkfiomabiacaaaGreatDoorOpRAll
namespace Go.Proofs.YtpkfiomabiacaaaGreatDoor
open Go.RowKit

/-- awake from whatever world comes behind. -/
theorem awake_any {w : World} (hT : TB w) : ∀ w1, Below w.heap.size w w1 → Calls Tryz.prog 7 #[] w1 fun e w' => e = .returned (.bool true) ∧ Below w1.heap.size w1 w' := fun w1 h => awake7 w1 (hT.below h)
end Go.Proofs.YtpkfiomabiacaaaGreatDoor

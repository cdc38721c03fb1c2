import Derived.Test.YtcakohejaboplaaGreatDoorPqF
import Derived.Test.YtcakohejaboplaaGreatDoorR3H
namespace Go.Proofs.YtcakohejaboplaaGreatDoor
open Go.RowKit

/-- Is a list of n numbers whole where it must be? -/
def Whl (P : Prob) (n : Nat) (X : Nat → Rat) : Prop := n = P.vn ∧ ∀ j, j < P.vn → (P.V j).whole = true → (X j).den = 1
end Go.Proofs.YtcakohejaboplaaGreatDoor

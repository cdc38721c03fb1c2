import Derived.Test.YtkgnbcbcgnlodaaGreatDoorPqDAll
namespace Go.Proofs.YtkgnbcbcgnlodaaGreatDoor
open Go.RowKit

/-- Does a list of n numbers hold? -/
def Hlds (P : Prob) (n : Nat) (X : Nat → Rat) : Prop :=
  n = P.vn ∧ (∀ j, j < P.vn → wthn (X j) (P.V j).hlo (P.V j).lo (P.V j).hhi (P.V j).hi = true) ∧ ∀ i, i < P.rn → wthn (cv (P.R i) X P.vn) (P.R i).hlo (P.R i).lo (P.R i).hhi (P.R i).hi = true
end Go.Proofs.YtkgnbcbcgnlodaaGreatDoor

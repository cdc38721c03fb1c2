import Derived.Test.YtgdilnljjgdinaaGreatDoorOpAll
import Derived.Test.YtgdilnljjgdinaaGreatDoorRatAll
import Derived.Deep.AppendLies
namespace Go.Proofs.YtgdilnljjgdinaaGreatDoor
open Go.RowKit
theorem bel_dr {w w1:World} {B:Nat} (h:Below B w w1):Below B w w1.drew:=belN h 1
theorem bel_s3 {w w1:World} {B R:Nat} {u v z:Value} (h:Below B w w1) (hR:B≤R):Below B w (((w1.setCell ⟨R,0,none⟩ u).setCell ⟨R,1,none⟩ v).setCell ⟨R,2,none⟩ z):=h.trans (((((Off.refl _ _).set 0 u).set 1 v).set 2 z).below hR)
theorem row_cell {w:World} {g:Nat} {cur:Array Value} {e:TypeId} {vs:List Value} {q j:Nat} {u:Value} (hg:w.heap[g]? = some (.cells cur e (0,0))) (ht:cur.toList.take q=vs) (hj:vs[j]? = some u):w.cell? ⟨g,j,none⟩=some u:=by
 have hlt:j<q:=by
  have h:=(List.getElem?_eq_some_iff.1 hj).1
  rw [← ht,List.length_take] at h
  omega
 have e1:cur[j]? = some u:=by
  rw [← ht,List.getElem?_take_of_lt hlt] at hj
  rw [← Array.getElem?_toList];exact hj
 simp [World.cell?,hg,e1]
end Go.Proofs.YtgdilnljjgdinaaGreatDoor
namespace Go.Proofs.YtgdilnljjgdinaaGreatDoor
open Go.ChangeShapes Go.WideShapes Go.ChangeAt Go.RowKit
end Go.Proofs.YtgdilnljjgdinaaGreatDoor
namespace Go.Proofs.YtgdilnljjgdinaaGreatDoor
open Go.ChangeShapes Go.WideShapes Go.ChangeAt Go.RowKit
section
variable {H:Type} {enc:TypeId × Value→H} {W:World}
end
end Go.Proofs.YtgdilnljjgdinaaGreatDoor

import Derived.Test.YtdcocflnafcikaaGreatDoorPqEAll
import Derived.Test.YtdcocflnafcikaaGreatDoorWhEAll
import Derived.Test.YtdcocflnafcikaaGreatDoorPqCAll
import Derived.Deep.RegionHeld3
namespace Go.Proofs.YtdcocflnafcikaaGreatDoor
open Go.RowKit
theorem cs_same {r s:Rat} (h:r=s):0=cs r s:=by
 subst h
 unfold cs
 rw [Int.sub_self]
 rfl
def gsum (t:Nat→PT) (k:Nat) (x:Int):Rat:=rsum (fun i=>if (t i).var=x then (t i).coef else 0) k
theorem wpAnyG.two {P:Program} {ops:Array Oper} {Q:Exit→Act→World→Prop} {md:Region.Mode} {T:Array Bool→World→Prop} (i j:Nat) {f:Nat} {L:Array Bool} {a:Act} {w:World} (hr:Region.ready md ops L=[i,j]) (hi:i<ops.size) (hj:j<ops.size) (wi:Region.wanted ops[i] (yielded ops a.tmps)=true) (wj:Region.wanted ops[j] (yielded ops a.tmps)=true)
  (h1:∀ K:Act→World→Prop,(∀ a' w',T (L.setIfInBounds i true) w'→wpAnyG P md ops Q T f (L.setIfInBounds i true) a' w'→K a' w')→ops[i].wp P a w K Q)
  (h2:∀ K:Act→World→Prop,(∀ a' w',T (L.setIfInBounds j true) w'→wpAnyG P md ops Q T f (L.setIfInBounds j true) a' w'→K a' w')→ops[j].wp P a w K Q):wpAnyG P md ops Q T (f+1) L a w:=by
 refine ⟨fun h0=>(by rw [hr] at h0;cases h0),fun k hk=>?_⟩
 rw [hr] at hk
 rcases (by simpa using hk:k=i∨k=j) with rfl|rfl
 ·unfold wpOp
  rw [Array.getElem?_eq_getElem hi]
  simp only [wi,if_true]
  exact .inl (h1 _ fun a' w' h1 h2=>⟨h1,h2⟩)
 ·unfold wpOp
  rw [Array.getElem?_eq_getElem hj]
  simp only [wj,if_true]
  exact .inl (h2 _ fun a' w' h1 h2=>⟨h1,h2⟩)
end Go.Proofs.YtdcocflnafcikaaGreatDoor

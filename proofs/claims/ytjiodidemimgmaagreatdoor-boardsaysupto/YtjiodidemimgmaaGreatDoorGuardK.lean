import Derived.Test.YtjiodidemimgmaaGreatDoorPqCAll
namespace Go.Proofs.YtjiodidemimgmaaGreatDoor
open Go.RowKit
def TillA (s:Nat) (S A:World→Prop) (L:Array Bool) (w:World):Prop:=(L.getD s true = false→S w)∧A w
theorem tillA_ind {s i:Nat} {S A:World→Prop} (h:i ≠ s) (L:Array Bool) (w:World):TillA s S A (L.setIfInBounds i true) w↔TillA s S A L w:=by
 unfold TillA
 rw [getD_set_ne true h]
theorem wpAnyG.three {P:Program} {ops:Array Oper} {Q:Exit→Act→World→Prop} {md:Region.Mode} {T:Array Bool→World→Prop} (i j l:Nat) {f:Nat} {L:Array Bool} {a:Act} {w:World} (hr:Region.ready md ops L = [i,j,l]) (hi:i < ops.size) (hj:j < ops.size) (hl:l < ops.size) (wi:Region.wanted ops[i] (yielded ops a.tmps) = true) (wj:Region.wanted ops[j] (yielded ops a.tmps) = true) (wl:Region.wanted ops[l] (yielded ops a.tmps) = true)
  (h1:∀ K:Act→World→Prop,(∀ a' w',T (L.setIfInBounds i true) w'→wpAnyG P md ops Q T f (L.setIfInBounds i true) a' w'→K a' w')→ops[i].wp P a w K Q)
  (h2:∀ K:Act→World→Prop,(∀ a' w',T (L.setIfInBounds j true) w'→wpAnyG P md ops Q T f (L.setIfInBounds j true) a' w'→K a' w')→ops[j].wp P a w K Q)
  (h3:∀ K:Act→World→Prop,(∀ a' w',T (L.setIfInBounds l true) w'→wpAnyG P md ops Q T f (L.setIfInBounds l true) a' w'→K a' w')→ops[l].wp P a w K Q):wpAnyG P md ops Q T (f + 1) L a w:=by
 refine ⟨fun h0=>(by rw [hr] at h0;cases h0),fun k hk=>?_⟩
 rw [hr] at hk
 rcases (by simpa using hk:k = i∨k = j∨k = l) with rfl | rfl | rfl
 ·unfold wpOp
  rw [Array.getElem?_eq_getElem hi]
  simp only [wi,if_true]
  exact .inl (h1 _ fun a' w' h1 h2=>⟨h1,h2⟩)
 ·unfold wpOp
  rw [Array.getElem?_eq_getElem hj]
  simp only [wj,if_true]
  exact .inl (h2 _ fun a' w' h1 h2=>⟨h1,h2⟩)
 ·unfold wpOp
  rw [Array.getElem?_eq_getElem hl]
  simp only [wl,if_true]
  exact .inl (h3 _ fun a' w' h1 h2=>⟨h1,h2⟩)
theorem wp_cutB {P:Program} {c:Code} {Q:Exit→Act→World→Prop} {a:Act} {w:World} (J:Act→Act→World→Prop) (h1:c.wp P (fun e a' w'=>e = .normal∧J a a' w') a w) (h2:∀ a' w',J a a' w'→Q .normal a' w'):c.wp P Q a w :=
 Code.wp_mono (fun e a' w' h=>by obtain ⟨rfl,h⟩:=h;exact h2 a' w' h) h1
end Go.Proofs.YtjiodidemimgmaaGreatDoor

import Derived.Test.YtnokmjmefipplaaGreatDoorWhEAll
import Derived.Test.YtnokmjmefipplaaGreatDoorPqC
import Derived.Deep.RegionHeld3
namespace Go.Proofs.YtnokmjmefipplaaGreatDoor
open Go.RowKit
theorem wpAnyG.two {P:Program} {ops:Array Oper} {Q:Exit→Act→World→Prop} {md:Region.Mode} {T:Array Bool→World→Prop} (i j:Nat) {f:Nat} {L:Array Bool} {a:Act} {w:World} (hr:Region.ready md ops L = [i,j]) (hi:i < ops.size) (hj:j < ops.size) (wi:Region.wanted ops[i] (yielded ops a.tmps) = true) (wj:Region.wanted ops[j] (yielded ops a.tmps) = true)
 (h1:∀ K:Act→World→Prop,(∀ a' w',T (L.setIfInBounds i true) w'→wpAnyG P md ops Q T f (L.setIfInBounds i true) a' w'→K a' w')→ops[i].wp P a w K Q)
 (h2:∀ K:Act→World→Prop,(∀ a' w',T (L.setIfInBounds j true) w'→wpAnyG P md ops Q T f (L.setIfInBounds j true) a' w'→K a' w')→ops[j].wp P a w K Q):wpAnyG P md ops Q T (f + 1) L a w:=by
 refine ⟨fun h0=>(by rw [hr] at h0;cases h0),fun k hk=>?_⟩
 rw [hr] at hk
 rcases (by simpa using hk:k = i∨k = j) with rfl | rfl
 ·unfold wpOp
  rw [Array.getElem?_eq_getElem hi]
  simp only [wi,if_true]
  exact .inl (h1 _ fun a' w' h1 h2=>⟨h1,h2⟩)
 ·unfold wpOp
  rw [Array.getElem?_eq_getElem hj]
  simp only [wj,if_true]
  exact .inl (h2 _ fun a' w' h1 h2=>⟨h1,h2⟩)
theorem wpAnyG.skip {P:Program} {ops:Array Oper} {Q:Exit→Act→World→Prop} {md:Region.Mode} {T:Array Bool→World→Prop} (i:Nat) {f:Nat} {L:Array Bool} {a:Act} {w:World} (hlt:i < ops.size) (hsel:Region.noSelect ops = true) (hQ:∀ c a w,Q (.panic c) (a.put ops[i].dst undef) w→Q (.panic c) a w) (s:Nat) (hsi:(s == i) = false) (hind:∀ L w,T (L.setIfInBounds i true) w↔T L w)
 (hwait:(match ops[s]? with | some o=>o.after.toList.any (fun e=>Region.binds md e && e.on == i) | none=>false) = true) (hf:Region.free md ops L i = true) (hr:(Region.ready md ops L).contains i = true)
 (hwd:Region.wanted ops[i] (yielded ops a.tmps) = false) (hT:T L w) (hs:L.getD s true = false)
 (h:wpAnyG P md ops Q T f (L.setIfInBounds i true) (a.put ops[i].dst undef) w):wpAnyG P md ops Q T (f + 1) L a w:=by
 have hi:ops[i]? = some ops[i]:=Array.getElem?_eq_getElem hlt
 refine wpAnyG.load (S:=fun _=>True) hi hsel hQ (by simpa using hsi) hind (fun _ _ _ _=>trivial) ?_ f L a w (Region.free_spec hi hf) (by simpa using hr) (.inr ⟨hwd,rfl⟩) hT hs h
 intro L' hL' hm
 obtain ⟨_,o,ho,hall⟩:=mem_ready.1 hm
 rw [ho] at hwait
 obtain ⟨x,hx',hb⟩:=List.any_eq_true.1 hwait
 have hx:=Array.mem_toList_iff.1 hx'
 simp only [Bool.and_eq_true,beq_iff_eq] at hb
 have h1:=hall x hx hb.1
 rw [hb.2] at h1
 have h2:i < L'.size:=Nat.lt_of_not_le fun hle=>by simp [Array.getElem?_eq_none hle] at h1
 simp [h2] at hL' h1
 rw [hL'] at h1;cases h1
end Go.Proofs.YtnokmjmefipplaaGreatDoor

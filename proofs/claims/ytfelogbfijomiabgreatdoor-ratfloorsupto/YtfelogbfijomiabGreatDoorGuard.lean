import Derived.Test.YtfelogbfijomiabGreatDoorSumAll
import Derived.Deep.RegionHeld3
namespace Go.Proofs.YtfelogbfijomiabGreatDoor
open Go Go.RowKit
section
variable {P : Program} {ops : Array Oper} {Q : Exit → Act → World → Prop} {md : Region.Mode} {S : World → Prop} {T : Array Bool → World → Prop} {s : Nat}

/-- Whatever order comes, and behind every operation T of those that have come. -/
def wpAnyG (P : Program) (md : Region.Mode) (ops : Array Oper) (Q : Exit → Act → World → Prop) (T : Array Bool → World → Prop) : Nat → Array Bool → Act → World → Prop
  | 0, L, a, w => Region.ready md ops L = [] ∧ Q .normal a w
  | f + 1, L, a, w => (Region.ready md ops L = [] → Q .normal a w) ∧ ∀ i, i ∈ Region.ready md ops L →
      wpOp P ops Q i (fun a' w' => T (L.setIfInBounds i true) w' ∧ wpAnyG P md ops Q T f (L.setIfInBounds i true) a' w') a w
theorem wpAnyG.any : ∀ (f : Nat) (L : Array Bool) (a : Act) (w : World), wpAnyG P md ops Q T f L a w → wpAny P md ops Q f L a w := by
  intro f
  induction f with
  | zero => exact fun _ _ _ h => h
  | succ f ih => exact fun L a w h => ⟨h.1, fun i hi => wpOp_mono (fun a' w' k => ih _ a' w' k.2) (h.2 i hi)⟩
/-- A load for which number s waits may be taken first. -/
theorem wpAnyG.load {i : Nat} {oi : Oper} {v : Value} (hi : ops[i]? = some oi) (hsel : Region.noSelect ops = true) (hQ : ∀ c a w, Q (.panic c) (a.put oi.dst v) w → Q (.panic c) a w) (hsi : s ≠ i) (hind : ∀ L w, T (L.setIfInBounds i true) w ↔ T L w) (hTS : ∀ (L : Array Bool) (w : World), L.getD s true = false → T L w → S w)
    (hwait : ∀ L : Array Bool, L.getD i true = false → s ∉ Region.ready md ops L) (f : Nat) :
    ∀ (L : Array Bool) (a : Act) (w : World), (∀ j oj, ops[j]? = some oj → j ≠ i → L.getD j true = false → (∀ e ∈ oj.after, Region.binds md e = true → e.on ≠ i) → oi.apart ops oj = true) →
      i ∈ Region.ready md ops L → YieldsIf P ops S oi v a → T L w → L.getD s true = false → wpAnyG P md ops Q T f (L.setIfInBounds i true) (a.put oi.dst v) w → wpAnyG P md ops Q T (f + 1) L a w := by
  have nosel := Region.noSelect_spec hsel
  induction f with
  | zero =>
    intro L a w _ hr hy hT hs H
    refine ⟨fun h => absurd hr (by rw [h]; exact List.not_mem_nil), fun j hj => ?_⟩
    rcases Decidable.em (j = i) with e | e
    · subst e; exact hy.wpOp hi (hTS L w hs hT) ⟨(hind L w).2 hT, H⟩
    · exact absurd (ready_mono hj e) (by rw [H.1]; exact List.not_mem_nil)
  | succ f ih =>
    intro L a w hfree hr hy hT hs H
    refine ⟨fun h => absurd hr (by rw [h]; exact List.not_mem_nil), fun j hj => ?_⟩
    rcases Decidable.em (j = i) with e | e
    · subst e; exact hy.wpOp hi (hTS L w hs hT) ⟨(hind L w).2 hT, H⟩
    · have hun : L.getD i true = false := (mem_ready.1 hr).1
      have hjs : j ≠ s := fun h => hwait L hun (h ▸ hj)
      obtain ⟨hjun, oj, hoj, hall⟩ := mem_ready.1 hj
      have hno : ∀ x ∈ oj.after, Region.binds md x = true → x.on ≠ i := by
        intro x hx hb hxi
        have h1 := hall x hx hb
        rw [hxi] at h1
        have h2 : i < L.size := Nat.lt_of_not_le fun hle => by simp [Array.getElem?_eq_none hle] at h1
        simp [h2] at hun h1
        rw [hun] at h1; cases h1
      have step := wpOp_putIf hoj (hfree j oj hoj e hjun hno) (fun cs b => nosel i oi cs b hi) (fun cs b => nosel j oj cs b hoj) hQ hy (H.2 j (ready_mono hj e))
      refine wpOp_mono (fun a' w' k => ?_) step
      have hs' : (L.setIfInBounds j true).getD s true = false := by rw [getD_set_ne true hjs]; exact hs
      have hTw : T (L.setIfInBounds j true) w' := by
        have h := k.2.1
        rw [Array.setIfInBounds_comm _ _ (Ne.symm e)] at h
        exact (hind _ w').1 h
      refine ⟨hTw, ih (L.setIfInBounds j true) a' w' ?_ (ready_mono hr (Ne.symm e)) k.1 hTw hs' (by rw [Array.setIfInBounds_comm _ _ e]; exact k.2.2)⟩
      intro x ox hx hxi hux hxn
      refine hfree x ox hx hxi ?_ hxn
      rcases Decidable.em (j = x) with e2 | e2
      · subst e2; exact hjun
      · rw [getD_set_ne true e2] at hux; exact hux
theorem wpAnyG.take (i : Nat) {f : Nat} {L : Array Bool} {a : Act} {w : World} {v : Value} (hlt : i < ops.size) (hsel : Region.noSelect ops = true) (hQ : ∀ c a w, Q (.panic c) (a.put ops[i].dst v) w → Q (.panic c) a w) (s : Nat) (S : World → Prop) (hsi : (s == i) = false) (hind : ∀ L w, T (L.setIfInBounds i true) w ↔ T L w) (hTS : ∀ (L : Array Bool) (w : World), L.getD s true = false → T L w → S w)
    (hwait : (match ops[s]? with | some o => o.after.toList.any (fun e => Region.binds md e && e.on == i) | none => false) = true) (hf : Region.free md ops L i = true) (hr : (Region.ready md ops L).contains i = true)
    (hwd : Region.wanted ops[i] (yielded ops a.tmps) = true) (hy : ∀ w, S w → (execOp a.eval ops[i]).run P w = .ok (.value v) w) (hT : T L w) (hs : L.getD s true = false)
    (h : wpAnyG P md ops Q T f (L.setIfInBounds i true) (a.put ops[i].dst v) w) : wpAnyG P md ops Q T (f + 1) L a w := by
  have hi : ops[i]? = some ops[i] := Array.getElem?_eq_getElem hlt
  refine wpAnyG.load hi hsel hQ (by simpa using hsi) hind hTS ?_ f L a w (Region.free_spec hi hf) (by simpa using hr) (.inl ⟨hwd, hy⟩) hT hs h
  intro L' hL' hm
  obtain ⟨_, o, ho, hall⟩ := mem_ready.1 hm
  rw [ho] at hwait
  obtain ⟨x, hx', hb⟩ := List.any_eq_true.1 hwait
  have hx := Array.mem_toList_iff.1 hx'
  simp only [Bool.and_eq_true, beq_iff_eq] at hb
  have h1 := hall x hx hb.1
  rw [hb.2] at h1
  have h2 : i < L'.size := Nat.lt_of_not_le fun hle => by simp [Array.getElem?_eq_none hle] at h1
  simp [h2] at hL' h1
  rw [hL'] at h1; cases h1
/-- The one operation that may come. -/
theorem wpAnyG.one (i : Nat) {f : Nat} {L : Array Bool} {a : Act} {w : World} (hr : Region.ready md ops L = [i]) (hlt : i < ops.size) (hwd : Region.wanted ops[i] (yielded ops a.tmps) = true)
    (h : ∀ K : Act → World → Prop, (∀ a' w', T (L.setIfInBounds i true) w' → wpAnyG P md ops Q T f (L.setIfInBounds i true) a' w' → K a' w') → ops[i].wp P a w K Q) : wpAnyG P md ops Q T (f + 1) L a w := by
  refine ⟨fun h0 => (by rw [hr] at h0; cases h0), fun j hj => ?_⟩
  rw [hr] at hj
  obtain rfl : j = i := by simpa using hj
  unfold wpOp
  rw [Array.getElem?_eq_getElem hlt]
  simp only [hwd, if_true]
  exact .inl (h _ fun a' w' h1 h2 => ⟨h1, h2⟩)
theorem wpAnyG.done {f : Nat} {L : Array Bool} {a : Act} {w : World} (hr : Region.ready md ops L = []) (h : Q .normal a w) : wpAnyG P md ops Q T f L a w := by
  cases f with
  | zero => exact ⟨hr, h⟩
  | succ f => exact ⟨fun _ => h, fun i hi => absurd hi (by rw [hr]; exact List.not_mem_nil)⟩
/-- Two conditions, each till a number has come. -/
def Till (s s' : Nat) (S S' : World → Prop) (L : Array Bool) (w : World) : Prop := (L.getD s true = false → S w) ∧ (L.getD s' true = false → S' w)
theorem till_ind {s s' i : Nat} {S S' : World → Prop} (h : i ≠ s) (h' : i ≠ s') (L : Array Bool) (w : World) : Till s s' S S' (L.setIfInBounds i true) w ↔ Till s s' S S' L w := by
  unfold Till
  rw [getD_set_ne true h, getD_set_ne true h']
theorem wp_region_guard {id : Nat} {a : Act} {w : World} (T : Array Bool → World → Prop) (hm : P.follows .mixedOrders = true) (h : wpAnyG P .any ops Q T ops.size (Array.replicate ops.size false) a w.drew) : (Code.region id ops true).wp P Q a w :=
  wp_region_any hm (wpAnyG.any _ _ _ _ h)
end
end Go.Proofs.YtfelogbfijomiabGreatDoor

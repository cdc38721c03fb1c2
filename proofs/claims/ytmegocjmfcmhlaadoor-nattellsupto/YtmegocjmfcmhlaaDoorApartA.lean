import Derived.Test.YtmegocjmfcmhlaaDoorRefAll
namespace Go.Proofs.YtmegocjmfcmhlaaDoor
open Go.RowKit

/-! ### Apart: what its loops do, outside the walk -/
/-- The marks of the i-th number. -/
def mk (i n : Nat) : List Int := (List.range n).map fun (k : Nat) => 1000000 * (i : Int) + (k : Int) + 7
theorem length_mk (i n : Nat) : (mk i n).length = n := by simp [mk]
theorem lm_mk {i n k : Nat} (h : k < n) : lm (mk i n) k = 1000000 * (i : Int) + k + 7 := by simp [lm, mk, h]
/-- .. so many of them written. -/
def part (i : Nat) (x : List Int) (k : Nat) : List Int := (mk i x.length).take k ++ x.drop k
theorem part_zero (i : Nat) (x : List Int) : part i x 0 = x := by simp [part]
theorem part_full (i : Nat) (x : List Int) : part i x x.length = mk i x.length := by simp [part, List.take_of_length_le (Nat.le_of_eq (length_mk i x.length))]
theorem length_part (i : Nat) (x : List Int) {k : Nat} (h : k ≤ x.length) : (part i x k).length = x.length := by simp [part, length_mk]; omega
theorem part_set (i : Nat) (x : List Int) {k : Nat} (h : k < x.length) : (part i x k).set k (1000000 * (i : Int) + k + 7) = part i x (k + 1) := by
  have h1 : ((mk i x.length).take k).length = k := by simp [length_mk]; omega
  unfold part
  rw [List.set_append_right _ _ (by omega), h1, Nat.sub_self, ← take_snoc_lm _ _ (by rw [length_mk]; exact h), lm_mk h, List.append_assoc]
  congr 1
  rw [List.drop_eq_getElem_cons h]
  rfl
def st (x : Nat → List Int) (i k j : Nat) : List Int := if j < i then mk j (x j).length else if j = i then part i (x i) k else x j
theorem st_zero (x : Nat → List Int) (j : Nat) : st x 0 0 j = x j := by
  unfold st; rw [if_neg (by omega)]; split
  · subst_vars; exact part_zero 0 (x 0)
  · rfl
theorem st_next (x : Nat → List Int) (i j : Nat) : st x i (x i).length j = st x (i + 1) 0 j := by
  unfold st
  by_cases h1 : j < i
  · rw [if_pos h1, if_pos (by omega)]
  · rw [if_neg h1]
    by_cases h2 : j = i
    · subst h2; rw [if_pos rfl, if_pos (by omega), part_full]
    · rw [if_neg h2, if_neg (by omega)]
      by_cases h3 : j = i + 1
      · subst h3; rw [if_pos rfl, part_zero]
      · rw [if_neg h3]
theorem st_all {x : Nat → List Int} {m j : Nat} (h : j < m) : st x m 0 j = mk j (x j).length := by unfold st; rw [if_pos h]
theorem length_st (x : Nat → List Int) (i k j : Nat) (hk : k ≤ (x i).length) : (st x i k j).length = (x j).length := by
  unfold st
  split
  · exact length_mk _ _
  · split
    · subst_vars; exact length_part _ _ hk
    · rfl

/-- A block of slices: its first m places. -/
def TRow (w : World) (g m : Nat) (v : Nat → Value) : Prop := ∃ cur : Array Value, w.heap[g]? = some (.cells cur 23 (0, 0)) ∧ ∀ i, i < m → cur[i]? = some (v i)
theorem TRow.cell {w : World} {g m : Nat} {v : Nat → Value} (h : TRow w g m v) {i : Nat} (hi : i < m) : w.cell? ⟨g, i, none⟩ = some (v i) := by
  obtain ⟨cur, h1, h2⟩ := h
  simp [World.cell?, h1, h2 i hi]
theorem TRow.of_block {w w' : World} {g m : Nat} {v : Nat → Value} (h : TRow w g m v) (hb : w'.heap[g]? = w.heap[g]?) : TRow w' g m v := by
  obtain ⟨cur, h1, h2⟩ := h
  exact ⟨cur, by rw [hb]; exact h1, h2⟩
theorem TRow.lt {w : World} {g m : Nat} {v : Nat → Value} (h : TRow w g m v) : g < w.heap.size := by
  obtain ⟨cur, h1, _⟩ := h; exact (Array.getElem?_eq_some_iff.1 h1).1
theorem TRow.ne {w : World} {g m : Nat} {v : Nat → Value} (h : TRow w g m v) {B : Nat} {u : Value} {xs : List Int} (ho : OwnV w B u xs) : u.ownBlock ≠ some g := by
  intro e
  obtain ⟨cur, h1, _⟩ := h
  rcases ho.row with ⟨rfl, _⟩ | ⟨k, cap, rfl, _, cur2, h3, _⟩
  · simp [Value.ownBlock] at e
  · simp only [Value.ownBlock, Option.some.injEq] at e
    subst e
    rw [h1] at h3
    simp at h3
theorem OwnV.set_other {w : World} {B : Nat} {v : Value} {xs : List Int} (h : OwnV w B v xs) {g k : Nat} (u : Value) (hne : v.ownBlock ≠ some g) : OwnV (w.setCell ⟨g, k, none⟩ u) B v xs := by
  rcases h.row with ⟨rfl, rfl⟩ | ⟨b, cap, rfl, hB, hr⟩
  · exact OwnV.nil _ _
  · refine (hr.of_block (Below.heap_setCell _ _ _ _ ?_)).own hB
    intro e; subst e; exact hne rfl

/-- One mark written. -/
theorem mark_step {w : World} {B gl m : Nat} {v : Nat → Value} {x : Nat → List Int} {i k g cap : Nat} (hT : TRow w gl m v) (ho : ∀ j, j < m → OwnV w B (v j) (st x i k j))
    (dis : ∀ i j, i < m → j < m → i ≠ j → ∀ g, (v i).ownBlock = some g → (v j).ownBlock ≠ some g) (hi : i < m) (hk : k < (x i).length) (hv : v i = .slice (some ⟨g, 0, none⟩) (x i).length cap) :
    w.cell? ⟨g, k, none⟩ = some (.int .u64 (lm (st x i k i) k)) ∧ w.frozen? ⟨g, k, none⟩ = false ∧ B ≤ g ∧ TRow (w.setCell ⟨g, k, none⟩ (.int .u64 (1000000 * (i : Int) + k + 7))) gl m v ∧
      ∀ j, j < m → OwnV (w.setCell ⟨g, k, none⟩ (.int .u64 (1000000 * (i : Int) + k + 7))) B (v j) (st x i (k + 1) j) := by
  have hoi := ho i hi
  have hlen := length_st x i k i (by omega)
  have hgl : gl ≠ g := fun e => hT.ne hoi (by rw [hv, e]; rfl)
  rcases hoi.row with ⟨e, _⟩ | ⟨g', cap', e, hB, hr⟩
  · rw [hv] at e; cases e
  · rw [hv] at e
    simp only [Value.slice.injEq, Option.some.injEq, Addr.mk.injEq] at e
    obtain ⟨⟨rfl, _, _⟩, _, rfl⟩ := e
    refine ⟨hr.cell (by omega), hr.frozen k, hB, hT.of_block (Below.heap_setCell _ _ _ _ hgl), fun j hj => ?_⟩
    by_cases hji : j = i
    · subst hji
      have hs := (hr.set k (1000000 * (j : Int) + k + 7)).own hB
      have e1 : st x j k j = part j (x j) k := by unfold st; rw [if_neg (by omega), if_pos rfl]
      have e2 : st x j (k + 1) j = part j (x j) (k + 1) := by unfold st; rw [if_neg (by omega), if_pos rfl]
      rw [e1, part_set j (x j) hk] at hs
      rw [e2, hv]
      rw [length_part _ _ (by omega)] at hs
      exact hs
    · have e1 : st x i (k + 1) j = st x i k j := by unfold st; rw [if_neg hji, if_neg hji]
      rw [e1]
      exact (ho j hj).set_other _ (dis i j hi hj (fun e => hji e.symm) g (by rw [hv]; rfl))
end Go.Proofs.YtmegocjmfcmhlaaDoor

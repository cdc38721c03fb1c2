import Derived.Test.YtdfoiklcekhmpaaGreatDoorR5J
namespace Go.Proofs.YtdfoiklcekhmpaaGreatDoor
open Go.RowKit Go.Shelf

/-- rat.Parse answers the error of this global. -/
def Fails (s : ByteArray) (g : Nat) : Prop := ∀ (w : World) (ev : Value), Errs w g ev → Calls Tryz.prog 6 #[.string s] w fun e w' => e = .returned (.tuple #[.agg #[.bool false, .slice none 0 0, .slice none 0 0], ev]) ∧ Below w.heap.size w w'
theorem firstOr (n : Nat) (P : Nat → Prop) : ∃ j, j ≤ n ∧ (∀ t, t < j → ¬ P t) ∧ (j = n ∨ (j < n ∧ P j)) := by
  induction n with
  | zero => exact ⟨0, Nat.le_refl _, fun t h => absurd h (Nat.not_lt_zero _), .inl rfl⟩
  | succ n ih =>
    obtain ⟨j, h1, h2, h3⟩ := ih
    rcases h3 with rfl | ⟨h3, h4⟩
    · by_cases hp : P j
      · exact ⟨j, by omega, h2, .inr ⟨by omega, hp⟩⟩
      · refine ⟨j + 1, Nat.le_refl _, fun t ht => ?_, .inl rfl⟩
        by_cases e : t = j
        · subst e; exact hp
        · exact h2 t (by omega)
    · exact ⟨j, by omega, h2, .inr ⟨by omega, h4⟩⟩
theorem parsesI_ok {x : ByteArray} (hs : x.size ≤ 1100000) (h : IOk x) : ParsesI x (iv x) x.size := fun w =>
  (parseI x w (by omega) h.1 h.2).mono fun _ _ ⟨v, h1, h2, h3⟩ => ⟨v, h1, h2.le (cutS_size x), h3⟩
/-- Whether a point stands at i. -/
def ptB (s : ByteArray) (i j : Nat) : Nat := if i < s.size ∧ byt s i = 46 then j - (i + 1) else 0
theorem Shp.cut {s : ByteArray} {p0 i j : Nat} (h : Shp s p0 i j) (hs : s.size ≤ 1048576) : ∃ ah be : ByteArray, CutsE s (s.extract 0 j) (if j < s.size then s.extract (j + 1) s.size else ⟨#[48]⟩) ∧ CutsP (s.extract 0 j) ah be ∧ NoSign be ∧ ParsesI (ah ++ be) (litX s p0 i j) 1048576 ∧ be.size = ptB s i j ∧ ah.size ≤ 1048576 ∧ be.size ≤ 1048576 := by
  obtain ⟨hij, hj⟩ := h.ij
  have hE := cutsE_ix hs hj (fun t ht => by have := h.front ht; unfold isDg at this; omega) (h.en.imp id fun k => ⟨k.1, k.2.1⟩)
  have h0 := h.p0e
  rcases h.pt with ⟨rfl, hno⟩ | ⟨h1, h2, h3⟩
  · have hC := cutsP_ix (q := j) hs hj (Nat.le_refl _) (fun t ht e => by have := h.front ht; unfold isDg at this; omega) (.inl rfl)
    have hN := noSign_ix (q := j) hs hj (fun t t1 t2 => absurd t2 (by omega))
    rw [if_neg (by omega)] at hC hN
    have hle := h.rn.le
    have hmn := h.mn
    obtain ⟨k1, k2⟩ := iokW (s := s) (o := 0) (j := j) (by omega) hj
    rw [h0] at k1 k2
    have hz : (s.extract 0 j).size = j := by rw [size_extract _ _ _ hj]; omega
    refine ⟨_, _, hE, hC, hN, ?_, ?_, by omega, by decide⟩
    · rw [app_nil]
      have := parsesI_ok (x := s.extract 0 j) (by omega) (k1.2 ⟨by omega, h.rn.dg⟩)
      rw [k2] at this
      have e : litX s p0 j j = ws (sgN s 0) (rdF s p0 (j - p0)) := by unfold litX; rw [if_neg hno]
      rw [e]
      exact fun w => (this w).mono fun _ _ ⟨v, a, b, c⟩ => ⟨v, a, b.le (by omega), c⟩
    · unfold ptB; rw [if_neg hno]; rfl
  · have hle := h3.le
    have hns : ∀ t, i < t → t < j → byt s t ≠ 43 ∧ byt s t ≠ 45 := fun t t1 t2 => by have := h3.dg t (by omega) t2; unfold isDg at this; omega
    have hC := cutsP_ix (q := i) hs hj hij (fun t ht e => by have := h.front (t := t) (by omega); unfold isDg at this; omega) (.inr ⟨by omega, h2⟩)
    have hN := noSign_ix (q := i) hs hj hns
    rw [if_pos (by omega)] at hC hN
    obtain ⟨k1, k2⟩ := iokP (s := s) (q := i) (j := j) (by omega) hj h2 hns
    rw [h0] at k1 k2
    have hza : (s.extract 0 i).size = i := by rw [size_extract _ _ _ (by omega)]; omega
    have hzb : (s.extract (i + 1) j).size = j - (i + 1) := size_extract _ _ _ hj
    have hzx : (s.extract 0 i ++ s.extract (i + 1) j).size = i + (j - (i + 1)) := by rw [ByteArray.size_append, hza, hzb]
    refine ⟨_, _, hE, hC, hN, ?_, ?_, by omega, by omega⟩
    · have := parsesI_ok (x := s.extract 0 i ++ s.extract (i + 1) j) (by omega) (k1.2 ⟨h.mn, h.rn.dg, fun t t1 t2 => h3.dg t (by omega) t2⟩)
      rw [k2] at this
      have e : litX s p0 i j = ws (sgN s 0) (rdF s p0 (i - p0) * p10 (j - (i + 1)) + rdF s (i + 1) (j - (i + 1))) := by unfold litX; rw [if_pos ⟨h1, h2⟩]
      rw [e]
      exact fun w => (this w).mono fun _ _ ⟨v, a, b, c⟩ => ⟨v, a, b.le (by omega), c⟩
    · unfold ptB; rw [if_pos ⟨h1, h2⟩]; exact hzb
theorem Shp.exI {s : ByteArray} {p0 i j : Nat} (h : Shp s p0 i j) (hs : s.size ≤ 1048576) (hj : j < s.size) : ParsesI (s.extract (j + 1) s.size) (exT s j) 1048576 := by
  rcases h.en with h1 | ⟨_, _, h3, h4⟩
  · omega
  · have hge := sgJ_ge s (j + 1)
    obtain ⟨k1, k2⟩ := iokW (s := s) (o := j + 1) (j := s.size) (by omega) (Nat.le_refl _)
    have hz : (s.extract (j + 1) s.size).size = s.size - (j + 1) := size_extract _ _ _ (Nat.le_refl _)
    have := parsesI_ok (x := s.extract (j + 1) s.size) (by omega) (k1.2 ⟨h3, h4⟩)
    rw [k2] at this
    unfold exT
    rw [if_pos hj]
    exact fun w => (this w).mono fun _ _ ⟨v, a, b, c⟩ => ⟨v, a, b.le (by omega), c⟩
theorem no47L {s : ByteArray} (h : ∀ t, t < s.size → byt s t ≠ 47) : (47 : UInt8) ∉ s.data.toList := fun hm => by
  obtain ⟨i, h1, h2⟩ := in_byt hm
  exact h i h1 h2
/-- A literal whose exponent is in its range is read. -/
theorem Shp.read {s : ByteArray} {p0 i j : Nat} (h : Shp s p0 i j) (hs : s.size ≤ 1048576) (h8 : -9999 ≤ exT s j) (h9 : exT s j ≤ 9999) (w : World) (hT : TB w) : ∃ S, S ≤ 3000000 ∧ Parses s (litV (litX s p0 i j) (exT s j) (ptB s i j)) S w := by
  obtain ⟨ah, be, c1, c2, c3, c4, c5, c6, c7⟩ := h.cut hs
  have hX : ParsesX (if j < s.size then s.extract (j + 1) s.size else ⟨#[48]⟩) (exT s j) := by
    split
    · rename_i hj
      exact fun w => parseX _ _ 1048576 w (h.exI hs hj) (by omega) h8 h9
    · rename_i hj
      have : exT s j = 0 := if_neg hj
      rw [this]; exact parsesX_zero
  have := litG w hT (no47L fun t ht => h.no47 ht) c1 c2 c3 c4 hX h8 h9 (by omega) (by omega) (by omega)
  rw [c5] at this
  exact ⟨_, by omega, this⟩
theorem Shp.far {s : ByteArray} {p0 i j : Nat} (h : Shp s p0 i j) (hs : s.size ≤ 1048576) (h8 : exT s j < -9999 ∨ 9999 < exT s j) : Fails s 0 := by
  intro w ev E
  obtain ⟨ah, be, c1, c2, c3, c4, c5, c6, c7⟩ := h.cut hs
  have hj : j < s.size := by
    rcases Nat.lt_or_ge j s.size with k | k
    · exact k
    · have : exT s j = 0 := if_neg (by omega)
      omega
  rw [if_pos hj] at c1
  have hX : ∀ w, Errs w 0 ev → Calls Tryz.prog 53 #[.string (s.extract (j + 1) s.size)] w fun e w' => e = .returned (.tuple #[.int .i64 0, ev]) ∧ Below w.heap.size w w' := fun w E => by
    rcases h8 with h8 | h8
    · exact parseXM _ _ 1048576 w E (h.exI hs hj) (by omega) h8
    · exact parseXE _ _ 1048576 w E (h.exI hs hj) (by omega) h8
  exact parseDF w (no47L fun t ht => h.no47 ht) E fun w E => decX3 w c1 c2 c3 c4 E hX (by omega) (by omega)
end Go.Proofs.YtdfoiklcekhmpaaGreatDoor

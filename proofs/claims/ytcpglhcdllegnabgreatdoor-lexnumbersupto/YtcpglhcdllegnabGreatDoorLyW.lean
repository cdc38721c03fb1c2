import Derived.Test.YtcpglhcdllegnabGreatDoorLxNAll
namespace Go.Proofs.YtcpglhcdllegnabGreatDoor
open Go.RowKit Go.Shelf

-- what is read of a text stays so where a blank, or nothing, comes behind it
/-- Nothing, or a blank, comes there. -/
def Blk0 (d : List UInt8) : Prop := ∀ b l, d = b :: l → b = 32
theorem Blk0.nm {d : List UInt8} (h : Blk0 d) : ∀ b r, d = b :: r → nmB.contains b = false := fun b r e => by rw [h b r e]; decide
theorem Blk0.dg {d : List UInt8} (h : Blk0 d) : ∀ b r, d = b :: r → dgB.contains b = false := fun b r e => by rw [h b r e]; decide
theorem Blk0.ld {d : List UInt8} (h : Blk0 d) : ldL d dgB = 0 := by
  cases d with
  | nil => rfl
  | cons b r => exact ldL_neg (by rw [h.dg b r rfl]; decide)
theorem Blk0.pfx {d m : List UInt8} (h : Blk0 d) (hm : ∀ b r, m = b :: r → b ≠ 32) (hn : m ≠ []) : m.isPrefixOf d = false := by
  cases m with
  | nil => exact absurd rfl hn
  | cons c m =>
    cases d with
    | nil => rfl
    | cons b r =>
      rw [h b r rfl]
      simp [List.isPrefixOf]
      intro e
      exact absurd e (hm c m rfl)
/-- How many digits come first, where more come than all: -/
theorem ld_short {X R d : List UInt8} (h : ldL (X ++ R) dgB ≤ X.length) (hd : Blk0 d) : ldL (X ++ d) dgB = ldL (X ++ R) dgB := by
  induction X with
  | nil =>
    simp only [List.nil_append, List.length_nil, Nat.le_zero] at h ⊢
    rw [h, hd.ld]
  | cons b X ih =>
    rw [List.cons_append] at h ⊢
    by_cases hb : dgB.contains b = true
    · rw [ldL_pos hb, List.length_cons] at h
      rw [ldL_pos hb, List.cons_append, ldL_pos hb, ih (by omega)]
    · rw [ldL_neg hb, List.cons_append, ldL_neg hb]
theorem exN_mark : exMs = [[101], [69], [101, 43], [69, 43], [101, 45], [69, 45]] := by decide
/-- The exponent, byte by byte. -/
def exS : List UInt8 → Nat
  | [] => 0
  | s :: l2 => if (s = 43 ∨ s = 45) ∧ 0 < ldL l2 dgB then 2 + ldL l2 dgB else 0
def exC : List UInt8 → Nat
  | [] => 0
  | c :: l1 => if c = 101 ∨ c = 69 then (if 0 < ldL l1 dgB then 1 + ldL l1 dgB else exS l1) else 0
theorem lb1 (m c : UInt8) (l : List UInt8) : lbN (c :: l) [m] = if c = m then ldL l dgB else 0 := by
  unfold lbN
  by_cases h : c = m
  · subst h; simp [List.isPrefixOf]
  · rw [if_neg h, if_neg]
    simp [List.isPrefixOf]
    exact fun e => h e.symm
theorem lb2 (m n c s : UInt8) (l : List UInt8) : lbN (c :: s :: l) [m, n] = if c = m ∧ s = n then ldL l dgB else 0 := by
  unfold lbN
  by_cases h : c = m ∧ s = n
  · obtain ⟨rfl, rfl⟩ := h; simp [List.isPrefixOf]
  · rw [if_neg h, if_neg]
    simp [List.isPrefixOf]
    exact fun e1 e2 => h ⟨e1.symm, e2.symm⟩
theorem lb2' (m n c : UInt8) : lbN [c] [m, n] = 0 := by
  unfold lbN
  rw [if_neg]
  simp [List.isPrefixOf]
theorem lb0 (m : UInt8) (ms : List UInt8) : lbN [] (m :: ms) = 0 := by
  unfold lbN
  rw [if_neg]
  simp [List.isPrefixOf]
theorem exN_C (l : List UInt8) : exN l = exC l := by
  unfold exN
  rw [exN_mark]
  cases l with
  | nil => simp only [exG, lb0, exC]; rfl
  | cons c l1 =>
    cases l1 with
    | nil =>
      simp only [exG, lb1, lb2', exC, exS]
      have : ldL [] dgB = 0 := rfl
      simp [this]
    | cons s l2 =>
      simp only [exG, lb1, lb2, exC, exS]
      by_cases h1 : c = 101
      · subst h1
        by_cases h2 : 0 < ldL (s :: l2) dgB
        · simp [h2]
        · by_cases h3 : s = 43
          · subst h3
            by_cases h4 : 0 < ldL l2 dgB <;> simp [h2, h4]
          · by_cases h5 : s = 45
            · subst h5
              by_cases h4 : 0 < ldL l2 dgB <;> simp [h2, h4]
            · simp [h2, h3, h5]
      · by_cases h1' : c = 69
        · subst h1'
          by_cases h2 : 0 < ldL (s :: l2) dgB
          · simp [h2]
          · by_cases h3 : s = 43
            · subst h3
              by_cases h4 : 0 < ldL l2 dgB <;> simp [h2, h4]
            · by_cases h5 : s = 45
              · subst h5
                by_cases h4 : 0 < ldL l2 dgB <;> simp [h2, h4]
              · simp [h2, h3, h5]
        · simp [h1, h1']
theorem ex_stable {X R d : List UInt8} (h : exN (X ++ R) = X.length) (hd : Blk0 d) : exN (X ++ d) = X.length := by
  rw [exN_C] at h ⊢
  cases X with
  | nil =>
    rw [List.nil_append]
    cases d with
    | nil => rfl
    | cons b r => rw [hd b r rfl]; simp [exC]
  | cons c X =>
    rw [List.cons_append, exC, List.length_cons] at h
    rw [List.cons_append, exC, List.length_cons]
    split at h
    · rename_i hc
      rw [if_pos hc]
      split at h
      · rename_i h1
        have e := ld_short (X := X) (R := R) (d := d) (by omega) hd
        rw [e, if_pos h1]; exact h
      · rename_i h1
        cases X with
        | nil =>
          simp only [List.nil_append, List.length_nil] at h
          cases R with
          | nil => simp only [exS] at h; omega
          | cons s R => simp only [exS] at h; split at h <;> omega
        | cons s X =>
          rw [List.cons_append] at h1 h ⊢
          have hs : ¬ dgB.contains s = true := fun hs => h1 (by rw [ldL_pos hs]; omega)
          rw [if_neg (by rw [ldL_neg hs]; omega)]
          simp only [List.length_cons, exS] at h ⊢
          split at h
          · rename_i h2
            have e := ld_short (X := X) (R := R) (d := d) (by omega) hd
            rw [e, if_pos h2]; exact h
          · omega
    · omega
theorem drop_app {X R : List UInt8} {a : Nat} (h : a ≤ X.length) : (X ++ R).drop a = X.drop a ++ R := by rw [List.drop_append_of_le_length h]
theorem lit_stable {X R d : List UInt8} (h : litN (X ++ R) = X.length) (h0 : 0 < X.length) (hd : Blk0 d) : litN (X ++ d) = X.length := by
  have ha : ldL (X ++ R) dgB ≤ X.length := by
    unfold litN at h
    split at h
    · omega
    · split at h
      · split at h <;> omega
      · omega
  have e := ld_short ha hd
  obtain ⟨a, hA⟩ : ∃ a, ldL (X ++ R) dgB = a := ⟨_, rfl⟩
  rw [hA] at ha e
  unfold litN at h ⊢
  rw [hA, drop_app ha] at h
  rw [e, drop_app ha]
  obtain ⟨Y, hY⟩ : ∃ Y, X.drop a = Y := ⟨_, rfl⟩
  have hYl : Y.length = X.length - a := by rw [← hY, List.length_drop]
  rw [hY] at h ⊢
  cases Y with
  | nil =>
    rw [List.nil_append] at h ⊢
    have hxa : X.length = a := by simp at hYl; omega
    have n1 : lbN d [47] = 0 := by unfold lbN; rw [if_neg (by rw [hd.pfx (fun b r e => by cases e; decide) (by simp)]; decide)]
    rw [if_neg (by omega), if_neg (by rw [hd.pfx (fun b r e => by cases e; decide) (by simp)]; decide)]
    have := ex_stable (X := []) (R := []) (d := d) (by decide +kernel) hd
    rw [List.nil_append] at this
    rw [this]; simp; omega
  | cons c Y =>
    rw [List.cons_append] at h ⊢
    rw [lb1] at h
    rw [lb1]
    by_cases h47 : c = 47
    · subst h47
      rw [if_pos rfl] at h
      rw [if_pos rfl]
      by_cases hp : 0 < ldL (Y ++ R) dgB
      · rw [if_pos hp] at h
        simp only [List.length_cons] at hYl
        have e2 := ld_short (X := Y) (R := R) (d := d) (by omega) hd
        rw [e2, if_pos hp]; exact h
      · rw [if_neg hp, if_neg (by simp [List.isPrefixOf]), exN_C] at h
        exfalso
        simp only [List.length_cons] at hYl
        rw [exC, if_neg (by decide)] at h
        omega
    · rw [if_neg h47, if_neg (by omega)] at h
      rw [if_neg h47, if_neg (by omega)]
      by_cases h46 : c = 46
      · subst h46
        rw [if_pos (by simp [List.isPrefixOf]), lb1, if_pos rfl] at h
        rw [if_pos (by simp [List.isPrefixOf]), lb1, if_pos rfl]
        by_cases hz : a + ldL (Y ++ R) dgB = 0
        · rw [if_pos hz] at h; omega
        · rw [if_neg hz] at h
          simp only [List.length_cons] at hYl
          have hle : ldL (Y ++ R) dgB ≤ Y.length := by omega
          have e2 := ld_short hle hd
          rw [e2, if_neg hz]
          obtain ⟨b, hb⟩ : ∃ b, ldL (Y ++ R) dgB = b := ⟨_, rfl⟩
          rw [hb] at h hle ⊢
          have hn : a + (1 + b) ≤ X.length := by omega
          rw [drop_app hn] at h ⊢
          have := ex_stable (X := X.drop (a + (1 + b))) (R := R) (d := d) (by rw [List.length_drop]; omega) hd
          rw [this, List.length_drop]; omega
      · have hnp : ∀ Z : List UInt8, ([46] : List UInt8).isPrefixOf (c :: Z) = false := fun Z => by simp [List.isPrefixOf]; exact fun e => h46 e.symm
        rw [if_neg (by rw [hnp]; decide)] at h
        rw [if_neg (by rw [hnp]; decide)]
        have := ex_stable (X := c :: Y) (R := R) (d := d) (by rw [List.cons_append]; omega) hd
        rw [List.cons_append] at this
        rw [this]; omega
end Go.Proofs.YtcpglhcdllegnabGreatDoor

import Derived.Test.YtcpglhcdllegnaaGreatDoorLxNAll
import Derived.Test.YtcpglhcdllegnaaGreatDoorLyNAll
namespace Go.Proofs.YtcpglhcdllegnaaGreatDoor
open Go.RowKit Go.Shelf

-- what is read of a text stays so where a blank, or nothing, comes behind it
/-- Nothing, or a blank, comes there. -/
def Blk0 (d : List UInt8) : Prop := ∀ b l, d = b :: l → b = 32
theorem Blk0.nm {d : List UInt8} (h : Blk0 d) : ∀ b r, d = b :: r → nmB.contains b = false := fun b r e => by rw [h b r e]; decide
theorem Blk0.dg {d : List UInt8} (h : Blk0 d) : ∀ b r, d = b :: r → dgB.contains b = false := fun b r e => by rw [h b r e]; decide
theorem Blk0.ld {d : List UInt8} (h : Blk0 d) : ldL d dgB = 0 := by
  cases d with
  | nil => rfl
  | cons b r => exact ldL_neg (by rw [h.dg b r rfl]; decide)
theorem Blk0.pfx {d m : List UInt8} (h : Blk0 d) (hm : ∀ b r, m = b :: r → b ≠ 32) (hn : m ≠ []) : m.isPrefixOf d = false := by
  cases m with
  | nil => exact absurd rfl hn
  | cons c m =>
    cases d with
    | nil => rfl
    | cons b r =>
      rw [h b r rfl]
      simp [List.isPrefixOf]
      intro e
      exact absurd e (hm c m rfl)
/-- How many digits come first, where more come than all: -/
theorem ld_short {X R d : List UInt8} (h : ldL (X ++ R) dgB ≤ X.length) (hd : Blk0 d) : ldL (X ++ d) dgB = ldL (X ++ R) dgB := by
  induction X with
  | nil =>
    simp only [List.nil_append, List.length_nil, Nat.le_zero] at h ⊢
    rw [h, hd.ld]
  | cons b X ih =>
    rw [List.cons_append] at h ⊢
    by_cases hb : dgB.contains b = true
    · rw [ldL_pos hb, List.length_cons] at h
      rw [ldL_pos hb, List.cons_append, ldL_pos hb, ih (by omega)]
    · rw [ldL_neg hb, List.cons_append, ldL_neg hb]
theorem exN_mark : exMs = [[101], [69], [101, 43], [69, 43], [101, 45], [69, 45]] := by decide
/-- The exponent, byte by byte. -/
def exS : List UInt8 → Nat
  | [] => 0
  | s :: l2 => if (s = 43 ∨ s = 45) ∧ 0 < ldL l2 dgB then 2 + ldL l2 dgB else 0
def exC : List UInt8 → Nat
  | [] => 0
  | c :: l1 => if c = 101 ∨ c = 69 then (if 0 < ldL l1 dgB then 1 + ldL l1 dgB else exS l1) else 0
theorem lb1 (m c : UInt8) (l : List UInt8) : lbN (c :: l) [m] = if c = m then ldL l dgB else 0 := by
  unfold lbN
  by_cases h : c = m
  · subst h; simp [List.isPrefixOf]
  · rw [if_neg h, if_neg]
    simp [List.isPrefixOf]
    exact fun e => h e.symm
theorem lb2 (m n c s : UInt8) (l : List UInt8) : lbN (c :: s :: l) [m, n] = if c = m ∧ s = n then ldL l dgB else 0 := by
  unfold lbN
  by_cases h : c = m ∧ s = n
  · obtain ⟨rfl, rfl⟩ := h; simp [List.isPrefixOf]
  · rw [if_neg h, if_neg]
    simp [List.isPrefixOf]
    exact fun e1 e2 => h ⟨e1.symm, e2.symm⟩
theorem lb2' (m n c : UInt8) : lbN [c] [m, n] = 0 := by
  unfold lbN
  rw [if_neg]
  simp [List.isPrefixOf]
theorem lb0 (m : UInt8) (ms : List UInt8) : lbN [] (m :: ms) = 0 := by
  unfold lbN
  rw [if_neg]
  simp [List.isPrefixOf]
theorem exN_C (l : List UInt8) : exN l = exC l := by
  unfold exN
  rw [exN_mark]
  cases l with
  | nil => simp only [exG, lb0, exC]; rfl
  | cons c l1 =>
    cases l1 with
    | nil =>
      simp only [exG, lb1, lb2', exC, exS]
      have : ldL [] dgB = 0 := rfl
      simp [this]
    | cons s l2 =>
      simp only [exG, lb1, lb2, exC, exS]
      by_cases h1 : c = 101
      · subst h1
        by_cases h2 : 0 < ldL (s :: l2) dgB
        · simp [h2]
        · by_cases h3 : s = 43
          · subst h3
            by_cases h4 : 0 < ldL l2 dgB <;> simp [h2, h4]
          · by_cases h5 : s = 45
            · subst h5
              by_cases h4 : 0 < ldL l2 dgB <;> simp [h2, h4]
            · simp [h2, h3, h5]
      · by_cases h1' : c = 69
        · subst h1'
          by_cases h2 : 0 < ldL (s :: l2) dgB
          · simp [h2]
          · by_cases h3 : s = 43
            · subst h3
              by_cases h4 : 0 < ldL l2 dgB <;> simp [h2, h4]
            · by_cases h5 : s = 45
              · subst h5
                by_cases h4 : 0 < ldL l2 dgB <;> simp [h2, h4]
              · simp [h2, h3, h5]
        · simp [h1, h1']
theorem ex_stable {X R d : List UInt8} (h : exN (X ++ R) = X.length) (hd : Blk0 d) : exN (X ++ d) = X.length := by
  rw [exN_C] at h ⊢
  cases X with
  | nil =>
    rw [List.nil_append]
    cases d with
    | nil => rfl
    | cons b r => rw [hd b r rfl]; simp [exC]
  | cons c X =>
    rw [List.cons_append, exC, List.length_cons] at h
    rw [List.cons_append, exC, List.length_cons]
    split at h
    · rename_i hc
      rw [if_pos hc]
      split at h
      · rename_i h1
        have e := ld_short (X := X) (R := R) (d := d) (by omega) hd
        rw [e, if_pos h1]; exact h
      · rename_i h1
        cases X with
        | nil =>
          simp only [List.nil_append, List.length_nil] at h
          cases R with
          | nil => simp only [exS] at h; omega
          | cons s R => simp only [exS] at h; split at h <;> omega
        | cons s X =>
          rw [List.cons_append] at h1 h ⊢
          have hs : ¬ dgB.contains s = true := fun hs => h1 (by rw [ldL_pos hs]; omega)
          rw [if_neg (by rw [ldL_neg hs]; omega)]
          simp only [List.length_cons, exS] at h ⊢
          split at h
          · rename_i h2
            have e := ld_short (X := X) (R := R) (d := d) (by omega) hd
            rw [e, if_pos h2]; exact h
          · omega
    · omega
theorem drop_app {X R : List UInt8} {a : Nat} (h : a ≤ X.length) : (X ++ R).drop a = X.drop a ++ R := by rw [List.drop_append_of_le_length h]
theorem lit_stable {X R d : List UInt8} (h : litN (X ++ R) = X.length) (h0 : 0 < X.length) (hd : Blk0 d) : litN (X ++ d) = X.length := by
  have ha : ldL (X ++ R) dgB ≤ X.length := by
    unfold litN at h
    split at h
    · omega
    · split at h
      · split at h <;> omega
      · omega
  have e := ld_short ha hd
  obtain ⟨a, hA⟩ : ∃ a, ldL (X ++ R) dgB = a := ⟨_, rfl⟩
  rw [hA] at ha e
  unfold litN at h ⊢
  rw [hA, drop_app ha] at h
  rw [e, drop_app ha]
  obtain ⟨Y, hY⟩ : ∃ Y, X.drop a = Y := ⟨_, rfl⟩
  have hYl : Y.length = X.length - a := by rw [← hY, List.length_drop]
  rw [hY] at h ⊢
  cases Y with
  | nil =>
    rw [List.nil_append] at h ⊢
    have hxa : X.length = a := by simp at hYl; omega
    have n1 : lbN d [47] = 0 := by unfold lbN; rw [if_neg (by rw [hd.pfx (fun b r e => by cases e; decide) (by simp)]; decide)]
    rw [if_neg (by omega), if_neg (by rw [hd.pfx (fun b r e => by cases e; decide) (by simp)]; decide)]
    have := ex_stable (X := []) (R := []) (d := d) (by decide +kernel) hd
    rw [List.nil_append] at this
    rw [this]; simp; omega
  | cons c Y =>
    rw [List.cons_append] at h ⊢
    rw [lb1] at h
    rw [lb1]
    by_cases h47 : c = 47
    · subst h47
      rw [if_pos rfl] at h
      rw [if_pos rfl]
      by_cases hp : 0 < ldL (Y ++ R) dgB
      · rw [if_pos hp] at h
        simp only [List.length_cons] at hYl
        have e2 := ld_short (X := Y) (R := R) (d := d) (by omega) hd
        rw [e2, if_pos hp]; exact h
      · rw [if_neg hp, if_neg (by simp [List.isPrefixOf]), exN_C] at h
        exfalso
        simp only [List.length_cons] at hYl
        rw [exC, if_neg (by decide)] at h
        omega
    · rw [if_neg h47, if_neg (by omega)] at h
      rw [if_neg h47, if_neg (by omega)]
      by_cases h46 : c = 46
      · subst h46
        rw [if_pos (by simp [List.isPrefixOf]), lb1, if_pos rfl] at h
        rw [if_pos (by simp [List.isPrefixOf]), lb1, if_pos rfl]
        by_cases hz : a + ldL (Y ++ R) dgB = 0
        · rw [if_pos hz] at h; omega
        · rw [if_neg hz] at h
          simp only [List.length_cons] at hYl
          have hle : ldL (Y ++ R) dgB ≤ Y.length := by omega
          have e2 := ld_short hle hd
          rw [e2, if_neg hz]
          obtain ⟨b, hb⟩ : ∃ b, ldL (Y ++ R) dgB = b := ⟨_, rfl⟩
          rw [hb] at h hle ⊢
          have hn : a + (1 + b) ≤ X.length := by omega
          rw [drop_app hn] at h ⊢
          have := ex_stable (X := X.drop (a + (1 + b))) (R := R) (d := d) (by rw [List.length_drop]; omega) hd
          rw [this, List.length_drop]; omega
      · have hnp : ∀ Z : List UInt8, ([46] : List UInt8).isPrefixOf (c :: Z) = false := fun Z => by simp [List.isPrefixOf]; exact fun e => h46 e.symm
        rw [if_neg (by rw [hnp]; decide)] at h
        rw [if_neg (by rw [hnp]; decide)]
        have := ex_stable (X := c :: Y) (R := R) (d := d) (by rw [List.cons_append]; omega) hd
        rw [List.cons_append] at this
        rw [this]; omega
end Go.Proofs.YtcpglhcdllegnaaGreatDoor

namespace Go.Proofs.YtcpglhcdllegnaaGreatDoor
open Go.RowKit Go.Shelf

theorem PairP.prEx {n d e : List UInt8} (h : PairP n d) (he : ∀ b r, e = b :: r → nmB.contains b = false) : Go.Proofs.YtcpglhcdllegnaaGreatDoor.prE (d ++ e) = d := by
  have hg := gp_app false d e h.second
  have hN : gpN (d ++ e) = gpN d := by
    unfold gpN
    rw [hg, List.length_append, List.length_append]
    have := h.gap
    omega
  have h1 := h.prE
  unfold Go.Proofs.YtcpglhcdllegnaaGreatDoor.prE at h1 ⊢
  rw [hg, hN, ld_app h1.1 he, List.take_left, List.take_append_of_le_length (gpN_le d), ← drop_gp, List.take_append_drop]
theorem ld_ge {X R : List UInt8} (h : X.all (nmB.contains ·) = true) : X.length ≤ ldL (X ++ R) nmB := by
  induction X with
  | nil => exact Nat.zero_le _
  | cons b X ih =>
    simp only [List.all_cons, Bool.and_eq_true] at h
    rw [List.cons_append, ldL_pos h.1, List.length_cons]
    have := ih h.2
    omega
theorem nm_stable {X R d : List UInt8} {K WD : Nat} (h : nmN (X ++ R) = (K, WD, X.length)) (hd : Blk0 d) (hcol : colL d = colL R)
    (hp : K = 1 → X.all (nmB.contains ·) = true → (∀ b r, R = b :: r → nmB.contains b = false) → (wordD X (prE R) = 0 ∨ colL ((X ++ R).drop (pairN (X ++ R))) = true) → (wordL X = 0 ∨ colL d = true) → (wordD X (prE d) = 0 ∨ colL ((X ++ d).drop (pairN (X ++ d))) = true)) :
    nmN (X ++ d) = (K, WD, X.length) := by
  unfold nmN at h
  split at h
  · rename_i hc
    simp only [Prod.mk.injEq] at h
    obtain ⟨rfl, hw, hn⟩ := h
    rw [hn, List.take_left, List.drop_left] at hc
    rw [hn, List.take_left] at hw
    have ha : X.all (nmB.contains ·) = true := by have := all_ld (X ++ R) nmB; rw [hn, List.take_left] at this; exact this
    unfold nmN
    rw [ld_app ha hd.nm, List.take_left, List.drop_left, hcol, if_pos hc, hw]
  · rename_i hc
    split at h
    · rename_i hc2
      simp only [Prod.mk.injEq] at h
      obtain ⟨rfl, hw, hn⟩ := h
      rw [hn, List.take_left, List.drop_left] at hc2
      rw [hn, List.take_left] at hw
      have hle : ldL (X ++ R) nmB ≤ X.length := by rw [← hn]; unfold pairN; omega
      rcases word_cases hc2.1 with h1 | ⟨n, e, rfl, h1, _⟩
      · exfalso
        have := ld_ge (R := R) h1
        exact hc (by rw [show ldL (X ++ R) nmB = X.length by omega, List.take_left, List.drop_left]; exact hc2)
      · have hp2 := h1.prEx hd.nm
        have hed : ∀ b r, e ++ d = b :: r → nmB.contains b = false := fun b r ee => by
          cases e with
          | nil => exact absurd h1.gap (by simp)
          | cons c t => simp only [List.cons_append, List.cons.injEq] at ee; exact h1.hd b t (by rw [ee.1])
        have hpa := pair_app h1.nm hed
        rw [hp2] at hpa
        rw [List.append_assoc]
        unfold nmN
        rw [ld_app h1.nm hed, List.take_left, if_neg (fun k => k.1 h1.w0), hpa.2, hpa.1, ← List.append_assoc, ← List.length_append, List.drop_left, hcol, if_pos hc2, hw]
    · rename_i hc2
      simp only [Prod.mk.injEq] at h
      obtain ⟨rfl, rfl, hn⟩ := h
      have ha : X.all (nmB.contains ·) = true := by have := all_ld (X ++ R) nmB; rw [hn, List.take_left] at this; exact this
      have hR : ∀ b r, R = b :: r → nmB.contains b = false := fun b r e => head_ld (X ++ R) nmB b r (by rw [hn, List.drop_left]; exact e)
      rw [hn, List.take_left, List.drop_left] at hc
      rw [(pair_app ha hR).2, wordL_app ha (prE_head hR)] at hc2
      have h1 : wordL X = 0 ∨ colL d = true := by
        rw [hcol]
        by_cases e : wordL X = 0
        · exact .inl e
        · exact .inr (by cases e2 : colL R with | true => rfl | false => exact absurd ⟨e, e2⟩ hc)
      have h2 : wordD X (prE R) = 0 ∨ colL ((X ++ R).drop (pairN (X ++ R))) = true := by
        by_cases e : wordD X (prE R) = 0
        · exact .inl e
        · exact .inr (by cases e2 : colL ((X ++ R).drop (pairN (X ++ R))) with | true => rfl | false => exact absurd ⟨e, e2⟩ hc2)
      exact nmN_first ha hd.nm h1 (hp rfl ha hR h2 h1)
-- signs
theorem pfx_app {p Y Z : List UInt8} (h : p.length ≤ Y.length) : p.isPrefixOf (Y ++ Z) = p.isPrefixOf Y := by
  induction p generalizing Y with
  | nil => simp [List.isPrefixOf]
  | cons c p ih =>
    cases Y with
    | nil => simp at h
    | cons b Y =>
      simp only [List.cons_append, List.isPrefixOf]
      rw [ih (by simpa using h)]
theorem pfx_more {p Y Z : List UInt8} (h : p.isPrefixOf Y = true) : p.isPrefixOf (Y ++ Z) = true := by
  obtain ⟨t, ht⟩ := List.isPrefixOf_iff_prefix.1 h
  exact List.isPrefixOf_iff_prefix.2 ⟨t ++ Z, by rw [← List.append_assoc, ht]⟩
theorem sg_32 : ∀ i, i < 10 → ∀ j, j < i → (sgX j).data.toList.isPrefixOf ((sgX i).data.toList ++ [32]) = (sgX j).data.toList.isPrefixOf (sgX i).data.toList := by decide +kernel
theorem sg_len : ∀ i, i < 10 → ∀ j, j < 10 → (sgX j).data.toList.length ≤ ((sgX i).data.toList ++ [32]).length := by decide +kernel
theorem sg_stable {i : Nat} {R d : List UInt8} (hi : i < 10) (hno : ∀ j, j < i → (sgX j).data.toList.isPrefixOf ((sgX i).data.toList ++ R) = false) (hd : Blk0 d) : ∀ j, j < i → (sgX j).data.toList.isPrefixOf ((sgX i).data.toList ++ d) = false := by
  intro j hj
  have h0 : (sgX j).data.toList.isPrefixOf (sgX i).data.toList = false := by
    cases e : (sgX j).data.toList.isPrefixOf (sgX i).data.toList with
    | false => rfl
    | true => have := hno j hj; rw [pfx_more e] at this; cases this
  cases d with
  | nil => rw [List.append_nil]; exact h0
  | cons b r =>
    rw [hd b r rfl, show (sgX i).data.toList ++ 32 :: r = ((sgX i).data.toList ++ [32]) ++ r by simp, pfx_app (sg_len i hi j (by omega)), sg_32 i hi j hj]
    exact h0
-- what is read
theorem beg_app {X R d : List UInt8} (h : X ≠ []) : begL (X ++ R) = begL (X ++ d) ∧ (X ++ R).getD 0 0 = (X ++ d).getD 0 0 := by
  cases X with
  | nil => exact absurd rfl h
  | cons b X => exact ⟨rfl, rfl⟩
theorem rd_stable {D : ByteArray → Rat → Prop} {r P : ByteArray} {k n wd : Nat} {q : Rat} {X R d : List UInt8} (h : Rd D r k n wd q) (hr : r.data.toList = X ++ R) (hn : n = X.length) (h0 : X ≠ []) (hP : P.data.toList = X ++ d) (hd : Blk0 d) (hcol : colL d = colL R)
    (hp : k = 1 → X.all (nmB.contains ·) = true → (∀ b r, R = b :: r → nmB.contains b = false) → (wordD X (prE R) = 0 ∨ colL ((X ++ R).drop (pairN (X ++ R))) = true) → (wordL X = 0 ∨ colL d = true) → (wordD X (prE d) = 0 ∨ colL ((X ++ d).drop (pairN (X ++ d))) = true)) : Rd D P k n wd q := by
  subst hn
  have e1 : r.extract 0 X.length = P.extract 0 X.length := ba_eq (by rw [ext_front, ext_front, hr, hP, List.take_left, List.take_left])
  obtain ⟨b1, b2⟩ := beg_app (R := R) (d := d) h0
  have hpos : 0 < X.length := List.length_pos_iff.2 h0
  unfold Rd at h ⊢
  rw [hr, b1, b2, e1] at h
  rw [hP]
  rcases h with ⟨h1, h2, h3, h4, h5, h6⟩ | ⟨h1, h2, h3, h4⟩ | ⟨h1, h2, h3, h4, i, h5, h6, h7, h8, h9⟩
  · exact .inl ⟨h1, h2, (lit_stable h3.symm hpos hd).symm, h4, h5, h6⟩
  · exact .inr (.inl ⟨h1, h2, nm_stable h3 hd hcol hp, h4⟩)
  · have hX : X = (sgX i).data.toList := by
      obtain ⟨t, ht⟩ := List.isPrefixOf_iff_prefix.1 h6
      have := congrArg (List.take X.length) ht
      rw [List.take_left, h9, ← len_list, List.take_left] at this
      exact this.symm
    subst hX
    exact .inr (.inr ⟨h1, h2, h3, h4, i, h5, pfx_more (List.isPrefixOf_iff_prefix.2 (List.prefix_refl _)), sg_stable h5 h7 hd, h8, h9⟩)
theorem rd_det {D : ByteArray → Rat → Prop} (hD : ∀ x q q', D x q → D x q' → q = q') {r : ByteArray} {k n wd k' n' wd' : Nat} {q q' : Rat} (h : Rd D r k n wd q) (h' : Rd D r k' n' wd' q') : k = k' ∧ n = n' ∧ wd = wd' ∧ q = q' := by
  rcases h with ⟨h1, h2, h3, h4, h5, h6⟩ | ⟨h1, h2, h3, h4⟩ | ⟨h1, h2, h3, h4, i, h5, h6, h7, h8, h9⟩ <;> rcases h' with ⟨g1, g2, g3, g4, g5, g6⟩ | ⟨g1, g2, g3, g4⟩ | ⟨g1, g2, g3, g4, j, g5, g6, g7, g8, g9⟩
  · subst h3 g3; exact ⟨by omega, rfl, by omega, hD _ _ _ h6 g6⟩
  · rw [h1] at g1; cases g1
  · rw [h1] at g1; cases g1
  · rw [h1] at g1; cases g1
  · rw [h3] at g3; simp only [Prod.mk.injEq] at g3; exact ⟨g3.1, g3.2.2, g3.2.1, h4.trans g4.symm⟩
  · rw [h2] at g2; cases g2
  · rw [h1] at g1; cases g1
  · rw [h2] at g2; cases g2
  · obtain rfl : i = j := by
      rcases Nat.lt_trichotomy i j with e | e | e
      · have := g7 i e; rw [h6] at this; cases this
      · exact e
      · have := h7 j e; rw [g6] at this; cases this
    exact ⟨h8.trans g8.symm, h9.trans g9.symm, h3.trans g3.symm, h4.trans g4.symm⟩
theorem rd_rn {D : ByteArray → Rat → Prop} {E : ByteArray → Int → Prop} (hDE : ∀ x q code, D x q → ¬ E x code) {r : ByteArray} {k n wd g : Nat} {q : Rat} {code : Int} (h : Rd D r k n wd q) (h' : Rn E r g code) : False := by
  rcases h with ⟨h1, h2, h3, h4, h5, h6⟩ | ⟨h1, h2, h3, h4⟩ | ⟨h1, h2, h3, h4, i, h5, h6, h7, h8, h9⟩ <;> rcases h' with ⟨g1, g2, g3, g4⟩ | ⟨g1, g2, g3, g4⟩
  · subst h3; exact hDE _ _ _ h6 g3
  · rw [h1] at g1; cases g1
  · rw [h1] at g1; cases g1
  · rw [h2] at g2; cases g2
  · rw [h1] at g1; cases g1
  · have := g3 i h5; rw [h6] at this; cases this
theorem sg_head : ∀ i, i < 10 → ¬ blB.contains ((sgX i).data.toList.getD 0 0) = true ∧ ¬ (sgX i).data.toList.getD 0 0 = 92 := by decide +kernel
theorem dg_not : ∀ b : UInt8, dgB.contains b = true → ¬ blB.contains b = true ∧ ¬ b = 92 := fun b => byte_all (p := fun b => dgB.contains b = true → ¬ blB.contains b = true ∧ ¬ b = 92) (by decide +kernel) b
/-- What is read begins with a byte that is in no gap. -/
theorem rd_head {D : ByteArray → Rat → Prop} {r : ByteArray} {k n wd : Nat} {q : Rat} (h : Rd D r k n wd q) (h0 : 0 < r.size) : ∃ b l, r.data.toList = b :: l ∧ ¬ blB.contains b = true ∧ ¬ b = 92 := by
  cases hl : r.data.toList with
  | nil => have := len_list r; rw [hl] at this; simp at this; omega
  | cons b l =>
    refine ⟨b, l, rfl, ?_⟩
    unfold Rd at h
    rw [hl] at h
    rcases h with ⟨h1, _⟩ | ⟨h1, h2, _⟩ | ⟨h1, h2, h3, h4, i, h5, h6, _⟩
    · unfold begL at h1
      simp only [List.head?_cons, List.headD_cons, Bool.or_eq_true, beq_iff_eq, Option.some.injEq] at h1
      rcases h1 with rfl | h1
      · decide
      · exact dg_not b h1
    · exact nm_not b h2
    · have hs := sg_head i h5
      have hp := sgX_size i h5
      cases hx : (sgX i).data.toList with
      | nil => have := len_list (sgX i); rw [hx] at this; simp at this; omega
      | cons c t =>
        rw [hx] at h6 hs
        have e : c = b := by simp [List.isPrefixOf] at h6; exact h6.1
        rw [← e]; exact hs
end Go.Proofs.YtcpglhcdllegnaaGreatDoor

namespace Go.Proofs.YtcpglhcdllegnaaGreatDoor
open Go.RowKit Go.Shelf

theorem gp_true_short2 {l : List UInt8} (h : gp true l = l) : l = [] := by
  cases l with
  | nil => rfl
  | cons b r =>
    have h1 := congrArg List.length h
    by_cases hb : b = 10
    · subst hb
      rw [gp_off, gp_ten] at h1
      have := gp_len false r
      simp at h1; omega
    · rw [gp_on hb] at h1
      have := gp_len true r
      simp at h1; omega
-- texts of tokens, a blank between each two
def jn : List Tok → List UInt8
  | [] => []
  | [t] => t.x.data.toList
  | t :: t2 :: ts => t.x.data.toList ++ 32 :: jn (t2 :: ts)
def dj : List Tok → List UInt8
  | [] => []
  | t :: ts => 32 :: jn (t :: ts)
theorem jn_cons (t : Tok) (ts : List Tok) : jn (t :: ts) = t.x.data.toList ++ dj ts := by
  cases ts with
  | nil => exact (List.append_nil _).symm
  | cons t2 ts => rfl
theorem dj_blk (ts : List Tok) : Blk0 (dj ts) := fun b l e => by
  cases ts with
  | nil => cases e
  | cons t ts => simp only [dj, List.cons.injEq] at e; exact e.1.symm
/-- A token's parts, of what is read. -/
theorem pch_split {D : ByteArray → Rat → Prop} {r : ByteArray} {l c : Int} {t : Tok} {ts : List Tok} {R' : ByteArray} {L' C' : Int} (h : Pch D r l c (t :: ts) R' L' C') :
    ∃ R r2 l2 c2, r.data.toList = t.x.data.toList ++ R ∧ t.x.data.toList ≠ [] ∧ Rd D r t.k t.x.data.toList.length t.wd t.q ∧ r2.data.toList = gp false R ∧ Pch D r2 l2 c2 ts R' L' C' ∧ 0 < r.size := by
  obtain ⟨h0, _, _, h3, ⟨n, hn, hx, hR⟩, r1, r2, e1, e2, hP⟩ := h
  have hxs : t.x.size = n := by rw [← hx]; exact ext0 r n hn
  have f0 : t.x.data.toList = r.data.toList.take n := by rw [← hx, ext_front]
  have f1 : r1.data.toList = r.data.toList.drop n := by rw [← e1, hxs, ext_back]
  refine ⟨r1.data.toList, r2, _, _, ?_, fun e => ?_, ?_, ?_, hP, h0⟩
  · rw [f0, f1, List.take_append_drop]
  · have := len_list t.x; rw [e] at this; simp at this; omega
  · rw [len_list, hxs]; exact hR
  · rw [← e2, ext_back, drop_gp]
theorem jn_head {D : ByteArray → Rat → Prop} {r : ByteArray} {l c : Int} {t : Tok} {ts : List Tok} {R' : ByteArray} {L' C' : Int} (h : Pch D r l c (t :: ts) R' L' C') :
    ∃ b m m', r.data.toList = b :: m ∧ jn (t :: ts) = b :: m' ∧ ¬ blB.contains b = true ∧ ¬ b = 92 := by
  obtain ⟨R, r2, l2, c2, h1, h2, h3, _, _, h0⟩ := pch_split h
  obtain ⟨b, m, e, hb⟩ := rd_head h3 h0
  rw [jn_cons]
  cases hx : t.x.data.toList with
  | nil => exact absurd hx h2
  | cons b' m' =>
    rw [hx, List.cons_append, e] at h1
    simp only [List.cons.injEq] at h1
    exact ⟨b, m, m' ++ dj ts, e, by rw [List.cons_append, h1.1], hb⟩
theorem gp_jn {D : ByteArray → Rat → Prop} {r : ByteArray} {l c : Int} {t : Tok} {ts : List Tok} {R' : ByteArray} {L' C' : Int} (h : Pch D r l c (t :: ts) R' L' C') : gp false (jn (t :: ts)) = jn (t :: ts) := by
  obtain ⟨b, m, m', _, e, h1, h2⟩ := jn_head h
  rw [e, gp_stay h1 h2]
theorem gp_dj {D : ByteArray → Rat → Prop} {r : ByteArray} {l c : Int} {ts : List Tok} {R' : ByteArray} {L' C' : Int} (h : Pch D r l c ts R' L' C') : gp false (dj ts) = jn ts := by
  cases ts with
  | nil => rfl
  | cons t ts => rw [dj, gp_bl (by decide), gp_jn h]
/-- A colon comes next in both. -/
theorem col_dj {D : ByteArray → Rat → Prop} {r : ByteArray} {l c : Int} {ts : List Tok} {R' : ByteArray} {L' C' : Int} (h : Pch D r l c ts R' L' C') (h0 : R'.size = 0) {R : List UInt8} (hr : r.data.toList = gp false R) : colL (dj ts) = colL R := by
  unfold colL
  rw [gp_dj h, ← hr]
  cases ts with
  | nil =>
    obtain ⟨rfl, _⟩ := h
    rw [show R'.data.toList = [] from List.eq_nil_of_length_eq_zero (by rw [len_list]; exact h0)]
    rfl
  | cons t ts =>
    obtain ⟨b, m, m', e1, e2, _⟩ := jn_head h
    rw [e1, e2]
    simp [List.isPrefixOf]
/-- The same gap ahead of other bytes. -/
theorem gp_pre {z y : List UInt8} (hz : z ≠ []) (hy : gp false y = y) : ∀ (p : List UInt8) (m : Bool), gp m (p ++ z) = z → gp m (p ++ y) = y
  | [], m, h => by
    cases m with
    | false => exact hy
    | true => exact absurd (gp_true_short2 h) hz
  | b :: p, m, h => by
    rw [List.cons_append] at h ⊢
    cases m with
    | true =>
      by_cases hb : b = 10
      · subst hb
        rw [gp_off, gp_ten] at h ⊢
        exact gp_pre hz hy p false h
      · rw [gp_on hb] at h ⊢
        exact gp_pre hz hy p true h
    | false =>
      by_cases h1 : blB.contains b = true
      · rw [gp_bl h1] at h ⊢
        exact gp_pre hz hy p false h
      · by_cases h2 : b = 92
        · subst h2
          rw [gp_rem, gp_on (by decide)] at h ⊢
          exact gp_pre hz hy p true h
        · rw [gp_stay h1 h2] at h
          have := congrArg List.length h
          simp at this; omega
theorem prW_second {l : List UInt8} (h : ¬ prW l = []) : 97 ≤ ((prW l).headD 0).toNat ∧ ((prW l).headD 0).toNat ≤ 122 ∧ prW l ≠ [115, 117, 98, 106, 101, 99, 116] ∧ prW l ≠ [115, 117, 99, 104] := by
  unfold prW at h ⊢
  split
  · decide
  · split
    · decide
    · rename_i h1 h2
      rw [if_neg h1, if_neg h2] at h
      exact absurd rfl h
/-- A name stays a name: no pair comes to be. -/
theorem pair_next {D : ByteArray → Rat → Prop} {r : ByteArray} {l c : Int} {ts : List Tok} {R' : ByteArray} {L' C' : Int} (h : Pch D r l c ts R' L' C') (h0 : R'.size = 0) {X R : List UInt8} (hr : r.data.toList = gp false R)
    (ha : X.all (nmB.contains ·) = true) (hR : ∀ b r, R = b :: r → nmB.contains b = false) (h1 : wordD X (prE R) = 0 ∨ colL ((X ++ R).drop (pairN (X ++ R))) = true) (h2 : wordL X = 0 ∨ colL (dj ts) = true) :
    wordD X (prE (dj ts)) = 0 ∨ colL ((X ++ dj ts).drop (pairN (X ++ dj ts))) = true := by
  cases ts with
  | nil =>
    have e : colL (dj []) = false := by decide
    rw [e] at h2
    rcases h2 with h2 | h2
    · left
      have := wordL_app (e := []) ha (fun b r e => by cases e)
      rw [List.append_nil] at this
      rw [show prE (dj []) = [] by decide, ← this]; exact h2
    · cases h2
  | cons t ts =>
    obtain ⟨J, hJ⟩ : ∃ J, jn (t :: ts) = J := ⟨_, rfl⟩
    have hgJ := gp_jn h
    rw [hJ] at hgJ
    have hdj : dj (t :: ts) = 32 :: J := by rw [dj, hJ]
    have hg32 : gp false (32 :: J) = J := by rw [gp_bl (by decide), hgJ]
    have hgN : gpN (32 :: J) = 1 := by unfold gpN; rw [hg32]; simp
    obtain ⟨s2, hs2⟩ : ∃ s2, J.take (ldL J nmB) = s2 := ⟨_, rfl⟩
    have hs2a : s2.all (nmB.contains ·) = true := hs2 ▸ all_ld J nmB
    have hpr : prE (32 :: J) = 32 :: s2 := by
      unfold prE
      rw [hgN, hg32, hs2]; rfl
    rw [hdj, hpr]
    have hw := word_pair ha hs2a
    rw [wordL_app ha (fun b r e => by cases e; decide)] at hw
    by_cases hc : ¬ prW (X.map smB) = [] ∧ s2.map smB = prW (X.map smB)
    · right
      obtain ⟨R2, r2, l2, c2, k1, k2, k3, k4, k5, k6⟩ := pch_split h
      have hpw := prW_second hc.1
      have hab := abc_head (a := s2) (by rw [hc.2]; exact ⟨hpw.1, hpw.2.1⟩)
      have hJa := abc_app (d := J.drop (ldL J nmB)) hab
      rw [← hs2, List.take_append_drop] at hJa
      obtain ⟨b, m, m', e1, e2, _⟩ := jn_head h
      rw [hJ] at e2
      have hrb : begL r.data.toList = false ∧ nmB.contains (r.data.toList.getD 0 0) = true := by
        rw [e2] at hJa
        rw [e1]; exact ⟨hJa.1, hJa.2.1⟩
      have hJx : J = t.x.data.toList ++ dj ts := by rw [← hJ, jn_cons]
      -- the next token is that name
      have hx2 : t.x.data.toList = s2 ∧ ldL r.data.toList nmB = s2.length := by
        rcases k3 with ⟨g1, _⟩ | ⟨_, _, g3, _⟩ | ⟨_, g2, _⟩
        · rw [hrb.1] at g1; cases g1
        · have single : ldL r.data.toList nmB = t.x.data.toList.length → t.x.data.toList = s2 ∧ ldL r.data.toList nmB = s2.length := fun e => by
            have hxa : t.x.data.toList.all (nmB.contains ·) = true := by
              have := all_ld r.data.toList nmB
              rw [e, k1, List.take_left] at this; exact this
            have : s2 = t.x.data.toList := by rw [← hs2, hJx, ld_app hxa (dj_blk ts).nm, List.take_left]
            exact ⟨this.symm, by rw [e, this]⟩
          unfold nmN at g3
          split at g3
          · simp only [Prod.mk.injEq] at g3; exact single g3.2.2
          · split at g3
            · rename_i hc2
              simp only [Prod.mk.injEq] at g3
              have hx : r.data.toList.take (pairN r.data.toList) = t.x.data.toList := by rw [g3.2.2, k1, List.take_left]
              rw [hx] at hc2
              rcases word_cases hc2.1 with q1 | ⟨n, e, q0, q1, _⟩
              · refine single ?_
                have := ld_ge (R := R2) q1
                rw [← k1] at this
                have hle : ldL r.data.toList nmB ≤ pairN r.data.toList := by unfold pairN; omega
                rw [g3.2.2] at hle
                omega
              · exfalso
                have hed : ∀ b r, e ++ dj ts = b :: r → nmB.contains b = false := fun b r ee => by
                  cases e with
                  | nil => exact absurd q1.gap (by simp)
                  | cons c t => simp only [List.cons_append, List.cons.injEq] at ee; exact q1.hd b t (by rw [ee.1])
                have : s2 = n := by rw [← hs2, hJx, q0, List.append_assoc, ld_app q1.nm hed, List.take_left]
                have hc3 := hc.2
                rw [this] at hc3
                rcases q1.one with q | q
                · exact hpw.2.2.1 (by rw [← hc3]; exact q)
                · exact hpw.2.2.2 (by rw [← hc3]; exact q)
            · simp only [Prod.mk.injEq] at g3; exact single g3.2.2
        · rw [hrb.2] at g2; cases g2
      obtain ⟨hx2, hld⟩ := hx2
      -- in the text itself the pair stands there: a colon follows
      have hgp : R.take (gpN R) ++ r.data.toList = R := by rw [hr, ← drop_gp, List.take_append_drop]
      have hrne : r.data.toList ≠ [] := by rw [e1]; simp
      have hprR : prE R = R.take (gpN R) ++ s2 := by
        unfold prE
        rw [← hr, hld, k1, hx2, List.take_left]
      have hs2g : gp false s2 = s2 := gp_nm (all_head hs2a)
      have hgpR : gp false (prE R) = s2 := by
        rw [hprR]
        refine gp_pre hrne hs2g (R.take (gpN R)) false ?_
        rw [hgp, ← hr]
      have hgn : 0 < gpN R := by
        rcases Nat.eq_zero_or_pos (gpN R) with e | e
        · exfalso
          rw [e, List.take_zero, List.nil_append] at hgp
          have := hR b m (by rw [← hgp]; exact e1)
          have h9 := hrb.2
          rw [e1] at h9
          simp only [List.getD_cons_zero] at h9
          rw [this] at h9; cases h9
        · exact e
      have hlen : (prE R).length = gpN R + s2.length := by
        rw [hprR, List.length_append, List.length_take]
        have := gpN_le R
        omega
      have hw3 : wordD X (prE R) = 3 := by
        unfold wordD
        rw [if_pos ⟨hc.1, by rw [hgpR]; omega, by rw [hgpR]; exact hc.2⟩]
      rw [hw3] at h1
      have hcol : colL ((X ++ R).drop (pairN (X ++ R))) = true := h1.resolve_left (by decide)
      rw [(pair_app ha hR).1, hlen, ← List.drop_drop, List.drop_left, ← List.drop_drop, drop_gp, ← hr, k1, ← hx2, List.drop_left] at hcol
      -- so it does here
      have hdn : ∀ b r, (32 :: J : List UInt8) = b :: r → nmB.contains b = false := fun b r e => by cases e; decide
      rw [(pair_app ha hdn).1, hpr, ← List.drop_drop, List.drop_left, List.length_cons, ← hx2, hJx, List.drop_succ_cons, List.drop_left, col_dj k5 h0 k4]
      exact hcol
    · left
      rw [hw, if_neg hc]
/-- The same token but for its place. -/
def SameT (t t' : Tok) : Prop := t.k = t'.k ∧ t.x = t'.x ∧ t.wd = t'.wd ∧ t.q = t'.q
theorem pch_join {D : ByteArray → Rat → Prop} {E : ByteArray → Int → Prop} (hD : ∀ x q q', D x q → D x q' → q = q') (hDE : ∀ x q code, D x q → ¬ E x code) : ∀ (ts : List Tok) {r : ByteArray} {l c : Int} {R' : ByteArray} {L' C' : Int}, Pch D r l c ts R' L' C' → R'.size = 0 →
    ∀ {P : ByteArray} {l1 c1 : Int} {ts1 : List Tok} {R1 : ByteArray} {L1 C1 : Int}, P.data.toList = jn ts → Pch D P l1 c1 ts1 R1 L1 C1 → (R1.size = 0 ∨ (∃ g code, Rn E R1 g code)) →
      R1.size = 0 ∧ ts1.length = ts.length ∧ ∀ (i : Nat) t t1, ts[i]? = some t → ts1[i]? = some t1 → SameT t t1
  | [], _, _, _, _, _, _, _, _, _, _, _, _, _, _, _, hP, h1, _ => by
    obtain ⟨rfl, h2⟩ := pch_end h1 hP
    exact ⟨h2, rfl, fun i t t1 e => by cases e⟩
  | t :: ts, r, l, c, R', L', C', h, h0, P, l1, c1, ts1, R1, L1, C1, hP, h1, hend => by
    obtain ⟨R, r2, l2, c2, k1, k2, k3, k4, k5, k6⟩ := pch_split h
    rw [jn_cons] at hP
    have hRd : Rd D P t.k t.x.data.toList.length t.wd t.q := rd_stable k3 k1 rfl k2 hP (dj_blk ts) (col_dj k5 h0 k4) (fun _ ha hR q1 q2 => pair_next k5 h0 k4 ha hR q1 q2)
    have hPs : 0 < P.size := by
      rw [← len_list, hP, List.length_append]
      have := List.length_pos_iff.2 k2
      omega
    cases ts1 with
    | nil =>
      obtain ⟨rfl, _⟩ := h1
      rcases hend with e | ⟨g, code, e⟩
      · omega
      · exact (rd_rn hDE hRd e).elim
    | cons t1 ts1 =>
      obtain ⟨S, s2, m2, n2, j1, j2, j3, j4, j5, j6⟩ := pch_split h1
      obtain ⟨d1, d2, d3, d4⟩ := rd_det hD hRd j3
      have hx : t.x.data.toList = t1.x.data.toList ∧ dj ts = S := List.append_inj (hP.symm.trans j1) d2
      rw [← hx.2, gp_dj k5] at j4
      obtain ⟨q1, q2, q3⟩ := pch_join hD hDE ts k5 h0 j4 j5 hend
      refine ⟨q1, by simp [q2], fun i a a1 ha ha1 => ?_⟩
      cases i with
      | zero =>
        simp only [List.getElem?_cons_zero, Option.some.injEq] at ha ha1
        subst ha ha1
        exact ⟨d1, ba_eq hx.1, d3, d4⟩
      | succ i => exact q3 i a a1 (by simpa using ha) (by simpa using ha1)
end Go.Proofs.YtcpglhcdllegnaaGreatDoor

import Derived.Test.YtfaccnmiopcneaaGreatDoorR3Se
import Derived.Test.YtfaccnmiopcneaaGreatDoorR3Li
namespace Go.Proofs.YtfaccnmiopcneaaGreatDoor
open Go.RowKit

theorem Best.pos {lo hi s : Rat} (h : Best lo hi s) (h0 : 0 < lo) : 0 < s := by
  rcases Decidable.em (0 < s) with h7 | h7
  · exact h7
  · exact absurd (Rat.le_trans h.1 (Rat.not_lt.1 h7)) (Rat.not_le.2 h0)
theorem rat_same {s t : Rat} (hn : s.num = t.num) (hd : s.den = t.den) : s = t := by
  rw [← Rat.num_divInt_den s, ← Rat.num_divInt_den t, hn, hd]
theorem Best.uniqP {lo hi s t : Rat} (h : Best lo hi s) (k : Best lo hi t) (h0 : 0 < lo) : s = t := by
  have h1 := h.2.2 t k.1 k.2.1
  have h2 := k.2.2 s h.1 h.2.1
  have h3 := num_pos_iff.2 (h.pos h0)
  have h4 := num_pos_iff.2 (k.pos h0)
  exact rat_same (by omega) (by omega)
/-- There is but one. -/
theorem Best.uniq {lo hi s t : Rat} (h : Best lo hi s) (k : Best lo hi t) : s = t := by
  rcases Decidable.em (0 < lo) with h0 | h0
  · exact h.uniqP k h0
  · rcases Decidable.em (hi < 0) with h1 | h1
    · have e : ∀ {x : Rat}, Best lo hi x → Best (-hi) (-lo) (-x) := fun {x} hx => Best.neg (by rw [Rat.neg_neg, Rat.neg_neg]; exact hx)
      have := (e h).uniqP (e k) (by have := Rat.neg_lt_neg h1; rwa [Rat.neg_zero] at this)
      rw [← Rat.neg_neg s, ← Rat.neg_neg t, this]
    · have h2 := h.2.2 0 (Rat.not_lt.1 h0) (Rat.not_lt.1 h1)
      have h3 := k.2.2 0 (Rat.not_lt.1 h0) (Rat.not_lt.1 h1)
      have e0 : (0 : Rat).num = 0 := rfl
      have e1 : (0 : Rat).den = 1 := rfl
      have := s.den_pos
      have := t.den_pos
      rw [e0, e1] at h2 h3
      exact rat_same (by omega) (by omega)
/-- A fraction above nought, by its parts. -/
theorem parts_nat {r : Rat} (h : 0 < r) : ∃ A : Nat, r.num = (A : Int) ∧ 0 < A ∧ Rat.divInt (A : Int) (r.den : Int) = r := by
  have h1 := num_pos_iff.2 h
  obtain ⟨A, hA⟩ := Int.eq_ofNat_of_zero_le (Int.le_of_lt h1)
  exact ⟨A, hA, by omega, by rw [← hA]; exact Rat.num_divInt_den r⟩
theorem Ends.of {r s : Rat} {A C : Nat} (h0 : 0 < A) (e1 : Rat.divInt (A : Int) (r.den : Int) = r) (e2 : Rat.divInt (C : Int) (s.den : Int) = s) (hle : r ≤ s) : Ends A r.den C s.den := by
  have h1 := r.den_pos
  have h2 := s.den_pos
  refine ⟨h0, h1, h2, ?_⟩
  rw [div_le (by omega) (by omega) e1 e2] at hle
  exact_mod_cast hle
/-- What the ceiling is. -/
theorem ceil_is (r : Rat) {A : Nat} (hA : r.num = (A : Int)) : (A : Int) ≤ -((-r).num / (-r).den) * (r.den : Int) ∧ (-((-r).num / (-r).den) - 1) * (r.den : Int) < A := by
  rw [Rat.neg_num, Rat.neg_den, hA]
  have hB : (0 : Int) < (r.den : Int) := by have := r.den_pos; omega
  have h1 := Int.ediv_mul_le (-(A : Int)) (b := (r.den : Int)) (by omega)
  have h2 := Int.lt_ediv_add_one_mul_self (-(A : Int)) hB
  generalize (-(A : Int)) / (r.den : Int) = k at *
  rw [Int.add_mul] at h2
  rw [Int.sub_mul, Int.neg_mul]
  omega
theorem whole_parts (x : Int) : ((x : Rat)).num = x ∧ ((x : Rat)).den = 1 := ⟨Rat.num_intCast x, Rat.den_intCast x⟩
theorem div_one (x : Int) : Rat.divInt x 1 = (x : Rat) := by
  have h := Rat.num_divInt_den (x : Rat)
  rw [(whole_parts x).1, (whole_parts x).2] at h
  exact h
theorem Best.ceil {r s : Rat} (h0 : 0 < r) (hc : ((-((-r).num / (-r).den) : Int) : Rat) ≤ s) : Best r s ((-((-r).num / (-r).den) : Int) : Rat) := by
  obtain ⟨A, hA, hA0, e1⟩ := parts_nat h0
  obtain ⟨h1, h2⟩ := ceil_is r hA
  have hB := r.den_pos
  generalize -((-r).num / (-r).den) = c at *
  have hrc : r ≤ (c : Rat) := by
    rw [div_le (by omega) (by decide) e1 (div_one c)]; omega
  refine ⟨hrc, hc, fun x hx1 hx2 => ?_⟩
  rw [(whole_parts c).1, (whole_parts c).2]
  refine ⟨x.den_pos, ?_⟩
  have hx0 : 0 < x := by
    rcases Decidable.em (0 < x) with h7 | h7
    · exact h7
    · exact absurd (Rat.le_trans hx1 (Rat.not_lt.1 h7)) (Rat.not_le.2 h0)
  obtain ⟨X, hX, hX0, e2⟩ := parts_nat hx0
  have hxd := x.den_pos
  rw [div_le (by omega) (by omega) e1 e2] at hx1
  rw [hX]
  -- (c - 1) B < A, A d ≤ X B
  have h3 : c - 1 < (X : Int) := by
    rcases Int.lt_or_le (c - 1) (X : Int) with h | h
    · exact h
    · exfalso
      have h4 : (X : Int) * (r.den : Int) ≤ (c - 1) * (r.den : Int) := Int.mul_le_mul_of_nonneg_right h (by omega)
      have h5 : (A : Int) * 1 ≤ (A : Int) * (x.den : Int) := Int.mul_le_mul_of_nonneg_left (by omega) (by omega)
      omega
  have hc0 : 0 ≤ c := by
    rcases Int.lt_or_le c 0 with h | h
    · exfalso
      have : c * (r.den : Int) ≤ 0 * (r.den : Int) := Int.mul_le_mul_of_nonneg_right (by omega) (by omega)
      omega
    · exact h
  simp only [Int.natAbs_natCast]
  omega
/-- Where the ceiling lies beyond: the parts of what is left. -/
theorem beyond {r s : Rat} {A C : Nat} (hA : r.num = (A : Int)) (e1 : Rat.divInt (A : Int) (r.den : Int) = r) (e2 : Rat.divInt (C : Int) (s.den : Int) = s) (hle : r ≤ s) (hc : ¬ ((-((-r).num / (-r).den) : Int) : Rat) ≤ s) : A % r.den ≠ 0 ∧ ¬ A / r.den < C / s.den := by
  obtain ⟨h1, h2⟩ := ceil_is r hA
  have hB := r.den_pos
  have hD := s.den_pos
  generalize -((-r).num / (-r).den) = c at *
  have ea := Nat.div_add_mod A r.den
  have hm := Nat.mod_lt A hB
  rw [div_le (by decide) (by omega) (div_one c) e2] at hc
  rw [div_le (by omega) (by omega) e1 e2] at hle
  have hcle : c ≤ ((A / r.den : Nat) : Int) + 1 := by
    rcases Int.lt_or_le (((A / r.den : Nat) : Int) + 1) c with h | h
    · exfalso
      have h3 : (((A / r.den : Nat) : Int) + 1) * (r.den : Int) ≤ (c - 1) * (r.den : Int) := Int.mul_le_mul_of_nonneg_right (by omega) (by omega)
      have h4 : (A : Int) < (((A / r.den : Nat) : Int) + 1) * (r.den : Int) := by
        have : A < (A / r.den + 1) * r.den := by rw [Nat.add_mul, Nat.mul_comm (A / r.den)]; omega
        exact_mod_cast this
      omega
    · exact h
  constructor
  · intro h0
    apply hc
    have h3 : c ≤ ((A / r.den : Nat) : Int) := by
      rcases Int.lt_or_le ((A / r.den : Nat) : Int) c with h | h
      · exfalso
        have h4 : ((A / r.den : Nat) : Int) * (r.den : Int) ≤ (c - 1) * (r.den : Int) := Int.mul_le_mul_of_nonneg_right (by omega) (by omega)
        have h5 : (A : Int) = ((A / r.den : Nat) : Int) * (r.den : Int) := by
          have : A = A / r.den * r.den := (Nat.div_mul_cancel (Nat.dvd_of_mod_eq_zero h0)).symm
          exact_mod_cast this
        omega
      · exact h
    have h6 : (c * (s.den : Int)) * (r.den : Int) ≤ ((C : Int) * 1) * (r.den : Int) := by
      have h7 : c * (r.den : Int) ≤ (A : Int) := by
        have h8 : c * (r.den : Int) ≤ ((A / r.den : Nat) : Int) * (r.den : Int) := Int.mul_le_mul_of_nonneg_right h3 (by omega)
        have h9 : ((A / r.den : Nat) : Int) * (r.den : Int) ≤ (A : Int) := by
          have := Nat.div_mul_le_self A r.den
          exact_mod_cast this
        omega
      have h10 : c * (r.den : Int) * (s.den : Int) ≤ (A : Int) * (s.den : Int) := Int.mul_le_mul_of_nonneg_right h7 (by omega)
      rw [Int.mul_right_comm, Int.mul_one]
      omega
    exact Int.le_of_mul_le_mul_right h6 (by omega)
  · intro h0
    apply hc
    have h3 : (((A / r.den : Nat) : Int) + 1) * (s.den : Int) ≤ (C : Int) := by
      have h4 : A / r.den + 1 ≤ C / s.den := h0
      rw [Nat.le_div_iff_mul_le hD] at h4
      exact_mod_cast h4
    have h5 : c * (s.den : Int) ≤ (((A / r.den : Nat) : Int) + 1) * (s.den : Int) := Int.mul_le_mul_of_nonneg_right hcle (by omega)
    omega
/-- What is left of a fraction without its whole part, turned upside down. -/
theorem rest_inv (A B : Nat) (hB : 0 < B) {r : Rat} (e : Rat.divInt (A : Int) (B : Int) = r) : (r - (((A / B : Nat) : Int) : Rat))⁻¹ = Rat.divInt (B : Int) ((A % B : Nat) : Int) := by
  have h1 : r - (((A / B : Nat) : Int) : Rat) = Rat.divInt ((A % B : Nat) : Int) (B : Int) := by
    rw [← e, ← div_one, Rat.divInt_sub_divInt _ _ (by omega) (by decide)]
    congr 1
    · have := Nat.div_add_mod A B
      rw [Int.mul_one]
      have h2 : (A : Int) = (B : Int) * ((A / B : Nat) : Int) + ((A % B : Nat) : Int) := by exact_mod_cast this.symm
      rw [Int.mul_comm ((A / B : Nat) : Int)]
      omega
    · omega
  rw [h1, Rat.inv_divInt]
theorem fl_nat (r : Rat) {A : Nat} (hA : r.num = (A : Int)) : r.num / (r.den : Int) = ((A / r.den : Nat) : Int) := by rw [hA]; rfl
end Go.Proofs.YtfaccnmiopcneaaGreatDoor

import Derived.Test.YtimdohckhfmhiaaGreatDoorR3Li
namespace Go.Proofs.YtimdohckhfmhiaaGreatDoor
open Go.RowKit

/-- D times r is whole, and r is not beyond A either way. -/
def Ov (D A : Int) (r : Rat) : Prop := ∃ m : Int, r * (D : Rat) = (m : Rat) ∧ (m.natAbs : Int) ≤ A * D
theorem Ov.le {D A B : Int} {r : Rat} (h : Ov D A r) (hD : 0 ≤ D) (hAB : A ≤ B) : Ov D B r := by
  obtain ⟨m, h1, h2⟩ := h
  exact ⟨m, h1, Int.le_trans h2 (Int.mul_le_mul_of_nonneg_right hAB hD)⟩
theorem Ov.lift {D A E : Int} {r : Rat} (h : Ov D A r) (hE : 0 ≤ E) : Ov (D * E) A r := by
  obtain ⟨m, h1, h2⟩ := h
  refine ⟨m * E, by rw [Rat.intCast_mul, ← Rat.mul_assoc, h1, Rat.intCast_mul], ?_⟩
  rw [Int.natAbs_mul, Int.natCast_mul, Int.natAbs_of_nonneg hE, ← Int.mul_assoc]
  exact Int.mul_le_mul_of_nonneg_right h2 hE
theorem Ov.lift' {D A E : Int} {r : Rat} (h : Ov D A r) (hE : 0 ≤ E) : Ov (E * D) A r := by rw [Int.mul_comm]; exact h.lift hE
theorem Ov.add {D A B : Int} {r s : Rat} (h : Ov D A r) (k : Ov D B s) : Ov D (A + B) (r + s) := by
  obtain ⟨m, h1, h2⟩ := h
  obtain ⟨n, k1, k2⟩ := k
  refine ⟨m + n, by rw [Rat.add_mul, h1, k1, Rat.intCast_add], ?_⟩
  rw [Int.add_mul]
  omega
theorem Ov.neg {D A : Int} {r : Rat} (h : Ov D A r) : Ov D A (-r) := by
  obtain ⟨m, h1, h2⟩ := h
  refine ⟨-m, by rw [Rat.neg_mul, h1, Rat.intCast_neg], by omega⟩
theorem Ov.sub {D A B : Int} {r s : Rat} (h : Ov D A r) (k : Ov D B s) : Ov D (A + B) (r - s) := by
  rw [Rat.sub_eq_add_neg]; exact h.add k.neg
theorem Ov.mul {D E A B : Int} {r s : Rat} (h : Ov D A r) (k : Ov E B s) : Ov (D * E) (A * B) (r * s) := by
  obtain ⟨m, h1, h2⟩ := h
  obtain ⟨n, k1, k2⟩ := k
  refine ⟨m * n, ?_, ?_⟩
  · rw [Rat.intCast_mul, Rat.intCast_mul, ← h1, ← k1, Rat.mul_assoc, Rat.mul_assoc]
    congr 1
    rw [← Rat.mul_assoc, Rat.mul_comm s, Rat.mul_assoc]
  · rw [Int.natAbs_mul, Int.natCast_mul]
    have e : A * B * (D * E) = (A * D) * (B * E) := by
      rw [Int.mul_assoc, Int.mul_assoc]
      congr 1
      rw [← Int.mul_assoc, Int.mul_comm B, Int.mul_assoc]
    rw [e]
    exact Int.mul_le_mul h2 k2 (by omega) (by omega)
theorem Ov.zero {D : Int} : Ov D 0 0 := ⟨0, by rw [Rat.zero_mul]; rfl, by simp⟩
/-- A fraction by itself. -/
theorem Ov.self {r : Rat} {T : Nat} (h : SzR r T) : Ov (r.den : Int) (pw T) r := by
  refine ⟨r.num, ?_, ?_⟩
  · have hd : (((r.den : Int)) : Rat) ≠ 0 := by
      intro e
      have e2 : (r.den : Int) = 0 := by exact_mod_cast e
      have := r.den_pos
      omega
    have e1 : r = (r.num : Rat) / ((r.den : Int) : Rat) := by rw [← Rat.divInt_eq_div, Rat.num_divInt_den]
    have e2 : r * ((r.den : Int) : Rat) = (r.num : Rat) / ((r.den : Int) : Rat) * ((r.den : Int) : Rat) := congrArg (· * ((r.den : Int) : Rat)) e1
    rw [e2, Rat.div_mul_cancel hd]
  · have h1 := h.1
    have hd : (1 : Int) ≤ (r.den : Int) := by have := r.den_pos; omega
    have h2 : pw T * 1 ≤ pw T * (r.den : Int) := Int.mul_le_mul_of_nonneg_left hd (Int.le_of_lt (pw_pos T))
    omega
/-- What is whole over a small D, and not great, is small. -/
theorem Ov.sz {D A : Int} {r : Rat} {a d : Nat} (h : Ov D A r) (hD : 0 < D) (hd : D < pw d) (hA : A < pw a) (ha : 1 ≤ a + d) : SzR r (a + d) := by
  obtain ⟨m, h1, h2⟩ := h
  have e : r = Rat.divInt m D := by
    have hD0 : (D : Rat) ≠ 0 := by
      intro e
      have : D = 0 := by exact_mod_cast e
      omega
    rw [Rat.divInt_eq_div, ← h1, Rat.div_def, Rat.mul_assoc, Rat.mul_inv_cancel _ hD0, Rat.mul_one]
  rw [e]
  have h3 : A * D < pw (a + d) := by
    rcases Int.lt_or_le A 0 with hn | hp
    · have h5 : A * D ≤ 0 := Int.mul_nonpos_of_nonpos_of_nonneg (Int.le_of_lt hn) (Int.le_of_lt hD)
      have := pw_pos (a + d)
      omega
    · have e1 : (A.natAbs : Int) = A := Int.natAbs_of_nonneg hp
      have e2 : (D.natAbs : Int) = D := Int.natAbs_of_nonneg (Int.le_of_lt hD)
      have h6 := mul_lt (x := A) (y := D) (S := a) (R := d) (by omega) (by omega)
      have e3 : ((A * D).natAbs : Int) = A * D := Int.natAbs_of_nonneg (Int.mul_nonneg hp (Int.le_of_lt hD))
      omega
  refine divInt_sz (by omega) ?_ ha
  have := pw_mono (show d ≤ a + d by omega)
  omega
/-- The product of the denominators of the first n. -/
def dprod (X : Nat → Rat) : Nat → Int
  | 0 => 1
  | n + 1 => dprod X n * ((X n).den : Int)
theorem dprod_pos (X : Nat → Rat) : ∀ n, 0 < dprod X n
  | 0 => by show (0 : Int) < 1; decide
  | n + 1 => Int.mul_pos (dprod_pos X n) (by have := (X n).den_pos; omega)
theorem dprod_lt {X : Nat → Rat} {Z : Nat → Nat} : ∀ n, (∀ i, i < n → SzR (X i) (Z i)) → dprod X n < pw (tot Z n)
  | 0, _ => by show (1 : Int) < pw 1; decide
  | n + 1, h => by
    have h1 := dprod_lt n (fun i hi => h i (by omega))
    have h2 := (h n (by omega)).2
    have p1 := dprod_pos X n
    have p2 := (X n).den_pos
    have e1 : ((dprod X n).natAbs : Int) = dprod X n := Int.natAbs_of_nonneg (Int.le_of_lt p1)
    have h3 := mul_lt (x := dprod X n) (y := ((X n).den : Int)) (S := tot Z n) (R := Z n) (by omega) (by simpa using h2)
    have e3 : ((dprod X n * ((X n).den : Int)).natAbs : Int) = dprod X n * ((X n).den : Int) := Int.natAbs_of_nonneg (Int.mul_nonneg (Int.le_of_lt p1) (by omega))
    have := pw_mono (show tot Z n + Z n ≤ tot Z (n + 1) by show _ ≤ tot Z n + Z n + 1; omega)
    show dprod X n * ((X n).den : Int) < _
    omega
/-- Each of them over the product. -/
theorem dprod_ov {X : Nat → Rat} {Z : Nat → Nat} {T : Nat} : ∀ n, (∀ i, i < n → SzR (X i) (Z i) ∧ Z i ≤ T) → ∀ i, i < n → Ov (dprod X n) (pw T) (X i)
  | 0, _, i, hi => by omega
  | n + 1, h, i, hi => by
    show Ov (dprod X n * ((X n).den : Int)) _ _
    rcases (by omega : i < n ∨ i = n) with h1 | rfl
    · exact (dprod_ov n (fun i hi => h i (by omega)) i h1).lift (by omega)
    · exact (Ov.self ((h i (by omega)).1.le (h i (by omega)).2)).lift' (Int.le_of_lt (dprod_pos X i))
theorem rsum_ov {X : Nat → Rat} {D A : Int} {n : Nat} (h : ∀ i, i < n → Ov D A (X i)) : ∀ k, k ≤ n → Ov D (k * A) (rsum X k)
  | 0, _ => by simp only [Int.natCast_zero, Int.zero_mul]; exact Ov.zero
  | k + 1, hk => by
    have h1 := (rsum_ov h k (by omega)).add (h k (by omega))
    rw [show (((k + 1 : Nat) : Int) * A) = (k : Int) * A + A by rw [Int.natCast_add, Int.add_mul, Int.natCast_one, Int.one_mul]]
    exact h1
end Go.Proofs.YtimdohckhfmhiaaGreatDoor

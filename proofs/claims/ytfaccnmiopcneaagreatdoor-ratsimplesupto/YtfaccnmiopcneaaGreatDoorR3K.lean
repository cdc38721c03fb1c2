import Derived.Test.YtfaccnmiopcneaaGreatDoorR3M
namespace Go.Proofs.YtfaccnmiopcneaaGreatDoor
open Go.RowKit

theorem fl_pos (p q : Bool) {m k : Int} (hk : 0 < k) (hq : 0 < ws q k) : flQ p q m k = ws p m / ws q k := by
  have hq' : q = false := by cases q <;> simp_all [ws] <;> omega
  subst hq'
  have h1 := Int.emod_nonneg m (Int.ne_of_gt hk)
  have h2 := Int.emod_lt_of_pos m hk
  have h3 := Int.emod_add_mul_ediv m k
  have hs : k.sign = 1 := Int.sign_eq_one_of_pos hk
  unfold flQ ws
  cases p with
  | false =>
    have h4 : 0 ≤ (m % k).sign := by
      rcases (by omega : m % k = 0 ∨ 0 < m % k) with h | h
      · rw [h]; decide
      · rw [Int.sign_eq_one_of_pos h]; decide
    simp only [Bool.false_eq_true, if_false, bne_self_eq_false, hs, Int.mul_one]
    rw [if_neg (by omega)]
  | true =>
    simp only [if_true, Bool.false_eq_true, if_false, hs, Int.mul_one, Int.sign_neg]
    by_cases hz : m % k = 0
    · rw [hz]
      have hd : k ∣ m := Int.dvd_of_emod_eq_zero hz
      rw [Int.neg_ediv_of_dvd hd]
      simp
    · have h5 : (m % k).sign = 1 := Int.sign_eq_one_of_pos (by omega)
      rw [h5]
      have h6 := ((Int.ediv_emod_unique (a := -m) (r := k - m % k) (q := -(m / k) - 1) hk).2 ⟨by rw [Int.mul_sub, Int.mul_neg, Int.mul_one]; omega, by omega, by omega⟩).1
      rw [h6]
      simp
theorem fl_rat {x y : Int} {r : Rat} (hy : 0 < y) (h : Rat.divInt x y = r) : x / y = r.num / r.den := by
  have d1 : 0 < (r.den : Int) := by have := r.den_pos; omega
  have e1 : x * r.den = r.num * y := by
    have h0 := Rat.num_divInt_den r
    rw [← h] at h0 ⊢
    exact ((Rat.divInt_eq_divInt_iff (by have := (Rat.divInt x y).den_pos; omega) (by omega)).1 h0).symm
  rw [← Int.mul_ediv_mul_of_pos_left x y d1, e1, Int.mul_comm y (r.den : Int), Int.mul_ediv_mul_of_pos_left _ _ hy]
end Go.Proofs.YtfaccnmiopcneaaGreatDoor

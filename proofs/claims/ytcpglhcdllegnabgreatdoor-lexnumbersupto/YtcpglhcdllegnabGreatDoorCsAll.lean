import Derived.Test.YtcpglhcdllegnabGreatDoorRatAll
namespace Go.Proofs.YtcpglhcdllegnabGreatDoor
def absR (r : Rat) : Rat := if r.num < 0 then -r else r
end Go.Proofs.YtcpglhcdllegnabGreatDoor

namespace Go.Proofs.YtcpglhcdllegnabGreatDoor
open Go.RowKit

/-- How r stands to s: -1, 0, 1. -/
def cs (r s : Rat) : Int := (r.num * s.den - s.num * r.den).sign
theorem cs_tri (r s : Rat) : cs r s = -1 ∨ cs r s = 0 ∨ cs r s = 1 := by
  have := Int.sign_trichotomy (r.num * s.den - s.num * r.den)
  unfold cs; omega
theorem sign_neg_iff {a : Int} : a.sign < 0 ↔ a < 0 := by
  constructor
  · intro h
    exact Int.neg_of_sign_eq_neg_one (by have := Int.sign_trichotomy a; omega)
  · intro h
    rw [Int.sign_eq_neg_one_of_neg h]; decide
theorem sign_pos_iff {a : Int} : 0 < a.sign ↔ 0 < a := by
  constructor
  · intro h
    exact Int.pos_of_sign_eq_one (by have := Int.sign_trichotomy a; omega)
  · intro h
    rw [Int.sign_eq_one_of_pos h]; decide
theorem cs_lt {r s : Rat} : cs r s < 0 ↔ r < s := by
  unfold cs; rw [sign_neg_iff, Rat.lt_iff]; omega
theorem cs_gt {r s : Rat} : 0 < cs r s ↔ s < r := by
  unfold cs; rw [sign_pos_iff, Rat.lt_iff]; omega
theorem cs_le {r s : Rat} : cs r s ≤ 0 ↔ r ≤ s := by
  rw [← Rat.not_lt, ← cs_gt]; omega
theorem cs_ge {r s : Rat} : 0 ≤ cs r s ↔ s ≤ r := by
  rw [← Rat.not_lt, ← cs_lt]; omega
theorem cs_eq {r s : Rat} : cs r s = 0 ↔ r = s := by
  constructor
  · intro h
    exact Rat.le_antisymm (cs_le.1 (by omega)) (cs_ge.1 (by omega))
  · rintro rfl
    have h1 : ¬ cs r r < 0 := fun h => Rat.lt_irrefl (cs_lt.1 h)
    have h2 : ¬ 0 < cs r r := fun h => Rat.lt_irrefl (cs_gt.1 h)
    omega
theorem tri_ext {u v : Int} (hu : u = -1 ∨ u = 0 ∨ u = 1) (hv : v = -1 ∨ v = 0 ∨ v = 1) (h1 : u < 0 ↔ v < 0) (h2 : 0 < u ↔ 0 < v) : u = v := by omega
theorem sg_tri (a : Int) : a.sign = -1 ∨ a.sign = 0 ∨ a.sign = 1 := by
  have := Int.sign_trichotomy a
  omega
theorem cs_swap (r s : Rat) : cs s r = -cs r s := by
  refine tri_ext (cs_tri s r) (by have := cs_tri r s; omega) ?_ ?_
  · rw [cs_lt, ← cs_gt]; omega
  · rw [cs_gt, ← cs_lt]; omega
theorem num_neg_iff {r : Rat} : r.num < 0 ↔ r < 0 := by
  rw [← Rat.not_le, ← Rat.num_nonneg]; omega
theorem num_pos_iff {r : Rat} : 0 < r.num ↔ 0 < r := by
  have h := num_neg_iff (r := -r)
  rw [Rat.neg_num] at h
  have e : -r < 0 ↔ 0 < r := by
    have := Rat.neg_lt_neg_iff (a := r) (b := 0)
    rw [Rat.neg_zero] at this
    exact this
  rw [e] at h
  rw [← h]; omega
theorem cs_sub (r s : Rat) : (r - s).num.sign = cs r s := by
  refine tri_ext (sg_tri _) (cs_tri r s) ?_ ?_
  · rw [sign_neg_iff, num_neg_iff, cs_lt, Rat.lt_iff_sub_pos r s]
    have := Rat.neg_lt_neg_iff (a := s - r) (b := 0)
    rw [Rat.neg_zero, Rat.neg_sub] at this
    exact this
  · rw [sign_pos_iff, num_pos_iff, cs_gt, Rat.lt_iff_sub_pos s r]
theorem cs_add (r s t : Rat) : cs (r + t) (s + t) = cs r s :=
  tri_ext (cs_tri _ _) (cs_tri r s) (by rw [cs_lt, cs_lt, Rat.add_lt_add_right]) (by rw [cs_gt, cs_gt, Rat.add_lt_add_right])
theorem cs_mul_pos (r s : Rat) {t : Rat} (ht : 0 < t) : cs (r * t) (s * t) = cs r s :=
  tri_ext (cs_tri _ _) (cs_tri r s) (by rw [cs_lt, cs_lt, Rat.mul_lt_mul_right ht]) (by rw [cs_gt, cs_gt, Rat.mul_lt_mul_right ht])
theorem cs_neg (r s : Rat) : cs (-r) (-s) = -cs r s := by
  refine tri_ext (cs_tri _ _) (by have := cs_tri r s; omega) ?_ ?_
  · rw [cs_lt, Rat.neg_lt_neg_iff, ← cs_gt]; omega
  · rw [cs_gt, Rat.neg_lt_neg_iff, ← cs_lt]; omega
theorem rat_tri (t : Rat) : t < 0 ∨ t = 0 ∨ 0 < t := by
  by_cases h : t < 0
  · exact .inl h
  · by_cases h2 : t = 0
    · exact .inr (.inl h2)
    · exact .inr (.inr (Rat.lt_of_le_of_ne (Rat.not_lt.1 h) (fun e => h2 e.symm)))
theorem cs_mul (r s t : Rat) : cs (r * t) (s * t) = cs r s * t.num.sign := by
  rcases rat_tri t with h | rfl | h
  · have h0 : 0 < -t := by have := Rat.neg_lt_neg h; rwa [Rat.neg_zero] at this
    have e := cs_mul_pos r s h0
    rw [Rat.mul_neg, Rat.mul_neg, cs_neg] at e
    rw [Int.sign_eq_neg_one_of_neg (num_neg_iff.2 h)]; omega
  · rw [Rat.mul_zero, Rat.mul_zero, cs_eq.2 rfl]; simp
  · rw [cs_mul_pos r s h, Int.sign_eq_one_of_pos (num_pos_iff.2 h), Int.mul_one]
theorem abs_far (r : Rat) : 0 ≤ (absR r).num.sign := by
  have h : 0 ≤ (absR r).num := by
    unfold absR; split
    · rw [Rat.neg_num]; omega
    · omega
  have := sign_neg_iff (a := (absR r).num)
  omega
theorem abs_flat (r : Rat) : absR r * ((r.num.sign : Int) : Rat) = r := by
  unfold absR
  rcases rat_tri r with h | rfl | h
  · have := num_neg_iff.2 h
    rw [if_pos this, Int.sign_eq_neg_one_of_neg this, show (((-1 : Int)) : Rat) = -1 from rfl, Rat.mul_neg, Rat.mul_one, Rat.neg_neg]
  · simp
  · have := num_pos_iff.2 h
    rw [if_neg (by omega), Int.sign_eq_one_of_pos this, show (((1 : Int)) : Rat) = 1 from rfl, Rat.mul_one]
end Go.Proofs.YtcpglhcdllegnabGreatDoor

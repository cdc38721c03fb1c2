import Derived.Test.YtminppkjlimnmaaGreatDoorR3M
namespace Go.Proofs.YtminppkjlimnmaaGreatDoor
open Go.RowKit

def absR (r : Rat) : Rat := if r.num < 0 then -r else r
theorem abs_val {f : Bool} {m x y : Int} {r : Rat} (hm : 0 ≤ m) (hx : ws f m = x) (hy : 0 < y) (h : Rat.divInt x y = r) : Rat.divInt m y = absR r := by
  have d1 : 0 < (r.den : Int) := by have := r.den_pos; omega
  have e1 : x * r.den = r.num * y := by
    have h0 := Rat.num_divInt_den r
    rw [← h] at h0 ⊢
    exact ((Rat.divInt_eq_divInt_iff (by have := (Rat.divInt x y).den_pos; omega) (by omega)).1 h0).symm
  have s1 := congrArg Int.sign e1
  rw [Int.sign_mul, Int.sign_mul, Int.sign_eq_one_of_pos d1, Int.sign_eq_one_of_pos hy, Int.mul_one, Int.mul_one] at s1
  unfold absR
  cases f with
  | false =>
    have hx' : m = x := hx
    have hn : ¬ r.num < 0 := fun hn => by
      rw [Int.sign_eq_neg_one_of_neg hn] at s1
      have := Int.neg_of_sign_eq_neg_one s1
      omega
    rw [if_neg hn, hx', h]
  | true =>
    have hx' : -m = x := hx
    by_cases hz : m = 0
    · have hx0 : x = 0 := by omega
      have hn : ¬ r.num < 0 := fun hn => by
        rw [hx0, Int.sign_eq_neg_one_of_neg hn] at s1
        exact absurd s1 (by decide)
      rw [if_neg hn, ← h, hz, hx0]
    · have hn : r.num < 0 := by
        rw [Int.sign_eq_neg_one_of_neg (by omega : x < 0)] at s1
        exact Int.neg_of_sign_eq_neg_one s1.symm
      rw [if_pos hn, ← h, ← hx', Rat.neg_divInt, Int.neg_neg]
end Go.Proofs.YtminppkjlimnmaaGreatDoor

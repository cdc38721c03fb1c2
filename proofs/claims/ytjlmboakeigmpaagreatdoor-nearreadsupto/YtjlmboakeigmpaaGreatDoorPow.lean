import Derived.Test.YtjlmboakeigmpaaGreatDoorNumAll
import Derived.Laws.Bits64b
namespace Go.Proofs.YtjlmboakeigmpaaGreatDoor
open Go.RowKit

theorem and_one_i64 (a : Int) (h0 : 0 ≤ a) (h1 : a < 9223372036854775808) : bits BinOp.and IntKind.i64 a 1 = a % 2 := by
  obtain ⟨a, rfl⟩ := Int.eq_ofNat_of_zero_le h0
  have e1 : (BitVec.ofInt 64 (a : Int)).toNat = a := by
    rw [BitVec.ofInt_natCast, BitVec.toNat_ofNat]; exact Nat.mod_eq_of_lt (by omega)
  have e2 : (BitVec.ofInt 64 ((1 : Nat) : Int)).toNat = 1 := by decide
  have e3 : a &&& 1 = a % 2 := Nat.and_one_is_mod a
  show IntKind.i64.wrap ((BitVec.ofInt 64 (a : Int) &&& BitVec.ofInt 64 ((1 : Nat) : Int)).toNat : Int) = _
  rw [BitVec.toNat_and, e1, e2, e3]
  simp [IntKind.wrap, IntKind.signed, IntKind.bits]
  omega

/-- How long a power may be, so many rounds on. -/
def bd (S : Nat) : Nat → Nat
  | 0 => 1
  | j + 1 => 2 * bd S j + S
theorem bd_le (S j : Nat) : bd S j + S ≤ 2 ^ j * (S + 1) := by
  induction j with
  | zero => simp [bd]; omega
  | succ j ih => simp only [bd]; rw [Nat.pow_succ, Nat.mul_right_comm]; omega
theorem bd_10 {S j : Nat} (h : j ≤ 10) : bd S j ≤ 1024 * (S + 1) := by
  have h1 := bd_le S j
  have h2 : 2 ^ j ≤ 2 ^ 10 := Nat.pow_le_pow_right (by decide) h
  have h3 := Nat.mul_le_mul_right (S + 1) h2
  have h4 : 2 ^ 10 = 1024 := rfl
  rw [h4] at h3
  omega
theorem Num.le {w : World} {a : Option Addr} {n cap : Nat} {x : Int} {S R : Nat} (h : Num w a n cap x S) (hS : S ≤ R) : Num w a n cap x R := by
  obtain ⟨xs, h1, h2, h3, h4, h5, h6⟩ := h
  exact ⟨xs, h1, h2, h3, h4, h5, by omega⟩
theorem half_pow (n s : Nat) : n / 2 ^ s = 2 * (n / 2 ^ (s + 1)) + n / 2 ^ s % 2 := by
  rw [Nat.pow_succ, ← Nat.div_div_eq_div_mul]; omega
theorem pow_even (x : Int) (n s : Nat) (h : n / 2 ^ s % 2 = 0) : x ^ (n / 2 ^ (s + 1)) * x ^ (n / 2 ^ (s + 1)) = x ^ (n / 2 ^ s) := by
  rw [← Int.pow_add]; congr 1; have := half_pow n s; omega
theorem pow_odd (x : Int) (n s : Nat) (h : n / 2 ^ s % 2 = 1) : x ^ (n / 2 ^ (s + 1)) * x ^ (n / 2 ^ (s + 1)) * x = x ^ (n / 2 ^ s) := by
  rw [← Int.pow_add, ← Int.pow_succ]; congr 1; have := half_pow n s; omega
theorem bits_nn (xs : List Int) (hx : AllW xs) (hl : xs.length ≤ 1000000000) : 0 ≤ bitsL xs ∧ bitsL xs ≤ 64000000000 := by
  have ht : tlen xs ≤ xs.length := tl_le _ _
  unfold bitsL
  split
  · omega
  · have := bitLen_le64 (hx.at (tlen xs - 1)).2
    omega

end Go.Proofs.YtjlmboakeigmpaaGreatDoor

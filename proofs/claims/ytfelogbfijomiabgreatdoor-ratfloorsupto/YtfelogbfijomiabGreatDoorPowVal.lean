import Derived.Test.YtfelogbfijomiabGreatDoorNum
namespace Go.Proofs.YtfelogbfijomiabGreatDoor
open Go.RowKit
theorem pwN (k : Nat) : pw k = ((2 ^ (64 * k) : Nat) : Int) := by
  unfold pw
  rw [Nat.pow_mul, Int.natCast_pow]
  rfl
theorem val_bits {xs : List Int} (hx : AllW xs) : val xs < ((2 ^ (bitsL xs).toNat : Nat) : Int) := by
  unfold bitsL
  by_cases h : tlen xs = 0
  · rw [if_pos h, (tlen_zero hx).1 h]; decide
  · rw [if_neg h]
    obtain ⟨k, hk⟩ : ∃ k, tlen xs = k + 1 := ⟨tlen xs - 1, by omega⟩
    rw [← vS_trim, hk]
    show vS xs k + lm xs k * pw k < _
    have h1 := (vS_nn hx k).2
    have h2 := hx.at k
    have hne := (tl_spec xs xs.length).2 (by show 0 < tlen xs; omega)
    have e : tl xs xs.length = k + 1 := hk
    rw [e, Nat.add_sub_cancel] at hne
    rw [Nat.add_sub_cancel]
    obtain ⟨s1, _, _, _⟩ := bitLen_spec (lm xs k).toNat (by have := h2.2; omega) (by have := h2.1; omega)
    generalize Lib.bitLen (lm xs k).toNat = L at *
    have e2 : (((k + 1 : Nat) : Int) - 1) * 64 + (L : Int) = ((64 * k + L : Nat) : Int) := by omega
    rw [e2, Int.toNat_natCast, Nat.pow_add, Int.natCast_mul, ← pwN]
    have h3 : lm xs k + 1 ≤ ((2 ^ L : Nat) : Int) := by have := h2.1; omega
    have h4 := Int.mul_le_mul_of_nonneg_left h3 (Int.le_of_lt (pw_pos k))
    rw [Int.mul_add, Int.mul_comm (pw k) (lm xs k)] at h4
    omega
theorem pow_small {xs : List Int} (hx : AllW xs) {n : Nat} (h : 0 < bitsL xs → (n : Int) ≤ 131072 / bitsL xs) (hb : 0 ≤ bitsL xs) {m : Nat} (hm : m ≤ n) {K : Nat} (hK : 2049 ≤ K) : val xs ^ m < pw K := by
  have hv := val_bits hx
  have hn := val_nn hx
  obtain ⟨v, hv'⟩ := Int.eq_ofNat_of_zero_le hn
  rw [hv'] at hv ⊢
  have hv2 : v < 2 ^ (bitsL xs).toNat := Int.ofNat_lt.1 hv
  rw [pwN, ← Int.natCast_pow]
  have key : v ^ m < 2 ^ (64 * K) := by
    rcases (by omega : bitsL xs = 0 ∨ 0 < bitsL xs) with h0 | h0
    · rw [h0] at hv2
      have : v = 0 := by simpa using hv2
      subst this
      have h5 : 0 ^ m ≤ 1 := by cases m <;> simp
      have h6 : 1 < 2 ^ (64 * K) := Nat.one_lt_pow (by omega) (by decide)
      omega
    · have h1 := (Int.le_ediv_iff_mul_le h0).1 (h h0)
      obtain ⟨b, hb'⟩ := Int.eq_ofNat_of_zero_le hb
      rw [hb'] at h1 hv2
      rw [Int.toNat_natCast] at hv2
      have h2 : n * b ≤ 131072 := by rw [← Int.natCast_mul] at h1; omega
      have h3 : m * b ≤ n * b := Nat.mul_le_mul_right b hm
      have h4 : v ^ m ≤ (2 ^ b) ^ m := Nat.pow_le_pow_left (Nat.le_of_lt hv2) m
      rw [← Nat.pow_mul] at h4
      have h5 : 2 ^ (b * m) < 2 ^ (64 * K) := Nat.pow_lt_pow_right (by decide) (by rw [Nat.mul_comm]; omega)
      omega
  exact Int.ofNat_lt.2 key
end Go.Proofs.YtfelogbfijomiabGreatDoor

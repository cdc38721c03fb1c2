import Derived.Test.YtbkkepbmaadomaaGreatDoorWhAll
namespace Go.Proofs.YtbkkepbmaadomaaGreatDoor
open Go.RowKit
/-- What Bits says from below. -/
theorem bits_low {xs : List Int} (hx : AllW xs) (h : tlen xs ≠ 0) : 0 < bitsL xs ∧ ((2 ^ ((bitsL xs).toNat - 1) : Nat) : Int) ≤ val xs := by
  unfold bitsL
  rw [if_neg h]
  obtain ⟨k, hk⟩ : ∃ k, tlen xs = k + 1 := ⟨tlen xs - 1, by omega⟩
  rw [← vS_trim, hk]
  show _ ∧ _ ≤ vS xs k + lm xs k * pw k
  have h1 := (vS_nn hx k).1
  have h2 := hx.at k
  have hne := (tl_spec xs xs.length).2 (by show 0 < tlen xs; omega)
  have e : tl xs xs.length = k + 1 := hk
  rw [e, Nat.add_sub_cancel] at hne
  rw [Nat.add_sub_cancel]
  obtain ⟨_, s2, s3, _⟩ := bitLen_spec (lm xs k).toNat (by have := h2.2; omega) (by have := h2.1; omega)
  generalize Lib.bitLen (lm xs k).toNat = L at *
  have e2 : (((k + 1 : Nat) : Int) - 1) * 64 + (L : Int) = ((64 * k + L : Nat) : Int) := by omega
  rw [e2, Int.toNat_natCast]
  refine ⟨by omega, ?_⟩
  rw [show 64 * k + L - 1 = 64 * k + (L - 1) by omega, Nat.pow_add, Int.natCast_mul, ← pwN]
  have h3 : ((2 ^ (L - 1) : Nat) : Int) ≤ lm xs k := by have := h2.1; omega
  have h4 := Int.mul_le_mul_of_nonneg_left h3 (Int.le_of_lt (pw_pos k))
  rw [Int.mul_comm (pw k) (lm xs k)] at h4
  omega
/-- nat.Bits by a number. -/
theorem bitsN {a : Option Addr} {na ca : Nat} {m : Int} {S : Nat} (w : World) (ha : Num w a na ca m S) (hS : S ≤ 10000000000) :
    Calls Tryz.prog 76 #[.slice a na ca] w fun e w' => ∃ t : Nat, e = .returned (.int .i64 t) ∧ ((t = 0 ∧ m = 0) ∨ (0 < t ∧ ((2 ^ (t - 1) : Nat) : Int) ≤ m ∧ m < ((2 ^ t : Nat) : Int))) ∧ Below w.heap.size w w' := by
  obtain ⟨xs, h1, h2, h3, h4, h5, h6⟩ := ha
  refine (bits_any a na ca xs w h1 h2 (by omega) h3 h4).mono ?_
  rintro e w' ⟨rfl, rfl⟩
  have hb := val_bits h4
  by_cases ht : tlen xs = 0
  · refine ⟨0, by unfold bitsL; rw [if_pos ht]; rfl, .inl ⟨rfl, ?_⟩, Below.refl _ _⟩
    rw [← h5]; exact (tlen_zero h4).1 ht
  · obtain ⟨l0, l1⟩ := bits_low h4 ht
    obtain ⟨t, hT⟩ := Int.eq_ofNat_of_zero_le (Int.le_of_lt l0)
    rw [hT, Int.toNat_natCast] at l1 hb
    rw [hT] at l0
    rw [h5] at l1 hb
    exact ⟨t, by rw [hT], .inr ⟨by omega, l1, hb⟩, Below.refl _ _⟩
end Go.Proofs.YtbkkepbmaadomaaGreatDoor

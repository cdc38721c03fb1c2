import Derived.Test.YtogdpgfccbohnacDoorDivA
import Derived.Shelf.Spec.TrailingZeros
namespace Go.Proofs.YtogdpgfccbohnacDoor
open Go.RowKit

theorem odd_coprime {y : Nat} (hy : y % 2 = 1) (k : Nat) : Nat.gcd (2 ^ k) y = 1 := by
  induction k with
  | zero => simp
  | succ k ih =>
    have h2 : Nat.gcd 2 y = 1 := by rw [Nat.gcd_rec, hy]; simp
    rw [Nat.pow_succ]
    exact Nat.Coprime.mul_left ih h2
theorem gcd_odd {m y : Nat} (hy : y % 2 = 1) (k : Nat) : Nat.gcd (2 ^ k * m) y = Nat.gcd m y := Nat.Coprime.gcd_mul_left_cancel m (odd_coprime hy k)
theorem gcd_less {x y : Nat} (h : y ≤ x) : Nat.gcd (x - y) y = Nat.gcd x y := by
  have e : x = (x - y) + y := by omega
  rw [e, Nat.gcd_add_self_left, show x - y + y - y = x - y by omega]
theorem gcd_twos {x y a b : Nat} (hx : x % 2 = 1) (hy : y % 2 = 1) : Nat.gcd (2 ^ a * x) (2 ^ b * y) = 2 ^ (min a b) * Nat.gcd x y := by
  rcases Nat.le_total a b with h | h
  · rw [Nat.min_eq_left h, show b = a + (b - a) by omega, Nat.pow_add, Nat.mul_assoc, Nat.gcd_mul_left, Nat.gcd_comm x, gcd_odd hx, Nat.gcd_comm y]
  · rw [Nat.min_eq_right h, show a = b + (a - b) by omega, Nat.pow_add, Nat.mul_assoc, Nat.gcd_mul_left, gcd_odd hy]

set_option maxHeartbeats 1000000 in
theorem tz_core (x k idx : Nat) (w : World) (hx0 : ((x : Int) == 0) = false)
    (key : IntKind.u64.wrap (bits BinOp.and IntKind.u64 (x : Int) (IntKind.u64.wrap (-(x : Int))) * 285870213051353865) / 288230376151711744 = (idx : Int))
    (hi : idx < 64) (hk : k < 64) (hcell : w.cell? ⟨6, idx, none⟩ = some (.int .u8 k)) :
    Calls Tryd.prog 52 #[.int .u64 x] w fun e w' => e = .returned (.int .i64 k) ∧ w' = w := by
  go_enter Tryd.func52, Tryd.ntmps52
  go_wp2_with (simp only [key])
  go_ret
  exact ⟨rfl, rfl⟩
/-- How often a word that isn't nought can be halved. -/
theorem tz_any (x : Nat) (w : World) (h0 : x ≠ 0) (h1 : x < 18446744073709551616) (hT : TabAt 6 Lib.deBruijn64tab w) :
    Calls Tryd.prog 52 #[.int .u64 x] w fun e w' => ∃ k m : Nat, e = .returned (.int .i64 k) ∧ k < 64 ∧ x = 2 ^ k * (2 * m + 1) ∧ w = w' := by
  obtain ⟨hlow, hk⟩ := Lib.lowest_bit 64 x h0 h1
  obtain ⟨hi, htab⟩ := Lib.deBruijn64_at _ hk
  obtain ⟨m, hm, _⟩ := Lib.ctzFrom_spec 64 x (Nat.pos_of_ne_zero h0) h1
  have ec : Lib.ctz 64 x = Lib.ctzFrom 64 x := by unfold Lib.ctz; rw [if_neg h0]
  have hcell := hT _ hi
  rw [htab] at hcell
  refine (tz_core x (Lib.ctz 64 x) _ w (by simpa using h0) (tz64_key x _ h1 h0 hlow) hi hk hcell).mono ?_
  rintro e w' ⟨rfl, rfl⟩
  exact ⟨_, m, rfl, hk, by rw [ec]; exact hm, rfl⟩

set_option maxHeartbeats 1000000 in
theorem gcdWords_any (x y : Nat) (w : World) (hx : x % 2 = 1) (hy : y % 2 = 1) (hx1 : x < 18446744073709551616) (hy1 : y < 18446744073709551616) (hT : TabAt 6 Lib.deBruijn64tab w) :
    Calls Tryd.prog 54 #[.int .u64 x, .int .u64 y] w fun e w' => e = .returned (.int .u64 (Nat.gcd x y : Nat)) ∧ w = w' := by
  go_enter Tryd.func54, Tryd.ntmps54
  go_wp2
  go_loopw [0, 1] (fun a b wr => w = wr ∧ ∃ p q : Nat, a = .int .u64 p ∧ b = .int .u64 q ∧ p % 2 = 1 ∧ q % 2 = 1 ∧ p < 18446744073709551616 ∧ q < 18446744073709551616 ∧ Nat.gcd p q = Nat.gcd x y) (fun a b _ => ((intOf a) + (intOf b)).toNat)
  case atStart => exact ⟨rfl, x, y, rfl, rfl, hx, hy, hx1, hy1, rfl⟩
  case round =>
    obtain ⟨rfl, p, q, rfl, rfl, hp, hq, hp1, hq1, hG⟩ := hrel
    have HG : Hid (Nat.gcd p q = Nat.gcd x y) := hG
    clear hG
    by_cases h : p = q
    · subst h
      have HE : Hid (p = Nat.gcd x y) := by show _ = _; rw [← HG.out, Nat.gcd_self]
      go_wp2
      go_ret
      exact ⟨by rw [← HE.out]; rfl, rfl⟩
    · have hne : ((p : Int) == (q : Int)) = false := beq_eq_false_iff_ne.2 (by omega)
      by_cases hlt : p < q
      · have hltI : (p : Int) < (q : Int) := by omega
        have hG2 := gcd_less (Nat.le_of_lt hlt)
        obtain ⟨r, hr⟩ : ∃ r, q - p = r := ⟨_, rfl⟩
        have E : (q : Int) - (p : Int) = (r : Int) := by omega
        have hr0 : r ≠ 0 := by omega
        have hrq : r < q := by omega
        have HR : Hid (Nat.gcd r p = Nat.gcd x y) := by show _ = _; rw [← hr, hG2, Nat.gcd_comm]; exact HG.out
        have hstep := tz_any r w hr0 (by omega) hT
        clear hr hG2
        go_wp2_with fail
        refine hstep.mono ?_
        rintro e w' ⟨k, m, rfl, hk, hm, rfl⟩
        have ED : (r : Int) / 2 ^ k = ((2 * m + 1 : Nat) : Int) := by rw [hm, show ((2 : Int) ^ k) = ((2 ^ k : Nat) : Int) by rw [Int.natCast_pow]; rfl, ← Int.natCast_ediv, Nat.mul_div_cancel_left _ (Nat.pow_pos (by decide))]
        have hle : 2 * m + 1 ≤ r := by rw [hm]; exact Nat.le_mul_of_pos_left _ (Nat.pow_pos (by decide))
        have HF : Hid (Nat.gcd (2 * m + 1) p = Nat.gcd x y) := by show _ = _; rw [← HR.out, hm, gcd_odd hp]
        obtain ⟨z, hz⟩ : ∃ z, 2 * m + 1 = z := ⟨_, rfl⟩
        have hzo : z % 2 = 1 := by omega
        rw [hz] at ED hle HF
        clear hm hstep hz
        go_wp2
        go_roundw
        case rel => exact ⟨trivial, z, p, rfl, rfl, hzo, hp, by omega, hp1, HF.out⟩
        case measure => simp [intOf]; omega
      · have hltI : ¬ (p : Int) < (q : Int) := by omega
        have hG2 := gcd_less (show q ≤ p by omega)
        obtain ⟨r, hr⟩ : ∃ r, p - q = r := ⟨_, rfl⟩
        have E : (p : Int) - (q : Int) = (r : Int) := by omega
        have hr0 : r ≠ 0 := by omega
        have hrq : r < p := by omega
        have HR : Hid (Nat.gcd r q = Nat.gcd x y) := by show _ = _; rw [← hr, hG2]; exact HG.out
        have hstep := tz_any r w hr0 (by omega) hT
        clear hr hG2
        go_wp2_with fail
        refine hstep.mono ?_
        rintro e w' ⟨k, m, rfl, hk, hm, rfl⟩
        have ED : (r : Int) / 2 ^ k = ((2 * m + 1 : Nat) : Int) := by rw [hm, show ((2 : Int) ^ k) = ((2 ^ k : Nat) : Int) by rw [Int.natCast_pow]; rfl, ← Int.natCast_ediv, Nat.mul_div_cancel_left _ (Nat.pow_pos (by decide))]
        have hle : 2 * m + 1 ≤ r := by rw [hm]; exact Nat.le_mul_of_pos_left _ (Nat.pow_pos (by decide))
        have HF : Hid (Nat.gcd (2 * m + 1) q = Nat.gcd x y) := by show _ = _; rw [← HR.out, hm, gcd_odd hq]
        obtain ⟨z, hz⟩ : ∃ z, 2 * m + 1 = z := ⟨_, rfl⟩
        have hzo : z % 2 = 1 := by omega
        rw [hz] at ED hle HF
        clear hm hstep hz
        go_wp2
        go_roundw
        case rel => exact ⟨trivial, z, q, rfl, rfl, hzo, hq, by omega, hq1, HF.out⟩
        case measure => simp [intOf]; omega
end Go.Proofs.YtogdpgfccbohnacDoor

import Derived.Test.YtogdpgfccbohnaaDoorDiv64
import Derived.Laws.Bits64b
namespace Go.Proofs.YtogdpgfccbohnaaDoor
open Go.RowKit

theorem bitLenAux_zero (f : Nat) : Lib.bitLenAux f 0 = 0 := by cases f <;> simp [Lib.bitLenAux]
theorem bitLenAux_spec : ∀ (f x : Nat), x < 2 ^ f → x < 2 ^ Lib.bitLenAux f x ∧ (0 < x → 0 < Lib.bitLenAux f x ∧ 2 ^ (Lib.bitLenAux f x - 1) ≤ x)
  | 0, x, h => by simp at h; subst h; simp [Lib.bitLenAux]
  | f + 1, x, h => by
    unfold Lib.bitLenAux
    split
    · rename_i h0; subst h0; simp
    · rename_i h0
      by_cases hx : x / 2 = 0
      · rw [hx, bitLenAux_zero]
        obtain rfl : x = 1 := by omega
        simp
      · have ih := bitLenAux_spec f (x / 2) (by rw [Nat.pow_succ] at h; omega)
        generalize Lib.bitLenAux f (x / 2) = m at ih ⊢
        obtain ⟨hm, h2⟩ := ih.2 (by omega)
        have h3 := ih.1
        refine ⟨?_, fun _ => ⟨by omega, ?_⟩⟩
        · rw [Nat.add_comm, Nat.pow_succ]; omega
        · rw [show 1 + m - 1 = (m - 1) + 1 by omega, Nat.pow_succ]; omega
theorem bitLen_spec (x : Nat) (h : x < 18446744073709551616) (h0 : 0 < x) : x < 2 ^ Lib.bitLen x ∧ 0 < Lib.bitLen x ∧ 2 ^ (Lib.bitLen x - 1) ≤ x ∧ Lib.bitLen x ≤ 64 := by
  have a := bitLenAux_spec 64 x h
  exact ⟨a.1, (a.2 h0).1, (a.2 h0).2, Lib.bitLen_le x 64 (Nat.le_refl _) h⟩

theorem and_mask (a : Int) (h0 : 0 ≤ a) (h1 : a < 18446744073709551616) : bits BinOp.and IntKind.u64 a 4294967295 = a % 4294967296 := by
  obtain ⟨a, rfl⟩ := Int.eq_ofNat_of_zero_le h0
  have h := bits_and_u64_nat a 4294967295 (by omega) (by omega)
  have e : a &&& 4294967295 = a % 4294967296 := Nat.and_two_pow_sub_one_eq_mod a 32
  rw [e] at h
  have h2 : ((4294967295 : Nat) : Int) = 4294967295 := rfl
  rw [h2] at h
  rw [h]; omega
theorem or_low (x c s : Nat) (hc : c < 2 ^ s) (h : x * 2 ^ s + c < 18446744073709551616) : bits BinOp.or IntKind.u64 ((x * 2 ^ s : Nat) : Int) (c : Int) = ((x * 2 ^ s + c : Nat) : Int) := by
  rw [bits_or_u64_nat _ _ (by omega) (by omega)]
  have := Nat.two_pow_add_eq_or_of_lt hc x
  rw [Nat.mul_comm] at this
  rw [this]

/-- The 128 bits, shifted so that the divisor's highest bit is set. -/
theorem shifted (hi lo y n : Nat) (hl : lo < 18446744073709551616) (hy : hi < y) (hn : y < 2 ^ n) (hn1 : 0 < n) (hn0 : 2 ^ (n - 1) ≤ y) (hn2 : n ≤ 64) :
    y * 2 ^ (64 - n) < 18446744073709551616 ∧ 9223372036854775808 ≤ y * 2 ^ (64 - n) ∧ lo / 2 ^ n < 2 ^ (64 - n) ∧ hi * 2 ^ (64 - n) + lo / 2 ^ n < y * 2 ^ (64 - n) ∧
    (hi * 18446744073709551616 + lo) * 2 ^ (64 - n) = (hi * 2 ^ (64 - n) + lo / 2 ^ n) * 18446744073709551616 + lo * 2 ^ (64 - n) % 18446744073709551616 := by
  have e : 2 ^ n * 2 ^ (64 - n) = 18446744073709551616 := by rw [← Nat.pow_add, show n + (64 - n) = 64 by omega]
  have e1 : 2 ^ (n - 1) * 2 ^ (64 - n) = 9223372036854775808 := by rw [← Nat.pow_add, show n - 1 + (64 - n) = 63 by omega]
  have hS : 0 < 2 ^ (64 - n) := Nat.two_pow_pos _
  have hP : 0 < 2 ^ n := Nat.two_pow_pos _
  generalize 2 ^ (64 - n) = S at *
  generalize 2 ^ n = P at *
  have a1 : y * S < 18446744073709551616 := by rw [← e]; exact (Nat.mul_lt_mul_right hS).2 hn
  have a2 : 9223372036854775808 ≤ y * S := by rw [← e1]; exact Nat.mul_le_mul_right _ hn0
  have a3 : lo / P < S := by rw [Nat.div_lt_iff_lt_mul hP, Nat.mul_comm, e]; exact hl
  have a4 : hi * S + lo / P < y * S := by
    have : (hi + 1) * S ≤ y * S := Nat.mul_le_mul_right _ (by omega)
    rw [Nat.add_mul] at this; omega
  refine ⟨a1, a2, a3, a4, ?_⟩
  have b : lo * S / 18446744073709551616 = lo / P := by rw [← e]; exact Nat.mul_div_mul_right _ _ hS
  have c := Nat.div_add_mod (lo * S) 18446744073709551616
  rw [b] at c
  rw [Nat.add_mul, Nat.add_mul, Nat.mul_right_comm]
  omega

theorem cast5 (a b S U L K : Nat) (h : (a * K + b) * S = U * K + L) : ((a : Int) * (K : Int) + b) * (S : Int) = (U : Int) * (K : Int) + L := by exact_mod_cast h
theorem div_unique {x y q r : Int} (h : x = q * y + r) (h0 : 0 ≤ r) (h1 : r < y) : x / y = q ∧ x % y = r := by
  have hy : 0 < y := by omega
  have e : x = r + y * q := by rw [h, Int.mul_comm]; omega
  exact (Int.ediv_emod_unique hy).2 ⟨e.symm, h0, h1⟩

set_option maxHeartbeats 400000 in
theorem div64_zero (lo y : Int) (w : World) (hl0 : 0 ≤ lo) (_hl1 : lo < 18446744073709551616) (hy : 0 < y) (hy2 : y < 18446744073709551616) :
    Calls Tryd.prog 61 #[.int .u64 0, .int .u64 lo, .int .u64 y] w fun e w' => e = .returned (.tuple #[.int .u64 (lo / y), .int .u64 (lo % y)]) ∧ ∃ m, w' = w.drewN m := by
  have t1 : (y == 0) = false := by simp; omega
  have b1 : 0 ≤ lo / y := Int.ediv_nonneg hl0 (by omega)
  have b2 : lo / y < 18446744073709551616 := by
    have := Int.ediv_le_self y hl0
    omega
  have b3 : 0 ≤ lo % y := Int.emod_nonneg _ (by omega)
  have b4 : lo % y < y := Int.emod_lt_of_pos _ hy
  go_enter Tryd.func61, Tryd.ntmps61
  go_wp2_with fail
  go_quiet (fail)
  go_wp2
  go_ret2
  exact ⟨rfl, nq, rfl⟩

theorem div64_any (hi lo y : Int) (w : World) (h0 : 0 ≤ hi) (hl0 : 0 ≤ lo) (hl1 : lo < 18446744073709551616) (hy1 : hi < y) (hy2 : y < 18446744073709551616) :
    Calls Tryd.prog 61 #[.int .u64 hi, .int .u64 lo, .int .u64 y] w fun e w' => e = .returned (.tuple #[.int .u64 ((hi * 18446744073709551616 + lo) / y), .int .u64 ((hi * 18446744073709551616 + lo) % y)]) ∧ ∃ m, w' = w.drewN m := by
  by_cases hz : hi = 0
  · subst hz
    simpa using div64_zero lo y w hl0 hl1 (by omega) hy2
  obtain ⟨a, rfl⟩ := Int.eq_ofNat_of_zero_le h0
  obtain ⟨b, rfl⟩ := Int.eq_ofNat_of_zero_le hl0
  obtain ⟨c, rfl⟩ := Int.eq_ofNat_of_zero_le (show 0 ≤ y by omega)
  obtain ⟨s1, s2, s3, s4⟩ := bitLen_spec c (by omega) (by omega)
  generalize hn : Lib.bitLen c = n at *
  obtain ⟨c1, c2, c3, c4, c5⟩ := shifted a b c n (by omega) (by omega) s1 s2 s3 s4
  have c4' : a * 2 ^ (64 - n) < 18446744073709551616 := Nat.lt_of_le_of_lt (Nat.le_add_right _ (b / 2 ^ n)) (Nat.lt_trans c4 c1)
  have ew : ∀ x : Nat, (x : Int) * 2 ^ (64 - n) = ((x * 2 ^ (64 - n) : Nat) : Int) := fun x => by rw [Int.natCast_mul, Int.natCast_pow]; rfl
  have hS : 0 < 2 ^ (64 - n) := Nat.two_pow_pos _
  have hn64 : 64 - (64 - n) = n := by omega
  -- the numbers of the walk
  have eY : IntKind.u64.wrap ((c : Int) * 2 ^ (64 - n)) = ((c * 2 ^ (64 - n) : Nat) : Int) := by rw [ew, IntKind.wrap_u64]; omega
  have eH : IntKind.u64.wrap ((a : Int) * 2 ^ (64 - n)) = ((a * 2 ^ (64 - n) : Nat) : Int) := by rw [ew, IntKind.wrap_u64]; omega
  have eL : IntKind.u64.wrap ((b : Int) * 2 ^ (64 - n)) = ((b * 2 ^ (64 - n) % 18446744073709551616 : Nat) : Int) := by rw [ew, IntKind.wrap_u64]; omega
  have eD : (b : Int) / 2 ^ (64 - (64 - n)) = ((b / 2 ^ n : Nat) : Int) := by rw [hn64, Int.natCast_ediv, Int.natCast_pow]; rfl
  have eU : bits BinOp.or IntKind.u64 (IntKind.u64.wrap ((a : Int) * 2 ^ (64 - n))) ((b : Int) / 2 ^ (64 - (64 - n))) = ((a * 2 ^ (64 - n) + b / 2 ^ n : Nat) : Int) := by
    rw [eH, eD]; exact or_low a (b / 2 ^ n) (64 - n) c3 (by omega)
  have hdm : ∀ x : Int, x = x / 4294967296 * 4294967296 + x % 4294967296 := fun x => by omega
  generalize hYn : c * 2 ^ (64 - n) = Yn at *
  generalize hLn : b * 2 ^ (64 - n) % 18446744073709551616 = Ln at *
  generalize hUn : a * 2 ^ (64 - n) + b / 2 ^ n = Un at *
  have hLb : Ln < 18446744073709551616 := by rw [← hLn]; exact Nat.mod_lt _ (by decide)
  obtain ⟨Q1, R1, d1, d1a, d1b⟩ : ∃ Q R : Int, (Un : Int) * 4294967296 + (Ln : Int) / 4294967296 = Q * (Yn : Int) + R ∧ 0 ≤ R ∧ R < Yn :=
    ⟨_, _, by rw [Int.mul_comm _ (Yn : Int)]; exact (Int.mul_ediv_add_emod _ (Yn : Int)).symm, Int.emod_nonneg _ (by omega), Int.emod_lt_of_pos _ (by omega)⟩
  obtain ⟨Q2, R2, d2, d2a, d2b⟩ : ∃ Q R : Int, R1 * 4294967296 + (Ln : Int) % 4294967296 = Q * (Yn : Int) + R ∧ 0 ≤ R ∧ R < Yn :=
    ⟨_, _, by rw [Int.mul_comm _ (Yn : Int)]; exact (Int.mul_ediv_add_emod _ (Yn : Int)).symm, Int.emod_nonneg _ (by omega), Int.emod_lt_of_pos _ (by omega)⟩
  refine (div64_core a b c w (by omega) (by omega) (by omega) hy1 hy2 n (by show _ = _; simpa using hn) s2 s4 Yn ((Yn : Int) / 4294967296) ((Yn : Int) % 4294967296) Un Ln ((Ln : Int) / 4294967296) ((Ln : Int) % 4294967296) Q1 R1 Q2 R2
    eY rfl (and_mask _ (by omega) (by omega)) eU eL rfl (and_mask _ (by omega) (by omega)) (hdm _) (by omega) (by omega) (by omega) (by omega) (by omega) (by omega) (by omega) (by omega) (by omega) (by omega) (by omega) (by omega) (by omega) d1 d1a d1b d2 d2a d2b).mono ?_
  rintro e w' ⟨rfl, rfl⟩
  -- what they say of the quotient
  have key : ((a : Int) * 18446744073709551616 + b) * ((2 ^ (64 - n) : Nat) : Int) = (Q1 * 4294967296 + Q2) * Yn + R2 := by
    have h5 : ((a : Int) * 18446744073709551616 + b) * ((2 ^ (64 - n) : Nat) : Int) = (Un : Int) * 18446744073709551616 + Ln := cast5 a b _ Un Ln 18446744073709551616 c5
    have e6 : (Q1 * 4294967296 + Q2) * (Yn : Int) = Q1 * Yn * 4294967296 + Q2 * Yn := by rw [Int.add_mul, Int.mul_right_comm]
    rw [e6]
    refine h5.trans ?_
    generalize Q1 * (Yn : Int) = A1 at *
    generalize Q2 * (Yn : Int) = A2 at *
    clear h5 e6
    omega
  have hYc : (Yn : Int) = (c : Int) * ((2 ^ (64 - n) : Nat) : Int) := by rw [← hYn, Int.natCast_mul]
  have hpow : (2 : Int) ^ (64 - n) = ((2 ^ (64 - n) : Nat) : Int) := by rw [Int.natCast_pow]; rfl
  generalize 2 ^ (64 - n) = S at *
  have hSI : (0 : Int) < (S : Int) := by omega
  -- the rest is a multiple of S
  have hR : R2 = ((a : Int) * 18446744073709551616 + b - (Q1 * 4294967296 + Q2) * c) * S := by
    rw [Int.sub_mul, key, hYc, Int.mul_assoc]; omega
  obtain ⟨r, hr⟩ : ∃ r : Int, (a : Int) * 18446744073709551616 + b - (Q1 * 4294967296 + Q2) * c = r := ⟨_, rfl⟩
  rw [hr] at hR
  have r0 : 0 ≤ r := by
    rcases Int.lt_or_le r 0 with h | h
    · have := Int.mul_neg_of_neg_of_pos h hSI; omega
    · exact h
  have r1 : r < c := by
    have : r * S < c * S := by rw [← hR, ← hYc]; exact d2b
    exact Int.lt_of_mul_lt_mul_right this (by omega)
  obtain ⟨u1, u2⟩ := div_unique (x := (a : Int) * 18446744073709551616 + b) (y := c) (q := Q1 * 4294967296 + Q2) (r := r) (by omega) r0 r1
  refine ⟨?_, 0, rfl⟩
  rw [u1, u2, hpow, hR, Int.mul_ediv_cancel _ (by omega)]
end Go.Proofs.YtogdpgfccbohnaaDoor

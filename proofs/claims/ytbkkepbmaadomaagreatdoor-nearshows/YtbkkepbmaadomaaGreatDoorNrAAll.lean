import Derived.Test.YtbkkepbmaadomaaGreatDoorSumAll
import Derived.WalkLawsBesides
import Derived.Laws.BitsAllLaws
namespace Go.Proofs.YtbkkepbmaadomaaGreatDoor
open Go.RowKit

theorem rd64 (b : Nat) : Ieee.double.read b = (if b % 9223372036854775808 < 4503599627370496 then .number (b / 9223372036854775808 % 2 == 1) (b % 9223372036854775808) (-1074)
    else if b % 9223372036854775808 < 9218868437227405312 then .number (b / 9223372036854775808 % 2 == 1) (4503599627370496 + b % 9223372036854775808 % 4503599627370496) (-1074 + (b % 9223372036854775808 / 4503599627370496 - 1 : Nat))
    else if b % 9223372036854775808 = 9218868437227405312 then .infinity (b / 9223372036854775808 % 2 == 1) else .nan (b / 9223372036854775808 % 2 == 1) (b % 9223372036854775808 - 9218868437227405312)) := rfl
theorem shl_pos {m k : Nat} (h : 0 < m) : 0 < m <<< k := by rw [Nat.shiftLeft_eq]; exact Nat.mul_pos h (Nat.two_pow_pos _)
theorem cmpLt (a c : Int) : (some (compare a c) == some Ordering.lt) = decide (a < c) := by
  rw [Bool.eq_iff_iff]; simp [Int.compare_eq_lt]
theorem cmpGt (a c : Int) : (some (compare a c) == some Ordering.gt) = decide (c < a) := by
  rw [Bool.eq_iff_iff]; simp [Int.compare_eq_gt]
theorem ord_num (s t : Bool) (m n : Nat) (i j : Int) : (Ieee.Datum.number s m i).order (.number t n j) = some (compare (Ieee.signed s m (i - min i j).toNat) (Ieee.signed t n (j - min i j).toNat)) := rfl
/-- f < 0 -/
theorem lt_zero (b : Nat) : (Ieee.double.order b 0 == some .lt) = (decide (b % 9223372036854775808 ≤ 9218868437227405312) && decide (0 < b % 9223372036854775808) && (b / 9223372036854775808 % 2 == 1)) := by
  have h0 : Ieee.double.read 0 = .number false 0 (-1074) := rfl
  have hz : ∀ k, Ieee.signed false 0 k = 0 := fun k => by simp [Ieee.signed]
  unfold Ieee.Format.order
  rw [h0, rd64]
  generalize (b / 9223372036854775808 % 2 == 1) = s
  generalize b % 9223372036854775808 = r
  split
  · rename_i h
    rw [ord_num, cmpLt, hz, show ((-1074 : Int) - min (-1074) (-1074)).toNat = 0 by decide, decide_eq_true (show r ≤ 9218868437227405312 by omega)]
    cases s
    · simp [Ieee.signed]
    · simp [Ieee.signed]
  · split
    · rename_i h h2
      have hp : ∀ k, 0 < (4503599627370496 + r % 4503599627370496) <<< k := fun k => shl_pos (by omega)
      rw [ord_num, cmpLt, hz, decide_eq_true (show r ≤ 9218868437227405312 by omega), decide_eq_true (show 0 < r by omega)]
      generalize (-1074 + ((r / 4503599627370496 - 1 : Nat) : Int) - min (-1074 + ((r / 4503599627370496 - 1 : Nat) : Int)) (-1074)).toNat = k
      have := hp k
      unfold Ieee.signed
      generalize (4503599627370496 + r % 4503599627370496) <<< k = Z at *
      cases s
      · exact decide_eq_false (by simp)
      · exact decide_eq_true (by rw [if_pos rfl]; omega)
    · split
      · rename_i h h2 h3
        subst h3
        cases s <;> simp [Ieee.Datum.order]
      · rename_i h h2 h3
        have h1 : ¬ r ≤ 9218868437227405312 := by omega
        cases s <;> simp [Ieee.Datum.order, h1]
/-- f != f -/
theorem ne_self (b : Nat) : (Ieee.double.order b b != some .eq) = decide (9218868437227405312 < b % 9223372036854775808) := by
  unfold Ieee.Format.order
  rw [rd64]
  generalize (b / 9223372036854775808 % 2 == 1) = s
  generalize b % 9223372036854775808 = r
  split
  · rename_i h
    have h1 : ¬ 9218868437227405312 < r := by omega
    simp [Ieee.Datum.order, h1]
  · split
    · rename_i h h2
      have h1 : ¬ 9218868437227405312 < r := by omega
      simp [Ieee.Datum.order, h1]
    · split
      · rename_i h h2 h3
        subst h3
        simp [Ieee.Datum.order]
      · rename_i h h2 h3
        have h1 : 9218868437227405312 < r := by omega
        simp [Ieee.Datum.order, h1]
/-- f > MaxFloat64 -/
theorem gt_max (b : Nat) : (Ieee.double.order b 9218868437227405311 == some .gt) = (decide (b % 9223372036854775808 = 9218868437227405312) && !(b / 9223372036854775808 % 2 == 1)) := by
  have h0 : Ieee.double.read 9218868437227405311 = .number false 9007199254740991 971 := rfl
  have hM : ∀ k, 9007199254740991 ≤ 9007199254740991 <<< k := fun k => by rw [Nat.shiftLeft_eq]; exact Nat.le_mul_of_pos_right _ (Nat.two_pow_pos _)
  unfold Ieee.Format.order
  rw [h0, rd64]
  generalize (b / 9223372036854775808 % 2 == 1) = s
  generalize b % 9223372036854775808 = r
  split
  · rename_i h
    rw [ord_num, cmpGt, decide_eq_false (show ¬ r = 9218868437227405312 by omega), show ((-1074 : Int) - min (-1074) 971).toNat = 0 by decide]
    generalize ((971 : Int) - min (-1074) 971).toNat = k
    have := hM k
    refine decide_eq_false ?_
    unfold Ieee.signed
    generalize 9007199254740991 <<< k = Z at *
    cases s <;> simp <;> omega
  · split
    · rename_i h h2
      have h4 : (-1074 + ((r / 4503599627370496 - 1 : Nat) : Int) - min (-1074 + ((r / 4503599627370496 - 1 : Nat) : Int)) 971).toNat = 0 := by omega
      rw [ord_num, cmpGt, decide_eq_false (show ¬ r = 9218868437227405312 by omega), h4]
      generalize ((971 : Int) - min (-1074 + ((r / 4503599627370496 - 1 : Nat) : Int)) 971).toNat = k
      have := hM k
      have hr : 4503599627370496 + r % 4503599627370496 ≤ 9007199254740991 := by omega
      refine decide_eq_false ?_
      unfold Ieee.signed
      generalize 9007199254740991 <<< k = Z at *
      generalize 4503599627370496 + r % 4503599627370496 = Y at *
      clear h4 h h2
      cases s <;> simp <;> omega
    · split
      · rename_i h h2 h3
        subst h3
        cases s <;> simp [Ieee.Datum.order]
      · rename_i h h2 h3
        simp [Ieee.Datum.order, h3]
end Go.Proofs.YtbkkepbmaadomaaGreatDoor

namespace Go.Proofs.YtbkkepbmaadomaaGreatDoor
open Go.RowKit

theorem isNaN_f (b : Nat) (w : World) : Calls Tryz.prog 19 #[.float .f64 b] w fun e w' => e = .returned (.bool (decide (9218868437227405312 < b % 9223372036854775808))) ∧ w' = w := by
  have h := ne_self b
  go_enter Tryz.func19, Tryz.ntmps19
  go_wp2_with fail
  go_ret
  exact ⟨by rw [← h]; rfl, rfl⟩
theorem ext_bits (b : Nat) (w : World) : (callFunc 65 #[.float .f64 b]).run Tryz.prog w = .ok (.value (.int .u64 b)) w := by kernel_rfl
theorem ext_from (z : Int) (w : World) : (callFunc 8 #[.int .u64 z]).run Tryz.prog w = .ok (.value (.float .f64 z.toNat)) w := by kernel_rfl
attribute [local go_sem] ext_bits ext_from
theorem abs_f (b : Nat) (w : World) : Calls Tryz.prog 64 #[.float .f64 b] w fun e w' => e = .returned (.float .f64 (bits BinOp.andNot IntKind.u64 (b : Int) 9223372036854775808).toNat) ∧ w' = w := by
  go_enter Tryz.func64, Tryz.ntmps64
  go_wp2
  go_ret
  exact ⟨rfl, rfl⟩
theorem clear63 (b : Nat) (hb : b < 18446744073709551616) : (bits BinOp.andNot IntKind.u64 (b : Int) 9223372036854775808).toNat = b % 9223372036854775808 := by
  have := u64_andNot_nat b 9223372036854775808 hb (by decide)
  rw [show ((9223372036854775808 : Nat) : Int) = 9223372036854775808 from rfl] at this
  rw [this, Int.toNat_natCast]
  exact Nat.and_two_pow_sub_one_eq_mod b 63
theorem absF (b : Nat) (w : World) (hb : b < 18446744073709551616) : Calls Tryz.prog 64 #[.float .f64 b] w fun e w' => e = .returned (.float .f64 (b % 9223372036854775808)) ∧ w' = w := by
  have := abs_f b w
  rw [clear63 b hb] at this
  exact this
theorem rankOfF (b : Nat) (w : World) (hb : b < 18446744073709551616) : Calls Tryz.prog 30 #[.float .f64 b] w fun e w' => e = .returned (.int .u64 ((b % 9223372036854775808 : Nat) : Int)) ∧ w' = w := by
  have HA := fun u => absF b u hb
  clear hb
  generalize b % 9223372036854775808 = r at *
  go_enter Tryz.func30, Tryz.ntmps30
  go_wp2_with fail
  refine (HA _).mono ?_
  rintro e w' ⟨rfl, rfl⟩
  clear HA
  go_wp2
  go_ret
  exact ⟨rfl, rfl⟩
theorem isInf0 (b : Nat) (w : World) (hb : b < 18446744073709551616) : Calls Tryz.prog 28 #[.float .f64 b, .int .i64 0] w fun e w' => e = .returned (.bool (decide (b % 9223372036854775808 = 9218868437227405312))) ∧ w' = w := by
  have HA := fun u => absF b u hb
  have HG := gt_max (b % 9223372036854775808)
  rw [show b % 9223372036854775808 % 9223372036854775808 = b % 9223372036854775808 by omega, show b % 9223372036854775808 / 9223372036854775808 = 0 by omega] at HG
  clear hb
  generalize b % 9223372036854775808 = r at *
  go_enter Tryz.func28, Tryz.ntmps28
  go_wp2_with fail
  refine (HA _).mono ?_
  rintro e w' ⟨rfl, rfl⟩
  clear HA
  go_wp2
  go_ret
  refine ⟨?_, rfl⟩
  show Ending.returned (.bool (Ieee.double.order r 9218868437227405311 == some .gt)) = _
  rw [HG]; simp
theorem isInf1 (b : Nat) (w : World) : Calls Tryz.prog 28 #[.float .f64 b, .int .i64 1] w fun e w' => e = .returned (.bool (decide (b % 9223372036854775808 = 9218868437227405312) && !(b / 9223372036854775808 % 2 == 1))) ∧ w' = w := by
  have HG := gt_max b
  go_enter Tryz.func28, Tryz.ntmps28
  go_wp2
  go_ret
  exact ⟨by rw [← HG]; rfl, rfl⟩
theorem rankedP (z : Int) (w : World) : Calls Tryz.prog 36 #[.int .i64 1, .int .u64 z] w fun e w' => e = .returned (.float .f64 z.toNat) ∧ w' = w := by
  go_enter Tryz.func36, Tryz.ntmps36
  go_wp2
  go_ret
  exact ⟨rfl, rfl⟩
theorem neg_f (b : Nat) (w : World) : (Op.unary UnOp.neg (.float .f64 b)).run Tryz.prog w = .ok (.float .f64 (Op.negFloat .f64 b)) w := rfl
attribute [local go_sem] neg_f
theorem neg_lo {b : Nat} (h : b < 9223372036854775808) : Op.negFloat .f64 b = b + 9223372036854775808 := by
  show b ^^^ 9223372036854775808 = _
  have := Nat.two_pow_add_eq_or_of_lt (i := 63) h 1
  rw [Nat.mul_one] at this
  rw [Nat.add_comm, show (9223372036854775808 : Nat) = 2 ^ 63 from rfl, this]
  apply Nat.eq_of_testBit_eq
  intro i
  rw [Nat.testBit_xor, Nat.testBit_or, Nat.testBit_two_pow]
  by_cases hi : 63 = i
  · subst hi
    rw [Nat.testBit_lt_two_pow h]; simp
  · simp [hi]
theorem rankedN0 (w : World) : Calls Tryz.prog 36 #[.int .i64 (-1), .int .u64 0] w fun e w' => e = .returned (.float .f64 0) ∧ w' = w := by
  go_enter Tryz.func36, Tryz.ntmps36
  go_wp2
  go_ret
  exact ⟨rfl, rfl⟩
theorem rankedN (z : Nat) (w : World) (hz : 0 < z) (hb : z < 9223372036854775808) : Calls Tryz.prog 36 #[.int .i64 (-1), .int .u64 z] w fun e w' => e = .returned (.float .f64 (z + 9223372036854775808)) ∧ w' = w := by
  have HN : Hid (Op.negFloat .f64 z = z + 9223372036854775808) := neg_lo hb
  have hz' : (0 : Int) < (z : Int) := by omega
  clear hb
  go_enter Tryz.func36, Tryz.ntmps36
  go_wp2
  go_ret
  exact ⟨by rw [← HN.out]; simp, rfl⟩
/-- A rank's steps of e. -/
def steps (z : Nat) : Nat := z / 4503599627370496 - 1
theorem wrapK (k : Nat) (h : k < 2048) : wrap64 (k : Int) = (k : Int) := by unfold wrap64; omega
theorem wrapE (k : Nat) (h : k < 2048) : wrap64 ((k : Int) + -1074) = (k : Int) - 1074 := by unfold wrap64; omega
set_option maxHeartbeats 2000000 in
theorem splitF (z : Nat) (w : World) (hz : z < 9218868437227405312) : Calls Tryz.prog 29 #[.int .u64 z] w fun e w' => e = .returned (.tuple #[.int .u64 ((z : Int) - (steps z : Int) * 4503599627370496), .int .i64 ((steps z : Int) - 1074)]) ∧ w' = w := by
  have w0 : IntKind.u64.wrap 0 = 0 := by rw [IntKind.wrap_u64]; rfl
  have w1 : wrap64 0 = 0 := by unfold wrap64; omega
  have w2 : wrap64 (-1074) = -1074 := by unfold wrap64; omega
  rcases Nat.lt_or_ge (z / 4503599627370496) 1 with h | h
  · have e1 : steps z = 0 := by unfold steps; omega
    have h' : (z : Int) / 4503599627370496 < 1 := by omega
    have hmx : max ((z : Int) / 4503599627370496) 1 = 1 := by omega
    have w3 : IntKind.u64.wrap (z : Int) = (z : Int) := by rw [IntKind.wrap_u64]; omega
    rw [e1]
    clear hz h e1
    go_enter Tryz.func29, Tryz.ntmps29
    go_wp2
    go_ret2
    exact ⟨by simp, rfl⟩
  · obtain ⟨k, hk⟩ : ∃ k : Nat, z / 4503599627370496 = k + 1 := ⟨z / 4503599627370496 - 1, by omega⟩
    have e1 : steps z = k := by unfold steps; omega
    have h' : ¬ (z : Int) / 4503599627370496 < 1 := by omega
    have hq : (z : Int) / 4503599627370496 = (k : Int) + 1 := by omega
    have hmx : max ((k : Int) + 1) 1 = (k : Int) + 1 := by omega
    have hr : 0 ≤ (z : Int) - (k : Int) * 4503599627370496 ∧ (z : Int) - (k : Int) * 4503599627370496 < 18446744073709551616 := by omega
    have hk2 : k < 2048 := by omega
    have w3 : IntKind.u64.wrap ((k : Int) + 1 - 1) = (k : Int) := by rw [IntKind.wrap_u64]; omega
    have w4 : IntKind.u64.wrap (k : Int) = (k : Int) := by rw [IntKind.wrap_u64]; omega
    have w5 : IntKind.u64.wrap ((k : Int) * 4503599627370496) = (k : Int) * 4503599627370496 := by rw [IntKind.wrap_u64]; exact Int.emod_eq_of_lt (by omega) (by omega)
    have w6 : IntKind.u64.wrap ((z : Int) - (k : Int) * 4503599627370496) = (z : Int) - (k : Int) * 4503599627370496 := by rw [IntKind.wrap_u64]; exact Int.emod_eq_of_lt hr.1 hr.2
    have w7 : wrap64 (k : Int) = (k : Int) := wrapK k hk2
    have w8 : wrap64 ((k : Int) + -1074) = (k : Int) - 1074 := wrapE k hk2
    rw [e1]
    have HW : Hid (IntKind.u64.wrap ((z : Int) - IntKind.u64.wrap ((k : Int) * 4503599627370496)) = (z : Int) - (k : Int) * 4503599627370496) := by
      show _ = _
      rw [w5, w6]
    clear hz h e1 hk hr hk2 w5 w6
    go_enter Tryz.func29, Tryz.ntmps29
    go_wp2
    go_ret2
    refine ⟨?_, rfl⟩
    show Ending.returned (.tuple #[.int .u64 (IntKind.u64.wrap ((z : Int) - IntKind.u64.wrap ((k : Int) * 4503599627370496))), .int .i64 ((k : Int) - 1074)]) = _
    rw [HW.out]
end Go.Proofs.YtbkkepbmaadomaaGreatDoor

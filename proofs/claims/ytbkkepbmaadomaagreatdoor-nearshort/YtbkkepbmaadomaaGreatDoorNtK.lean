import Derived.Test.YtbkkepbmaadomaaGreatDoorNtGAll
import Derived.Test.YtbkkepbmaadomaaGreatDoorNrLAll
namespace Go.Proofs.YtbkkepbmaadomaaGreatDoor
open Go.RowKit

theorem rd_nan {b : Nat} (h : 9218868437227405312 < b % 9223372036854775808) : ∃ s p, Ieee.double.read b = .nan s p := by
  rw [rd64, if_neg (by omega), if_neg (by omega), if_neg (by omega)]
  exact ⟨_, _, rfl⟩
theorem sub_nan {b : Nat} (h : 9218868437227405312 < b % 9223372036854775808) : Ieee.double.sub b b = none := by
  unfold Ieee.Format.sub
  obtain ⟨s, p, e⟩ := rd_nan h
  rw [e]
  rfl
theorem nan_self {b : Nat} (h : 9218868437227405312 < b % 9223372036854775808) : Ieee.double.order b b = none := by
  unfold Ieee.Format.order
  obtain ⟨s, p, e⟩ := rd_nan h
  rw [e]
  rfl
theorem finiteN {b : Nat} (w : World) (h : 9218868437227405312 < b % 9223372036854775808) : Calls Tryz.prog 10 #[.float .f64 b] w fun e w' => e = .returned (.bool false) ∧ Below w.heap.size w w' := by
  obtain ⟨N, hN, hs⟩ : ∃ N, 9218868437227405312 < N % 9223372036854775808 ∧ (binOp .sub 25 (.float .f64 b) (.float .f64 b)).run Tryz.prog w = .ok (.float .f64 N) w.drew := by
    refine ⟨Question.cut (.nanBits .f64 b b) (w.tape w.drawn (.nanBits .f64 b b)), ?_, ?_⟩
    · simp only [Question.cut]
      generalize w.tape w.drawn (.nanBits .f64 b b) = t
      have h1 := Nat.mod_lt (t / 2) (show 0 < 2 ^ 52 - 1 by decide)
      generalize t / 2 % (2 ^ 52 - 1) = v at *
      rcases Nat.mod_two_eq_zero_or_one t with h2 | h2 <;> rw [h2] <;> omega
    · have e : FloatKind.f64.format.sub b b = none := sub_nan h
      simp [binOp, Op.floatArith, e, Question.forced]
  have ho : FloatKind.f64.format.order N 0 = none := nan_order hN
  clear h hN
  go_enter Tryz.func10, Tryz.ntmps10
  go_wp2
  go_ret
  exact ⟨by simp, belN (Below.refl _ w) 1⟩
set_option maxRecDepth 100000 in
set_option maxHeartbeats 4000000 in
theorem bad_N {b : Nat} {ev : Value} (w : World) (hT : TB w) (E : Errs w 0 ev) (HF : ∀ u, Calls Tryz.prog 10 #[.float .f64 b] u fun e w' => e = .returned (.bool false) ∧ Below u.heap.size u w') (HX : ∀ u, Errs u 0 ev → Calls Tryz.prog 11 #[.float .f64 b] u fun e w' => e = .returned (.tuple #[.agg #[.bool false, .slice none 0 0, .slice none 0 0], ev]) ∧ Below u.heap.size u w') (HN : ∀ u, Calls Tryz.prog 12 #[.float .f64 b] u fun e w' => e = .returned (.float .f64 b) ∧ w' = u) (o1 : FloatKind.f64.format.order b b = none) :
    Calls Tryz.prog 4 #[.int .u64 (b : Int)] w fun e w' => e = .returned (.bool true) ∧ Below w.heap.size w w' := by
  have HB := fun u => ext_from (b : Int) u
  have hb0 := Below.refl w.heap.size w
  go_enter Tryz.func4, Tryz.ntmps4
  go_wp2_with fail
  refine (awake4 _ hT).mono ?_
  rintro e w1 ⟨rfl, hx⟩
  replace hT := hT.below hx
  replace E := E.below hx
  replace hb0 := bel_tr hb0 hx
  clear hx
  clear hT
  go_wp2_with fail
  refine (HF _).mono ?_
  rintro e w2 ⟨rfl, hx⟩
  replace E := E.below hx
  replace hb0 := bel_tr hb0 hx
  clear hx
  go_wp2_with fail
  refine (HX _ E).mono ?_
  rintro e w3 ⟨rfl, hx⟩
  replace E := E.below hx
  replace hb0 := bel_tr hb0 hx
  clear hx
  have V0 := var3_new w3 (.bool false) (.slice none 0 0) (.slice none 0 0) 35
  have hx := bel_d0 w3 (.cells #[.bool false, .slice none 0 0, .slice none 0 0] 35)
  replace E := E.below hx
  replace hb0 := bel_tr hb0 hx
  clear hx
  go_wp2_with fail
  generalize w3.alloc (.cells #[.bool false, .slice none 0 0, .slice none 0 0] 35) = w4 at *
  refine (HN _).mono ?_
  rintro e w5 ⟨rfl, e9⟩
  subst e9
  obtain ⟨p0, p1, p2, p3, p4, p5⟩ := id V0
  obtain ⟨i, hi, hcmp⟩ := Option.map_eq_some_iff.1 Tryz.errComp
  obtain ⟨jj, hj, _⟩ := Option.map_eq_some_iff.1 Tryz.errSize
  obtain ⟨ec, pe, rfl⟩ := id E
  have heq := run_eql_iface_ptr_same (P := Tryz.prog) w5 pe Tryz.underlying37 Tryz.underlying197 hi hcmp hj
  clear HB HX HN HF
  go_wp2
  go_ret
  exact ⟨by simp, hb0⟩
set_option maxRecDepth 100000 in
set_option maxHeartbeats 4000000 in
theorem bad_P {b : Nat} {ev : Value} (w : World) (hT : TB w) (E : Errs w 0 ev) (HF : ∀ u, Calls Tryz.prog 10 #[.float .f64 b] u fun e w' => e = .returned (.bool false) ∧ Below u.heap.size u w') (HX : ∀ u, Errs u 0 ev → Calls Tryz.prog 11 #[.float .f64 b] u fun e w' => e = .returned (.tuple #[.agg #[.bool false, .slice none 0 0, .slice none 0 0], ev]) ∧ Below u.heap.size u w') (HN : ∀ u, Calls Tryz.prog 12 #[.float .f64 b] u fun e w' => e = .returned (.float .f64 b) ∧ w' = u) (o1 : FloatKind.f64.format.order b b = some .eq) (o2 : FloatKind.f64.format.order b 0 = some .gt) :
    Calls Tryz.prog 4 #[.int .u64 (b : Int)] w fun e w' => e = .returned (.bool true) ∧ Below w.heap.size w w' := by
  have HB := fun u => ext_from (b : Int) u
  have hb0 := Below.refl w.heap.size w
  go_enter Tryz.func4, Tryz.ntmps4
  go_wp2_with fail
  refine (awake4 _ hT).mono ?_
  rintro e w1 ⟨rfl, hx⟩
  replace hT := hT.below hx
  replace E := E.below hx
  replace hb0 := bel_tr hb0 hx
  clear hx
  clear hT
  go_wp2_with fail
  refine (HF _).mono ?_
  rintro e w2 ⟨rfl, hx⟩
  replace E := E.below hx
  replace hb0 := bel_tr hb0 hx
  clear hx
  go_wp2_with fail
  refine (HX _ E).mono ?_
  rintro e w3 ⟨rfl, hx⟩
  replace E := E.below hx
  replace hb0 := bel_tr hb0 hx
  clear hx
  have V0 := var3_new w3 (.bool false) (.slice none 0 0) (.slice none 0 0) 35
  have hx := bel_d0 w3 (.cells #[.bool false, .slice none 0 0, .slice none 0 0] 35)
  replace E := E.below hx
  replace hb0 := bel_tr hb0 hx
  clear hx
  go_wp2_with fail
  generalize w3.alloc (.cells #[.bool false, .slice none 0 0, .slice none 0 0] 35) = w4 at *
  refine (HN _).mono ?_
  rintro e w5 ⟨rfl, e9⟩
  subst e9
  obtain ⟨p0, p1, p2, p3, p4, p5⟩ := id V0
  obtain ⟨i, hi, hcmp⟩ := Option.map_eq_some_iff.1 Tryz.errComp
  obtain ⟨jj, hj, _⟩ := Option.map_eq_some_iff.1 Tryz.errSize
  obtain ⟨ec, pe, rfl⟩ := id E
  have heq := run_eql_iface_ptr_same (P := Tryz.prog) w5 pe Tryz.underlying37 Tryz.underlying197 hi hcmp hj
  clear HB HX HN HF
  go_wp2
  go_ret
  exact ⟨by simp, hb0⟩
set_option maxRecDepth 100000 in
set_option maxHeartbeats 4000000 in
theorem bad_M {b N : Nat} {ev : Value} (w : World) (hT : TB w) (E : Errs w 0 ev) (HF : ∀ u, Calls Tryz.prog 10 #[.float .f64 b] u fun e w' => e = .returned (.bool false) ∧ Below u.heap.size u w') (HX : ∀ u, Errs u 0 ev → Calls Tryz.prog 11 #[.float .f64 b] u fun e w' => e = .returned (.tuple #[.agg #[.bool false, .slice none 0 0, .slice none 0 0], ev]) ∧ Below u.heap.size u w') (HN : ∀ u, Calls Tryz.prog 12 #[.float .f64 b] u fun e w' => e = .returned (.float .f64 N) ∧ w' = u) (HFN : ∀ u, Calls Tryz.prog 10 #[.float .f64 N] u fun e w' => e = .returned (.bool true) ∧ Below u.heap.size u w') (o1 : FloatKind.f64.format.order b b = some .eq) (o2 : FloatKind.f64.format.order b 0 = some .lt) (o3 : FloatKind.f64.format.order N 0 = some .lt) :
    Calls Tryz.prog 4 #[.int .u64 (b : Int)] w fun e w' => e = .returned (.bool true) ∧ Below w.heap.size w w' := by
  have HB := fun u => ext_from (b : Int) u
  have hb0 := Below.refl w.heap.size w
  go_enter Tryz.func4, Tryz.ntmps4
  go_wp2_with fail
  refine (awake4 _ hT).mono ?_
  rintro e w1 ⟨rfl, hx⟩
  replace hT := hT.below hx
  replace E := E.below hx
  replace hb0 := bel_tr hb0 hx
  clear hx
  clear hT
  go_wp2_with fail
  refine (HF _).mono ?_
  rintro e w2 ⟨rfl, hx⟩
  replace E := E.below hx
  replace hb0 := bel_tr hb0 hx
  clear hx
  go_wp2_with fail
  refine (HX _ E).mono ?_
  rintro e w3 ⟨rfl, hx⟩
  replace E := E.below hx
  replace hb0 := bel_tr hb0 hx
  clear hx
  have V0 := var3_new w3 (.bool false) (.slice none 0 0) (.slice none 0 0) 35
  have hx := bel_d0 w3 (.cells #[.bool false, .slice none 0 0, .slice none 0 0] 35)
  replace E := E.below hx
  replace hb0 := bel_tr hb0 hx
  clear hx
  go_wp2_with fail
  generalize w3.alloc (.cells #[.bool false, .slice none 0 0, .slice none 0 0] 35) = w4 at *
  refine (HN _).mono ?_
  rintro e w5 ⟨rfl, e9⟩
  subst e9
  obtain ⟨p0, p1, p2, p3, p4, p5⟩ := id V0
  obtain ⟨i, hi, hcmp⟩ := Option.map_eq_some_iff.1 Tryz.errComp
  obtain ⟨jj, hj, _⟩ := Option.map_eq_some_iff.1 Tryz.errSize
  obtain ⟨ec, pe, rfl⟩ := id E
  have heq := run_eql_iface_ptr_same (P := Tryz.prog) w5 pe Tryz.underlying37 Tryz.underlying197 hi hcmp hj
  clear HB HX HN HF
  go_wp2_with fail
  refine (HFN _).mono ?_
  rintro e w6 ⟨rfl, hx⟩
  replace hb0 := bel_tr hb0 hx
  clear hx p0 p1 p2 p3 p4 p5 heq hi hcmp hj V0 E HFN
  go_wp2
  go_ret
  exact ⟨by simp, hb0⟩
theorem back_bad {b : Nat} {ev : Value} (w : World) (hl : b < 18446744073709551616) (h : ¬ b % 9223372036854775808 < 9218868437227405312) (hT : TB w) (E : Errs w 0 ev) :
    Calls Tryz.prog 4 #[.int .u64 (b : Int)] w fun e w' => e = .returned (.bool true) ∧ Below w.heap.size w w' := by
  by_cases hn : 9218868437227405312 < b % 9223372036854775808
  · exact bad_N w hT E (fun u => finiteN u hn) (fun u E => exactNaN u hn E) (fun u => nextNaN u hn) (nan_self hn)
  · have hi : b % 9223372036854775808 = 9218868437227405312 := by omega
    have o1 : FloatKind.f64.format.order b b = some .eq := by
      have : FloatKind.f64.format.order b b = some (compare (key b) (key b)) := order_key (by omega) (by omega)
      rw [this, Int.compare_eq_eq.2 rfl]
    by_cases hs : b < 9223372036854775808
    · have e : b = 9218868437227405312 := by omega
      subst e
      exact bad_P w hT E (fun u => finiteF u hi) (fun u E => exactInf u hl hi E) (fun u => nextInf u rfl) o1 (by decide +kernel)
    · have e : b = 18442240474082181120 := by omega
      subst e
      exact bad_M (N := 18442240474082181119) w hT E (fun u => finiteF u hi) (fun u E => exactInf u hl hi E) (fun u => nextNeg (r := 9218868437227405312) u hl hi (by decide) (by decide) (by decide)) (fun u => finiteT u (by decide)) o1 (by decide +kernel) (by decide +kernel)
end Go.Proofs.YtbkkepbmaadomaaGreatDoor

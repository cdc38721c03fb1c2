import Derived.Test.YtbkkepbmaadomaaGreatDoorNtGAll
import Derived.Test.YtbkkepbmaadomaaGreatDoorNrLAll
namespace Go.Proofs.YtbkkepbmaadomaaGreatDoor
open Go.RowKit

theorem rd_nan {b : Nat} (h : 9218868437227405312 < b % 9223372036854775808) : ∃ s p, Ieee.double.read b = .nan s p := by
  rw [rd64, if_neg (by omega), if_neg (by omega), if_neg (by omega)]
  exact ⟨_, _, rfl⟩
theorem sub_nan {b : Nat} (h : 9218868437227405312 < b % 9223372036854775808) : Ieee.double.sub b b = none := by
  unfold Ieee.Format.sub
  obtain ⟨s, p, e⟩ := rd_nan h
  rw [e]
  rfl
theorem nan_self {b : Nat} (h : 9218868437227405312 < b % 9223372036854775808) : Ieee.double.order b b = none := by
  unfold Ieee.Format.order
  obtain ⟨s, p, e⟩ := rd_nan h
  rw [e]
  rfl
theorem finiteN {b : Nat} (w : World) (h : 9218868437227405312 < b % 9223372036854775808) : Calls Tryz.prog 10 #[.float .f64 b] w fun e w' => e = .returned (.bool false) ∧ Below w.heap.size w w' := by
  obtain ⟨N, hN, hs⟩ : ∃ N, 9218868437227405312 < N % 9223372036854775808 ∧ (binOp .sub 25 (.float .f64 b) (.float .f64 b)).run Tryz.prog w = .ok (.float .f64 N) w.drew := by
    refine ⟨Question.cut (.nanBits .f64 b b) (w.tape w.drawn (.nanBits .f64 b b)), ?_, ?_⟩
    · simp only [Question.cut]
      generalize w.tape w.drawn (.nanBits .f64 b b) = t
      have h1 := Nat.mod_lt (t / 2) (show 0 < 2 ^ 52 - 1 by decide)
      generalize t / 2 % (2 ^ 52 - 1) = v at *
      rcases Nat.mod_two_eq_zero_or_one t with h2 | h2 <;> rw [h2] <;> omega
    · have e : FloatKind.f64.format.sub b b = none := sub_nan h
      simp [binOp, Op.floatArith, e, Question.forced]
  have ho : FloatKind.f64.format.order N 0 = none := nan_order hN
  clear h hN
  go_enter Tryz.func10, Tryz.ntmps10
  go_wp2
  go_ret
  exact ⟨by simp, belN (Below.refl _ w) 1⟩
set_option maxRecDepth 100000 in
set_option maxHeartbeats 4000000 in
theorem bad_N {b : Nat} {ev : Value} (w : World) (hT : TB w) (E : Errs w 0 ev) (HF : ∀ u, Calls Tryz.prog 10 #[.float .f64 b] u fun e w' => e = .returned (.bool false) ∧ Below u.heap.size u w') (HX : ∀ u, Errs u 0 ev → Calls Tryz.prog 11 #[.float .f64 b] u fun e w' => e = .returned (.tuple #[.agg #[.bool false, .slice none 0 0, .slice none 0 0], ev]) ∧ Below u.heap.size u w') (HN : ∀ u, Calls Tryz.prog 12 #[.float .f64 b] u fun e w' => e = .returned (.float .f64 b) ∧ w' = u) (o1 : FloatKind.f64.format.order b b = none) :
    Calls Tryz.prog 4 #[.int .u64 (b : Int)] w fun e w' => e = .returned (.bool true) ∧ Below w.heap.size w w' := by
  have HB := fun u => ext_from (b : Int) u
  have hb0 := Below.refl w.heap.size w
  go_enter Tryz.func4, Tryz.ntmps4
  go_wp2_with fail
  refine (awake4 _ hT).mono ?_
  rintro e w1 ⟨rfl, hx⟩
  replace hT := hT.below hx
  replace E := E.below hx
  replace hb0 := bel_tr hb0 hx
  clear hx
  clear hT
  go_wp2_with fail
  refine (HF _).mono ?_
  rintro e w2 ⟨rfl, hx⟩
  replace E := E.below hx
  replace hb0 := bel_tr hb0 hx
  clear hx
  go_wp2_with fail
  refine (HX _ E).mono ?_
  rintro e w3 ⟨rfl, hx⟩
  replace E := E.below hx
  replace hb0 := bel_tr hb0 hx
  clear hx
  have V0 := var3_new w3 (.bool false) (.slice none 0 0) (.slice none 0 0) 35
  have hx := bel_d0 w3 (.cells #[.bool false, .slice none 0 0, .slice none 0 0] 35)
  replace E := E.below hx
  replace hb0 := bel_tr hb0 hx
  clear hx
  go_wp2_with fail
  generalize w3.alloc (.cells #[.bool false, .slice none 0 0, .slice none 0 0] 35) = w4 at *
  refine (HN _).mono ?_
  rintro e w5 ⟨rfl, e9⟩
  subst e9
  obtain ⟨p0, p1, p2, p3, p4, p5⟩ := id V0
  obtain ⟨i, hi, hcmp⟩ := Option.map_eq_some_iff.1 Tryz.errComp
  obtain ⟨jj, hj, _⟩ := Option.map_eq_some_iff.1 Tryz.errSize
  obtain ⟨ec, pe, rfl⟩ := id E
  have heq := run_eql_iface_ptr_same (P := Tryz.prog) w5 pe Tryz.underlying37 Tryz.underlying197 hi hcmp hj
  clear HB HX HN HF
  go_wp2
  go_ret
  exact ⟨by simp, hb0⟩
set_option maxRecDepth 100000 in
set_option maxHeartbeats 4000000 in
theorem bad_P {b : Nat} {ev : Value} (w : World) (hT : TB w) (E : Errs w 0 ev) (HF : ∀ u, Calls Tryz.prog 10 #[.float .f64 b] u fun e w' => e = .returned (.bool false) ∧ Below u.heap.size u w') (HX : ∀ u, Errs u 0 ev → Calls Tryz.prog 11 #[.float .f64 b] u fun e w' => e = .returned (.tuple #[.agg #[.bool false, .slice none 0 0, .slice none 0 0], ev]) ∧ Below u.heap.size u w') (HN : ∀ u, Calls Tryz.prog 12 #[.float .f64 b] u fun e w' => e = .returned (.float .f64 b) ∧ w' = u) (o1 : FloatKind.f64.format.order b b = some .eq) (o2 : FloatKind.f64.format.order b 0 = some .gt) :
    Calls Tryz.prog 4 #[.int .u64 (b : Int)] w fun e w' => e = .returned (.bool true) ∧ Below w.heap.size w w' := by
  have HB := fun u => ext_from (b : Int) u
  have hb0 := Below.refl w.heap.size w
  go_enter Tryz.func4, Tryz.ntmps4
  go_wp2_with fail
  refine (awake4 _ hT).mono ?_
  rintro e w1 ⟨rfl, hx⟩
  replace hT := hT.below hx
  replace E := E.below hx
  replace hb0 := bel_tr hb0 hx
  clear hx
  clear hT
  go_wp2_with fail
  refine (HF _).mono ?_
  rintro e w2 ⟨rfl, hx⟩
  replace E := E.below hx
  replace hb0 := bel_tr hb0 hx
  clear hx
  go_wp2_with fail
  refine (HX _ E).mono ?_
  rintro e w3 ⟨rfl, hx⟩
  replace E := E.below hx
  replace hb0 := bel_tr hb0 hx
  clear hx
  have V0 := var3_new w3 (.bool false) (.slice none 0 0) (.slice none 0 0) 35
  have hx := bel_d0 w3 (.cells #[.bool false, .slice none 0 0, .slice none 0 0] 35)
  replace E := E.below hx
  replace hb0 := bel_tr hb0 hx
  clear hx
  go_wp2_with fail
  generalize w3.alloc (.cells #[.bool false, .slice none 0 0, .slice none 0 0] 35) = w4 at *
  refine (HN _).mono ?_
  rintro e w5 ⟨rfl, e9⟩
  subst e9
  obtain ⟨p0, p1, p2, p3, p4, p5⟩ := id V0
  obtain ⟨i, hi, hcmp⟩ := Option.map_eq_some_iff.1 Tryz.errComp
  obtain ⟨jj, hj, _⟩ := Option.map_eq_some_iff.1 Tryz.errSize
  obtain ⟨ec, pe, rfl⟩ := id E
  have heq := run_eql_iface_ptr_same (P := Tryz.prog) w5 pe Tryz.underlying37 Tryz.underlying197 hi hcmp hj
  clear HB HX HN HF
  go_wp2
  go_ret
  exact ⟨by simp, hb0⟩
set_option maxRecDepth 100000 in
set_option maxHeartbeats 4000000 in
theorem bad_M {b N : Nat} {ev : Value} (w : World) (hT : TB w) (E : Errs w 0 ev) (HF : ∀ u, Calls Tryz.prog 10 #[.float .f64 b] u fun e w' => e = .returned (.bool false) ∧ Below u.heap.size u w') (HX : ∀ u, Errs u 0 ev → Calls Tryz.prog 11 #[.float .f64 b] u fun e w' => e = .returned (.tuple #[.agg #[.bool false, .slice none 0 0, .slice none 0 0], ev]) ∧ Below u.heap.size u w') (HN : ∀ u, Calls Tryz.prog 12 #[.float .f64 b] u fun e w' => e = .returned (.float .f64 N) ∧ w' = u) (HFN : ∀ u, Calls Tryz.prog 10 #[.float .f64 N] u fun e w' => e = .returned (.bool true) ∧ Below u.heap.size u w') (o1 : FloatKind.f64.format.order b b = some .eq) (o2 : FloatKind.f64.format.order b 0 = some .lt) (o3 : FloatKind.f64.format.order N 0 = some .lt) :
    Calls Tryz.prog 4 #[.int .u64 (b : Int)] w fun e w' => e = .returned (.bool true) ∧ Below w.heap.size w w' := by
  have HB := fun u => ext_from (b : Int) u
  have hb0 := Below.refl w.heap.size w
  go_enter Tryz.func4, Tryz.ntmps4
  go_wp2_with fail
  refine (awake4 _ hT).mono ?_
  rintro e w1 ⟨rfl, hx⟩
  replace hT := hT.below hx
  replace E := E.below hx
  replace hb0 := bel_tr hb0 hx
  clear hx
  clear hT
  go_wp2_with fail
  refine (HF _).mono ?_
  rintro e w2 ⟨rfl, hx⟩
  replace E := E.below hx
  replace hb0 := bel_tr hb0 hx
  clear hx
  go_wp2_with fail
  refine (HX _ E).mono ?_
  rintro e w3 ⟨rfl, hx⟩
  replace E := E.below hx
  replace hb0 := bel_tr hb0 hx
  clear hx
  have V0 := var3_new w3 (.bool false) (.slice none 0 0) (.slice none 0 0) 35
  have hx := bel_d0 w3 (.cells #[.bool false, .slice none 0 0, .slice none 0 0] 35)
  replace E := E.below hx
  replace hb0 := bel_tr hb0 hx
  clear hx
  go_wp2_with fail
  generalize w3.alloc (.cells #[.bool false, .slice none 0 0, .slice none 0 0] 35) = w4 at *
  refine (HN _).mono ?_
  rintro e w5 ⟨rfl, e9⟩
  subst e9
  obtain ⟨p0, p1, p2, p3, p4, p5⟩ := id V0
  obtain ⟨i, hi, hcmp⟩ := Option.map_eq_some_iff.1 Tryz.errComp
  obtain ⟨jj, hj, _⟩ := Option.map_eq_some_iff.1 Tryz.errSize
  obtain ⟨ec, pe, rfl⟩ := id E
  have heq := run_eql_iface_ptr_same (P := Tryz.prog) w5 pe Tryz.underlying37 Tryz.underlying197 hi hcmp hj
  clear HB HX HN HF
  go_wp2_with fail
  refine (HFN _).mono ?_
  rintro e w6 ⟨rfl, hx⟩
  replace hb0 := bel_tr hb0 hx
  clear hx p0 p1 p2 p3 p4 p5 heq hi hcmp hj V0 E HFN
  go_wp2
  go_ret
  exact ⟨by simp, hb0⟩
theorem back_bad {b : Nat} {ev : Value} (w : World) (hl : b < 18446744073709551616) (h : ¬ b % 9223372036854775808 < 9218868437227405312) (hT : TB w) (E : Errs w 0 ev) :
    Calls Tryz.prog 4 #[.int .u64 (b : Int)] w fun e w' => e = .returned (.bool true) ∧ Below w.heap.size w w' := by
  by_cases hn : 9218868437227405312 < b % 9223372036854775808
  · exact bad_N w hT E (fun u => finiteN u hn) (fun u E => exactNaN u hn E) (fun u => nextNaN u hn) (nan_self hn)
  · have hi : b % 9223372036854775808 = 9218868437227405312 := by omega
    have o1 : FloatKind.f64.format.order b b = some .eq := by
      have : FloatKind.f64.format.order b b = some (compare (key b) (key b)) := order_key (by omega) (by omega)
      rw [this, Int.compare_eq_eq.2 rfl]
    by_cases hs : b < 9223372036854775808
    · have e : b = 9218868437227405312 := by omega
      subst e
      exact bad_P w hT E (fun u => finiteF u hi) (fun u E => exactInf u hl hi E) (fun u => nextInf u rfl) o1 (by decide +kernel)
    · have e : b = 18442240474082181120 := by omega
      subst e
      exact bad_M (N := 18442240474082181119) w hT E (fun u => finiteF u hi) (fun u E => exactInf u hl hi E) (fun u => nextNeg (r := 9218868437227405312) u hl hi (by decide) (by decide) (by decide)) (fun u => finiteT u (by decide)) o1 (by decide +kernel) (by decide +kernel)
end Go.Proofs.YtbkkepbmaadomaaGreatDoor

namespace Go.Proofs.YtbkkepbmaadomaaGreatDoor
open Go.RowKit

set_option maxRecDepth 100000 in
set_option maxHeartbeats 4000000 in
theorem fin_F {b : Nat} (w : World) (hl : b < 18446744073709551616) (h : b % 9223372036854775808 < 9218868437227405312) (hn : key b + 1 = 9218868437227405312) (hT : TB w) (hP : TP w) :
    Calls Tryz.prog 4 #[.int .u64 (b : Int)] w fun e w' => e = .returned (.bool true) ∧ Below w.heap.size w w' := by
  have HB := fun u => ext_from (b : Int) u
  obtain ⟨k1, k2, -, -⟩ := key_fin hl h
  have HX := fun u hu => exactB (b := b) u hl h hu
  have HFT := fun u => finiteT (b := b) u h
  have HSH := fun u hu => showQ b u hl h hu
  have HNX := fun u => nextB (b := b) u hl h
  have PZ := exr_pz k1 k2
  obtain ⟨q1, q2, q3, q4⟩ := flz4 (key b)
  obtain ⟨G, hG⟩ : ∃ G, fb (key b) = G := ⟨_, rfl⟩
  obtain ⟨N, hN⟩ : ∃ N, fb (key b + 1) = N := ⟨_, rfl⟩
  rw [hN] at HNX
  have HF : Hid (fb (flz (4 * key b)) = G) := by show _ = _; rw [q1]; exact hG
  have HD : Hid (fb (dnz (4 * key b)) = G) := by show _ = _; rw [q3]; exact hG
  have HU : Hid (fb (upz (4 * key b)) = G) := by show _ = _; rw [q4]; exact hG
  have HSD : Hid (sdz (4 * key b) = 0) := q2
  have HG : Hid (fb (key b) = G) := hG
  have oG : FloatKind.f64.format.order G b = some .eq := by
    have f := fb_ok (z := key b) (by omega) (by omega)
    have : FloatKind.f64.format.order G b = some (compare (key G) (key b)) := order_key (by rw [← hG]; exact f.1) (by omega)
    rw [this, ← hG, f.2.1, Int.compare_eq_eq.2 rfl]
  have oN : FloatKind.f64.format.order N b = some .gt := by
    have f := fb_ok (z := key b + 1) (by omega) (by omega)
    have : FloatKind.f64.format.order N b = some (compare (key N) (key b)) := order_key (by rw [← hN]; exact f.1) (by omega)
    rw [this, ← hN, f.2.1, Int.compare_eq_gt.2 (by omega)]
  have HFN := fun u => finiteF (b := N) u (by rw [← hN, fb_mod (by omega) (by omega)]; omega)
  clear k1 k2 q1 q2 q3 q4 hG hN hn hl h
  generalize key b = k at *
  have hb0 := Below.refl w.heap.size w
  go_enter Tryz.func4, Tryz.ntmps4
  go_wp2_with fail
  refine (awake4 _ hT).mono ?_
  rintro e w1 ⟨rfl, hx⟩
  replace hT := hT.below hx
  replace hP := hP.below hx
  replace hb0 := bel_tr hb0 hx
  clear hx
  go_wp2_with fail
  refine (HFT _).mono ?_
  rintro e w2 ⟨rfl, hx⟩
  replace hT := hT.below hx
  replace hP := hP.below hx
  replace hb0 := bel_tr hb0 hx
  clear hx
  go_wp2_with fail
  refine (HX _ hT).mono ?_
  rintro e w3 ⟨fr, cr, nr, kr, dr, mr, lr, rfl, Gr, hx⟩
  replace hT := hT.below hx
  replace hP := hP.below hx
  replace hb0 := bel_tr hb0 hx
  clear hx
  have Vr := var3_new w3 (.bool fr) (.slice cr nr kr) (.slice dr mr lr) 35
  have hx := bel_d0 w3 (.cells #[.bool fr, .slice cr nr kr, .slice dr mr lr] 35)
  replace hT := hT.below hx
  replace hP := hP.below hx
  replace Gr := Gr.below hx
  replace hb0 := bel_tr hb0 hx
  clear hx
  obtain ⟨vrc0, vrc1, vrc2, vrc3, vrc4, vrc5⟩ := id Vr
  go_wp2_with fail
  generalize w3.alloc (.cells #[.bool fr, .slice cr nr kr, .slice dr mr lr] 35) = w4 at *
  refine (floatQ (4 * k) _ Gr.tr (by decide) (by decide) PZ HF.out HSD.out).mono ?_
  rintro e w5 ⟨rfl, hx⟩
  clear vrc0 vrc1 vrc2 vrc3 vrc4 vrc5
  replace hT := hT.below hx
  replace hP := hP.below hx
  replace Gr := Gr.below hx
  replace Vr := Vr.below hx
  replace hb0 := bel_tr hb0 hx
  clear hx
  clear HF HSD HX HFT
  go_wp2_with fail
  refine (HSH _ hP).mono ?_
  rintro e w6 ⟨s, rfl, RD, hx⟩
  replace hT := hT.below hx
  replace hP := hP.below hx
  replace Gr := Gr.below hx
  replace Vr := Vr.below hx
  replace hb0 := bel_tr hb0 hx
  clear hx
  clear HSH
  go_wp2_with fail
  refine (RD.read HG.out _ hT).mono ?_
  rintro e w7 ⟨rfl, hx⟩
  replace hT := hT.below hx
  replace hP := hP.below hx
  replace Gr := Gr.below hx
  replace Vr := Vr.below hx
  replace hb0 := bel_tr hb0 hx
  clear hx
  clear RD HG
  go_wp2_with fail
  refine (HNX _).mono ?_
  rintro e w8 ⟨rfl, e9⟩
  subst e9
  obtain ⟨vrc0, vrc1, vrc2, vrc3, vrc4, vrc5⟩ := id Vr
  go_wp2_with fail
  refine (downQ (4 * k) _ Gr.tr (by decide) (by decide) PZ HD.out).mono ?_
  rintro e w9 ⟨rfl, hx⟩
  clear vrc0 vrc1 vrc2 vrc3 vrc4 vrc5
  replace hT := hT.below hx
  replace hP := hP.below hx
  replace Gr := Gr.below hx
  replace Vr := Vr.below hx
  replace hb0 := bel_tr hb0 hx
  clear hx
  obtain ⟨vrc0, vrc1, vrc2, vrc3, vrc4, vrc5⟩ := id Vr
  go_wp2_with fail
  refine (upQ (4 * k) _ Gr.tr (by decide) (by decide) PZ HU.out).mono ?_
  rintro e w10 ⟨rfl, hx⟩
  clear vrc0 vrc1 vrc2 vrc3 vrc4 vrc5
  replace hT := hT.below hx
  replace hP := hP.below hx
  replace Gr := Gr.below hx
  replace Vr := Vr.below hx
  replace hb0 := bel_tr hb0 hx
  clear hx
  go_wp2_with fail
  refine (HFN _).mono ?_
  rintro e w11 ⟨rfl, hx⟩
  replace hT := hT.below hx
  replace hP := hP.below hx
  replace Gr := Gr.below hx
  replace Vr := Vr.below hx
  replace hb0 := bel_tr hb0 hx
  clear hx
  clear Gr Vr hT hP HFN HNX PZ HD HU HB
  go_wp2
  go_ret
  exact ⟨by simp, hb0⟩
set_option maxRecDepth 100000 in
set_option maxHeartbeats 4000000 in
theorem fin_T {b : Nat} (w : World) (hl : b < 18446744073709551616) (h : b % 9223372036854775808 < 9218868437227405312) (hn : key b + 1 < 9218868437227405312) (hT : TB w) (hP : TP w) :
    Calls Tryz.prog 4 #[.int .u64 (b : Int)] w fun e w' => e = .returned (.bool true) ∧ Below w.heap.size w w' := by
  have HB := fun u => ext_from (b : Int) u
  obtain ⟨k1, k2, -, -⟩ := key_fin hl h
  have HX := fun u hu => exactB (b := b) u hl h hu
  have HFT := fun u => finiteT (b := b) u h
  have HSH := fun u hu => showQ b u hl h hu
  have HNX := fun u => nextB (b := b) u hl h
  have PZ := exr_pz k1 k2
  obtain ⟨q1, q2, q3, q4⟩ := flz4 (key b)
  obtain ⟨G, hG⟩ : ∃ G, fb (key b) = G := ⟨_, rfl⟩
  obtain ⟨N, hN⟩ : ∃ N, fb (key b + 1) = N := ⟨_, rfl⟩
  rw [hN] at HNX
  have HF : Hid (fb (flz (4 * key b)) = G) := by show _ = _; rw [q1]; exact hG
  have HD : Hid (fb (dnz (4 * key b)) = G) := by show _ = _; rw [q3]; exact hG
  have HU : Hid (fb (upz (4 * key b)) = G) := by show _ = _; rw [q4]; exact hG
  have HSD : Hid (sdz (4 * key b) = 0) := q2
  have HG : Hid (fb (key b) = G) := hG
  have oG : FloatKind.f64.format.order G b = some .eq := by
    have f := fb_ok (z := key b) (by omega) (by omega)
    have : FloatKind.f64.format.order G b = some (compare (key G) (key b)) := order_key (by rw [← hG]; exact f.1) (by omega)
    rw [this, ← hG, f.2.1, Int.compare_eq_eq.2 rfl]
  have oN : FloatKind.f64.format.order N b = some .gt := by
    have f := fb_ok (z := key b + 1) (by omega) (by omega)
    have : FloatKind.f64.format.order N b = some (compare (key N) (key b)) := order_key (by rw [← hN]; exact f.1) (by omega)
    rw [this, ← hN, f.2.1, Int.compare_eq_gt.2 (by omega)]
  have HFN := fun u => finiteT (b := N) u (by rw [← hN, fb_mod (by omega) (by omega)]; omega)
  have HXN := fun u hu => exactK (key b + 1) u (by omega) (by omega) hu
  rw [hN] at HXN
  obtain ⟨t1, HT1, ht1⟩ : ∃ t1, Hid (t1 = cs (exr (key b + 1)) (exr (key b))) ∧ 0 < t1 := ⟨_, rfl, exr_succ _⟩
  clear k1 k2 q1 q2 q3 q4 hG hN hn hl h
  generalize key b = k at *
  have hb0 := Below.refl w.heap.size w
  go_enter Tryz.func4, Tryz.ntmps4
  go_wp2_with fail
  refine (awake4 _ hT).mono ?_
  rintro e w1 ⟨rfl, hx⟩
  replace hT := hT.below hx
  replace hP := hP.below hx
  replace hb0 := bel_tr hb0 hx
  clear hx
  go_wp2_with fail
  refine (HFT _).mono ?_
  rintro e w2 ⟨rfl, hx⟩
  replace hT := hT.below hx
  replace hP := hP.below hx
  replace hb0 := bel_tr hb0 hx
  clear hx
  go_wp2_with fail
  refine (HX _ hT).mono ?_
  rintro e w3 ⟨fr, cr, nr, kr, dr, mr, lr, rfl, Gr, hx⟩
  replace hT := hT.below hx
  replace hP := hP.below hx
  replace hb0 := bel_tr hb0 hx
  clear hx
  have Vr := var3_new w3 (.bool fr) (.slice cr nr kr) (.slice dr mr lr) 35
  have hx := bel_d0 w3 (.cells #[.bool fr, .slice cr nr kr, .slice dr mr lr] 35)
  replace hT := hT.below hx
  replace hP := hP.below hx
  replace Gr := Gr.below hx
  replace hb0 := bel_tr hb0 hx
  clear hx
  obtain ⟨vrc0, vrc1, vrc2, vrc3, vrc4, vrc5⟩ := id Vr
  go_wp2_with fail
  generalize w3.alloc (.cells #[.bool fr, .slice cr nr kr, .slice dr mr lr] 35) = w4 at *
  refine (floatQ (4 * k) _ Gr.tr (by decide) (by decide) PZ HF.out HSD.out).mono ?_
  rintro e w5 ⟨rfl, hx⟩
  clear vrc0 vrc1 vrc2 vrc3 vrc4 vrc5
  replace hT := hT.below hx
  replace hP := hP.below hx
  replace Gr := Gr.below hx
  replace Vr := Vr.below hx
  replace hb0 := bel_tr hb0 hx
  clear hx
  clear HF HSD HX HFT
  go_wp2_with fail
  refine (HSH _ hP).mono ?_
  rintro e w6 ⟨s, rfl, RD, hx⟩
  replace hT := hT.below hx
  replace hP := hP.below hx
  replace Gr := Gr.below hx
  replace Vr := Vr.below hx
  replace hb0 := bel_tr hb0 hx
  clear hx
  clear HSH
  go_wp2_with fail
  refine (RD.read HG.out _ hT).mono ?_
  rintro e w7 ⟨rfl, hx⟩
  replace hT := hT.below hx
  replace hP := hP.below hx
  replace Gr := Gr.below hx
  replace Vr := Vr.below hx
  replace hb0 := bel_tr hb0 hx
  clear hx
  clear RD HG
  go_wp2_with fail
  refine (HNX _).mono ?_
  rintro e w8 ⟨rfl, e9⟩
  subst e9
  obtain ⟨vrc0, vrc1, vrc2, vrc3, vrc4, vrc5⟩ := id Vr
  go_wp2_with fail
  refine (downQ (4 * k) _ Gr.tr (by decide) (by decide) PZ HD.out).mono ?_
  rintro e w9 ⟨rfl, hx⟩
  clear vrc0 vrc1 vrc2 vrc3 vrc4 vrc5
  replace hT := hT.below hx
  replace hP := hP.below hx
  replace Gr := Gr.below hx
  replace Vr := Vr.below hx
  replace hb0 := bel_tr hb0 hx
  clear hx
  obtain ⟨vrc0, vrc1, vrc2, vrc3, vrc4, vrc5⟩ := id Vr
  go_wp2_with fail
  refine (upQ (4 * k) _ Gr.tr (by decide) (by decide) PZ HU.out).mono ?_
  rintro e w10 ⟨rfl, hx⟩
  clear vrc0 vrc1 vrc2 vrc3 vrc4 vrc5
  replace hT := hT.below hx
  replace hP := hP.below hx
  replace Gr := Gr.below hx
  replace Vr := Vr.below hx
  replace hb0 := bel_tr hb0 hx
  clear hx
  go_wp2_with fail
  refine (HFN _).mono ?_
  rintro e w11 ⟨rfl, hx⟩
  replace hT := hT.below hx
  replace hP := hP.below hx
  replace Gr := Gr.below hx
  replace Vr := Vr.below hx
  replace hb0 := bel_tr hb0 hx
  clear hx
  go_wp2_with fail
  refine (HXN _ hT).mono ?_
  rintro e w12 ⟨fx, cx, nx, kx, dx, mx, lx, rfl, Gx, hx⟩
  replace hT := hT.below hx
  replace hP := hP.below hx
  replace Gr := Gr.below hx
  replace Vr := Vr.below hx
  replace hb0 := bel_tr hb0 hx
  clear hx
  have Vx := var3_new w12 (.bool fx) (.slice cx nx kx) (.slice dx mx lx) 35
  have hx := bel_d0 w12 (.cells #[.bool fx, .slice cx nx kx, .slice dx mx lx] 35)
  replace hT := hT.below hx
  replace hP := hP.below hx
  replace Gr := Gr.below hx
  replace Gx := Gx.below hx
  replace Vr := Vr.below hx
  replace hb0 := bel_tr hb0 hx
  clear hx
  obtain ⟨vxc0, vxc1, vxc2, vxc3, vxc4, vxc5⟩ := id Vx
  obtain ⟨vrc0, vrc1, vrc2, vrc3, vrc4, vrc5⟩ := id Vr
  go_wp2_with fail
  generalize w12.alloc (.cells #[.bool fx, .slice cx nx kx, .slice dx mx lx] 35) = w13 at *
  refine (cmpB t1 _ Gx.tr Gr.tr (by decide) (by decide) (by decide) HT1.out).mono ?_
  rintro e w14 ⟨rfl, hx⟩
  clear vxc0 vxc1 vxc2 vxc3 vxc4 vxc5 vrc0 vrc1 vrc2 vrc3 vrc4 vrc5
  replace hT := hT.below hx
  replace hP := hP.below hx
  replace Gr := Gr.below hx
  replace Gx := Gx.below hx
  replace Vr := Vr.below hx
  replace Vx := Vx.below hx
  replace hb0 := bel_tr hb0 hx
  clear hx
  clear Gx Vx
  clear Gr Vr hT hP HFN HNX PZ HD HU HB
  go_wp2
  go_ret
  exact ⟨by simp, hb0⟩
end Go.Proofs.YtbkkepbmaadomaaGreatDoor

namespace Go.Proofs.YtbkkepbmaadomaaGreatDoor
open Go.RowKit

theorem back_walk4 (x : Int) (w : World) {ev : Value} (h0 : 0 ≤ x) (h1 : x < 18446744073709551616) (E : Errs w 0 ev) (hT : TB w) (hP : TP w) :
    Calls Tryz.prog 4 #[.int .u64 x] w fun e w' => e = .returned (.bool true) ∧ Below w.heap.size w w' := by
  obtain ⟨b, rfl⟩ := Int.eq_ofNat_of_zero_le h0
  have hl : b < 18446744073709551616 := by omega
  by_cases h : b % 9223372036854775808 < 9218868437227405312
  · obtain ⟨k1, k2, -, -⟩ := key_fin hl h
    by_cases hn : key b + 1 < 9218868437227405312
    · exact fin_T w hl h hn hT hP
    · exact fin_F w hl h (by omega) hT hP
  · exact back_bad w hl h hT E
end Go.Proofs.YtbkkepbmaadomaaGreatDoor

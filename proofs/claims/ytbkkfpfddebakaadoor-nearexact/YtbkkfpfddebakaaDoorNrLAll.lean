import Derived.Test.YtbkkfpfddebakaaDoorNrKAll
import Derived.Test.YtbkkfpfddebakaaDoorR3SM
import Derived.Test.YtbkkfpfddebakaaDoorW2S
import Derived.Test.YtbkkfpfddebakaaDoorForms
import Derived.Test.YtbkkfpfddebakaaDoorIsRef
namespace Go.Proofs.YtbkkfpfddebakaaDoor
open Go.RowKit Go.Shelf

set_option maxRecDepth 100000 in
set_option maxHeartbeats 4000000 in
theorem exactWalk {b N : Nat} {c0 : Int} {r : Rat} (w : World) (hT : TB w) (HX : ∀ u, TB u → Calls Tryd.prog 6 #[.float .f64 b] u fun e w' => ∃ f c n k c' n' k', e = .returned (.tuple #[.agg #[.bool f, .slice c n k, .slice c' n' k'], .nilIface]) ∧ GR w' u.heap.size f c n k c' n' k' r 1026 ∧ (∀ g, (Value.slice c n k).ownBlock = some g → (Value.slice c' n' k').ownBlock ≠ some g) ∧ Below u.heap.size u w') (HXD : ∀ u, Calls Tryd.prog 8 #[.int .u64 (b : Int)] u fun e w' => ∃ f c n k c' n' k', e = .returned (.tuple #[.agg #[.bool f, .slice c n k, .slice c' n' k'], .int .i64 0]) ∧ GR w' u.heap.size f c n k c' n' k' r 1026 ∧ Below u.heap.size u w') (HN : ∀ u, Calls Tryd.prog 7 #[.float .f64 b] u fun e w' => e = .returned (.float .f64 N) ∧ w' = u) (HD : ∀ u, Calls Tryd.prog 10 #[.int .u64 (b : Int)] u fun e w' => e = .returned (.int .u64 c0) ∧ w' = u) (HS : ∀ u, Calls Tryd.prog 9 #[.float .f64 N, .int .u64 c0] u fun e w' => e = .returned (.bool true) ∧ w' = u) :
    Calls Tryd.prog 3 #[.int .u64 (b : Int)] w fun e w' => e = .returned (.bool true) ∧ Below w.heap.size w w' := by
  have HB := fun u => ext_from (b : Int) u
  go_enter Tryd.func3, Tryd.ntmps3
  go_wp2_with fail
  refine (awake4 _ hT).mono ?_
  rintro e w1 ⟨rfl, hx⟩
  replace hT := hT.below hx
  have hb0 := hx
  clear hx
  go_wp2_with fail
  refine (HX _ hT).mono ?_
  rintro e w2 ⟨f0, c0, n0, k0, d0, m0, l0, rfl, G0, D0, hx⟩
  replace G0 := G0.mono (B' := w.heap.size) (Below.size hb0)
  replace hT := hT.below hx
  replace hb0 := bel_tr hb0 hx
  clear hx
  have V0 := var3_new w2 (.bool f0) (.slice c0 n0 k0) (.slice d0 m0 l0) 31
  have hx := bel_d0 w2 (.cells #[.bool f0, .slice c0 n0 k0, .slice d0 m0 l0] 31)
  replace hT := hT.below hx
  replace G0 := G0.below hx
  replace hb0 := bel_tr hb0 hx
  clear hx
  go_wp2_with fail
  generalize w2.alloc (.cells #[.bool f0, .slice c0 n0 k0, .slice d0 m0 l0] 31) = w3 at *
  refine (HX _ hT).mono ?_
  rintro e w4 ⟨f1, c1, n1, k1, d1, m1, l1, rfl, G1, D1, hx⟩
  have A1 := got_dj G0.1.gotY.2 G1.1.gotY.2 (Nat.le_refl _)
  have A2 := got_dj G0.1.gotY.2 G1.2 (Nat.le_refl _)
  have A3 := got_dj G0.2 G1.1.gotY.2 (Nat.le_refl _)
  have A4 := got_dj G0.2 G1.2 (Nat.le_refl _)
  replace G1 := G1.mono (B' := w.heap.size) (Below.size hb0)
  replace hT := hT.below hx
  replace G0 := G0.below hx
  replace V0 := V0.below hx
  replace hb0 := bel_tr hb0 hx
  clear hx
  have V1 := var3_new w4 (.bool f1) (.slice c1 n1 k1) (.slice d1 m1 l1) 31
  have hx := bel_d0 w4 (.cells #[.bool f1, .slice c1 n1 k1, .slice d1 m1 l1] 31)
  replace hT := hT.below hx
  replace G0 := G0.below hx
  replace V0 := V0.below hx
  replace G1 := G1.below hx
  replace hb0 := bel_tr hb0 hx
  clear hx
  go_wp2_with fail
  generalize w4.alloc (.cells #[.bool f1, .slice c1 n1 k1, .slice d1 m1 l1] 31) = w5 at *
  refine (HN _).mono ?_
  rintro e wx ⟨rfl, rfl⟩
  go_wp2_with fail
  refine (HXD _).mono ?_
  rintro e w6 ⟨f2, c2, n2, k2, d2, m2, l2, rfl, G2, hx⟩
  replace hT := hT.below hx
  replace G0 := G0.below hx
  replace V0 := V0.below hx
  replace G1 := G1.below hx
  replace V1 := V1.below hx
  replace hb0 := bel_tr hb0 hx
  clear hx
  have V2 := var3_new w6 (.bool f2) (.slice c2 n2 k2) (.slice d2 m2 l2) 31
  have hx := bel_d0 w6 (.cells #[.bool f2, .slice c2 n2 k2, .slice d2 m2 l2] 31)
  replace hT := hT.below hx
  replace G0 := G0.below hx
  replace V0 := V0.below hx
  replace G1 := G1.below hx
  replace V1 := V1.below hx
  replace G2 := G2.below hx
  replace hb0 := bel_tr hb0 hx
  clear hx
  go_wp2_with fail
  generalize w6.alloc (.cells #[.bool f2, .slice c2 n2 k2, .slice d2 m2 l2] 31) = w7 at *
  refine (HD _).mono ?_
  rintro e wx ⟨rfl, rfl⟩
  go_wp2_with fail
  refine (HS _).mono ?_
  rintro e wx ⟨rfl, rfl⟩
  clear HX HXD HN HD HS HB hT
  obtain ⟨p0, p1, p2, p3, p4, p5⟩ := id V0
  obtain ⟨p20, p21, p22, p23, p24, p25⟩ := id V2
  go_wp2_with fail
  refine (refSameQ _ G0 G2 rfl (by decide)).mono ?_
  rintro e w8 ⟨rfl, hx⟩
  clear p0 p1 p2 p3 p4 p5 p20 p21 p22 p23 p24 p25
  replace G0 := G0.below hx
  replace V0 := V0.below hx
  replace G1 := G1.below hx
  replace V1 := V1.below hx
  replace G2 := G2.below hx
  replace V2 := V2.below hx
  replace hb0 := bel_tr hb0 hx
  clear hx
  obtain ⟨p10, p11, p12, p13, p14, p15⟩ := id V1
  obtain ⟨p20, p21, p22, p23, p24, p25⟩ := id V2
  go_wp2_with fail
  refine (refSameQ _ G1 G2 rfl (by decide)).mono ?_
  rintro e w9 ⟨rfl, hx⟩
  clear p10 p11 p12 p13 p14 p15 p20 p21 p22 p23 p24 p25
  replace G0 := G0.below hx
  replace V0 := V0.below hx
  replace G1 := G1.below hx
  replace V1 := V1.below hx
  replace G2 := G2.below hx
  replace V2 := V2.below hx
  replace hb0 := bel_tr hb0 hx
  clear hx
  obtain ⟨x1, o1, -, -, z1⟩ := G0.1.gotY.2
  obtain ⟨x2, o2, -, -, z2⟩ := G0.2
  obtain ⟨x3, o3, -, -, z3⟩ := G1.1.gotY.2
  obtain ⟨x4, o4, -, -, z4⟩ := G1.2
  have hsz := Below.size hb0
  clear G0 G1 G2 V2
  obtain ⟨p0, p1, p2, p3, p4, p5⟩ := id V0
  obtain ⟨p10, p11, p12, p13, p14, p15⟩ := id V1
  go_wp2_with fail
  clear p0 p1 p2 p3 p4 p5 p10 p11 p12 p13 p14 p15
  have hTR := trow_new (w := w9) [(Value.slice c0 n0 k0, x1), (Value.slice d0 m0 l0, x2), (Value.slice c1 n1 k1, x3), (Value.slice d1 m1 l1, x4)]
  refine (apart_list w9.heap.size 4 w.heap.size _ _ hTR ?ho ?hd (by simp) ?hl (by simp; omega)).mono ?_
  case ho =>
    intro p hp
    simp only [List.mem_cons, List.not_mem_nil, or_false] at hp
    rcases hp with rfl | rfl | rfl | rfl
    · exact o1.alloc _
    · exact o2.alloc _
    · exact o3.alloc _
    · exact o4.alloc _
  case hd =>
    simp only [List.pairwise_cons, List.mem_cons, List.not_mem_nil, or_false, forall_eq_or_imp, forall_eq, List.Pairwise.nil, and_true, false_implies, implies_true]
    exact ⟨⟨D0, A1, A2⟩, ⟨A3, A4⟩, D1⟩
  case hl =>
    intro p hp
    simp only [List.mem_cons, List.not_mem_nil, or_false] at hp
    rcases hp with rfl | rfl | rfl | rfl <;> simp only <;> omega
  rintro e wz ⟨rfl, hb⟩
  have HZ : Below w.heap.size w wz := hb0.trans ((((Below.refl _ _).alloc hsz _)).trans hb)
  clear hb hb0 hTR o1 o2 o3 o4 D0 D1 A1 A2 A3 A4
  go_wp2
  go_ret
  exact ⟨by simp, HZ⟩
set_option maxRecDepth 100000 in
set_option maxHeartbeats 4000000 in
theorem exactBad {b N : Nat} {c0 : Int} {ev : Value} (w : World) (hT : TB w) (E : Errs w 0 ev) (HX : ∀ u, Errs u 0 ev → Calls Tryd.prog 6 #[.float .f64 b] u fun e w' => e = .returned (.tuple #[.agg #[.bool false, .slice none 0 0, .slice none 0 0], ev]) ∧ Below u.heap.size u w') (HXD : ∀ u, Calls Tryd.prog 8 #[.int .u64 (b : Int)] u fun e w' => e = .returned (.tuple #[.agg #[.bool false, .slice none 0 0, .slice none 0 0], .int .i64 6]) ∧ Below u.heap.size u w') (HN : ∀ u, Calls Tryd.prog 7 #[.float .f64 b] u fun e w' => e = .returned (.float .f64 N) ∧ w' = u) (HD : ∀ u, Calls Tryd.prog 10 #[.int .u64 (b : Int)] u fun e w' => e = .returned (.int .u64 c0) ∧ w' = u) (HS : ∀ u, Calls Tryd.prog 9 #[.float .f64 N, .int .u64 c0] u fun e w' => e = .returned (.bool true) ∧ w' = u) :
    Calls Tryd.prog 3 #[.int .u64 (b : Int)] w fun e w' => e = .returned (.bool true) ∧ Below w.heap.size w w' := by
  have HB := fun u => ext_from (b : Int) u
  go_enter Tryd.func3, Tryd.ntmps3
  go_wp2_with fail
  refine (awake4 _ hT).mono ?_
  rintro e w1 ⟨rfl, hx⟩
  clear hT
  replace E := E.below hx
  have hb0 := hx
  clear hx
  go_wp2_with fail
  refine (HX _ E).mono ?_
  rintro e w2 ⟨rfl, hx⟩
  replace E := E.below hx
  replace hb0 := bel_tr hb0 hx
  clear hx
  have V0 := var3_new w2 (.bool false) (.slice none 0 0) (.slice none 0 0) 31
  have hx := bel_d0 w2 (.cells #[.bool false, .slice none 0 0, .slice none 0 0] 31)
  replace E := E.below hx
  replace hb0 := bel_tr hb0 hx
  clear hx
  go_wp2_with fail
  generalize w2.alloc (.cells #[.bool false, .slice none 0 0, .slice none 0 0] 31) = w3 at *
  refine (HX _ E).mono ?_
  rintro e w4 ⟨rfl, hx⟩
  replace E := E.below hx
  replace V0 := V0.below hx
  replace hb0 := bel_tr hb0 hx
  clear hx
  have V1 := var3_new w4 (.bool false) (.slice none 0 0) (.slice none 0 0) 31
  have hx := bel_d0 w4 (.cells #[.bool false, .slice none 0 0, .slice none 0 0] 31)
  replace E := E.below hx
  replace V0 := V0.below hx
  replace hb0 := bel_tr hb0 hx
  clear hx
  go_wp2_with fail
  generalize w4.alloc (.cells #[.bool false, .slice none 0 0, .slice none 0 0] 31) = w5 at *
  refine (HN _).mono ?_
  rintro e wx ⟨rfl, rfl⟩
  go_wp2_with fail
  refine (HXD _).mono ?_
  rintro e w6 ⟨rfl, hx⟩
  replace E := E.below hx
  replace V0 := V0.below hx
  replace V1 := V1.below hx
  replace hb0 := bel_tr hb0 hx
  clear hx
  have V2 := var3_new w6 (.bool false) (.slice none 0 0) (.slice none 0 0) 31
  have hx := bel_d0 w6 (.cells #[.bool false, .slice none 0 0, .slice none 0 0] 31)
  replace E := E.below hx
  replace V0 := V0.below hx
  replace V1 := V1.below hx
  replace hb0 := bel_tr hb0 hx
  clear hx
  go_wp2_with fail
  generalize w6.alloc (.cells #[.bool false, .slice none 0 0, .slice none 0 0] 31) = w7 at *
  refine (HD _).mono ?_
  rintro e wx ⟨rfl, rfl⟩
  go_wp2_with fail
  refine (HS _).mono ?_
  rintro e wx ⟨rfl, rfl⟩
  clear HX HXD HN HD HS HB V1 V2
  obtain ⟨p0, p1, p2, p3, p4, p5⟩ := id V0
  obtain ⟨i, hi, hcmp⟩ := Option.map_eq_some_iff.1 Tryd.errComp
  obtain ⟨jj, hj, _⟩ := Option.map_eq_some_iff.1 Tryd.errSize
  obtain ⟨ec, pe, rfl⟩ := E
  have heq := run_eql_iface_ptr_same (P := Tryd.prog) wx pe Tryd.underlying33 Tryd.underlying115 hi hcmp hj
  go_wp2
  go_ret
  exact ⟨by simp, hb0⟩
end Go.Proofs.YtbkkfpfddebakaaDoor

namespace Go.Proofs.YtbkkfpfddebakaaDoor
open Go.RowKit

theorem nextPair {b : Nat} (hb : b < 18446744073709551616) (h : b % 9223372036854775808 ≤ 9218868437227405312) : ∃ (N : Nat) (c0 : Int), (∀ u, Calls Tryd.prog 7 #[.float .f64 b] u fun e w' => e = .returned (.float .f64 N) ∧ w' = u) ∧ (∀ u, Calls Tryd.prog 10 #[.int .u64 (b : Int)] u fun e w' => e = .returned (.int .u64 c0) ∧ w' = u) ∧ (∀ u, Calls Tryd.prog 9 #[.float .f64 N, .int .u64 c0] u fun e w' => e = .returned (.bool true) ∧ w' = u) := by
  by_cases h0 : b % 9223372036854775808 = 0
  · exact ⟨1, 1, fun u => nextPos u hb h0 (by decide) (.inl rfl), fun u => nextD0 u h0, fun u => sameF 1 u (by decide) (by decide)⟩
  · by_cases hs : 9223372036854775808 ≤ b
    · obtain ⟨k, hk⟩ : ∃ k, b % 9223372036854775808 = k + 1 := ⟨b % 9223372036854775808 - 1, by omega⟩
      refine ⟨_, _, fun u => nextNeg u hb hk (by omega) (by omega) hs, fun u => nextDNeg k u hk (by omega) hs, fun u => ?_⟩
      rw [show k + 1 - 1 = k by omega]
      refine sameF _ u ?_ (decide_eq_true rfl)
      split <;> omega
    · by_cases hi : b = 9218868437227405312
      · subst hi
        exact ⟨_, _, fun u => nextInf u rfl, fun u => nextDInf u, fun u => sameF 9218868437227405312 u (by decide) (by decide)⟩
      · refine ⟨_, _, fun u => nextPos u hb rfl (by omega) (.inr (by omega)), fun u => nextDPos u (by omega) (by omega), fun u => sameF _ u (by omega) (decide_eq_true (by omega))⟩
theorem sgn {b : Nat} {m : Int} (hb : b < 18446744073709551616) (h : b % 9223372036854775808 < 9218868437227405312) (hm : b % 9223372036854775808 = 0 → m = 0) : ws (decide (9223372036854775808 ≤ (b : Int))) m = ws (Ieee.double.order b 0 == some .lt) m := by
  rw [lt_zero, decide_eq_true (show b % 9223372036854775808 ≤ 9218868437227405312 by omega)]
  by_cases h0 : b % 9223372036854775808 = 0
  · rw [hm h0, ws_zero, ws_zero]
  · rw [decide_eq_true (show 0 < b % 9223372036854775808 by omega)]
    by_cases hs : 9223372036854775808 ≤ b
    · rw [decide_eq_true (show 9223372036854775808 ≤ (b : Int) by omega), show b / 9223372036854775808 = 1 by omega]; rfl
    · rw [decide_eq_false (show ¬ 9223372036854775808 ≤ (b : Int) by omega), show b / 9223372036854775808 = 0 by omega]; rfl
theorem finPair {b : Nat} (hb : b < 18446744073709551616) (h : b % 9223372036854775808 < 9218868437227405312) : ∃ r : Rat, (∀ u, TB u → Calls Tryd.prog 6 #[.float .f64 b] u fun e w' => ∃ f c n k c' n' k', e = .returned (.tuple #[.agg #[.bool f, .slice c n k, .slice c' n' k'], .nilIface]) ∧ GR w' u.heap.size f c n k c' n' k' r 1026 ∧ (∀ g, (Value.slice c n k).ownBlock = some g → (Value.slice c' n' k').ownBlock ≠ some g) ∧ Below u.heap.size u w') ∧ (∀ u, Calls Tryd.prog 8 #[.int .u64 (b : Int)] u fun e w' => ∃ f c n k c' n' k', e = .returned (.tuple #[.agg #[.bool f, .slice c n k, .slice c' n' k'], .int .i64 0]) ∧ GR w' u.heap.size f c n k c' n' k' r 1026 ∧ Below u.heap.size u w') := by
  have hbi : (b : Int) % 9223372036854775808 = ((b % 9223372036854775808 : Nat) : Int) := by omega
  by_cases hk : b % 9223372036854775808 < 4503599627370496
  · have hst : steps (b % 9223372036854775808) = 0 := by unfold steps; omega
    refine ⟨_, fun u hu => exactGD (m := ((b % 9223372036854775808 : Nat) : Int)) (q := 1074) u hb h (by rw [hst]; omega) (by omega) (by omega) (by rw [hst]; rfl) (by decide) rfl hu, fun u => ?_⟩
    refine (exactDD (m := ((b % 9223372036854775808 : Nat) : Int)) (q := 1074) u h (fun u => ?_) (by omega) (by omega) (by decide) rfl).mono ?_
    · rw [hbi]; exact partsD0 _ u hk
    · rintro e w' ⟨f, c, n, k, c', n', k', rfl, G, hx⟩
      exact ⟨f, c, n, k, c', n', k', rfl, G.val (by rw [sgn hb h (fun e => by omega)]; rfl), hx⟩
  · have hst : (steps (b % 9223372036854775808) : Int) = ((b % 9223372036854775808 / 4503599627370496 : Nat) : Int) - 1 := by unfold steps; omega
    have hmm : ((b % 9223372036854775808 : Nat) : Int) - (steps (b % 9223372036854775808) : Int) * 4503599627370496 = ((b % 9223372036854775808 % 4503599627370496 : Nat) : Int) + 4503599627370496 := by rw [hst]; omega
    by_cases hq : 1075 ≤ b % 9223372036854775808 / 4503599627370496
    · obtain ⟨q, he⟩ : ∃ q : Nat, b % 9223372036854775808 / 4503599627370496 = q + 1075 := ⟨_, (Nat.sub_add_cancel hq).symm⟩
      refine ⟨_, fun u hu => exactGU (m := ((b % 9223372036854775808 % 4503599627370496 : Nat) : Int) + 4503599627370496) (q := q) u hb h hmm (by omega) (by omega) (by rw [hst]; omega) (by omega) rfl hu, fun u => ?_⟩
      refine (exactDU (m := ((b % 9223372036854775808 % 4503599627370496 : Nat) : Int) + 4503599627370496) (q := q) u h (fun u => ?_) (by omega) (by omega) (by omega) rfl).mono ?_
      · rw [hbi]; exact partsD1 _ u (by omega) (by omega) rfl (by omega)
      · rintro e w' ⟨f, c, n, k, c', n', k', rfl, G, hx⟩
        exact ⟨f, c, n, k, c', n', k', rfl, G.val (by rw [sgn hb h (fun e => by omega)]; rfl), hx⟩
    · obtain ⟨q, he⟩ : ∃ q : Nat, b % 9223372036854775808 / 4503599627370496 + q = 1075 := ⟨1075 - b % 9223372036854775808 / 4503599627370496, by omega⟩
      refine ⟨_, fun u hu => exactGD (m := ((b % 9223372036854775808 % 4503599627370496 : Nat) : Int) + 4503599627370496) (q := q) u hb h hmm (by omega) (by omega) (by rw [hst]; omega) (by omega) rfl hu, fun u => ?_⟩
      refine (exactDD (m := ((b % 9223372036854775808 % 4503599627370496 : Nat) : Int) + 4503599627370496) (q := q) u h (fun u => ?_) (by omega) (by omega) (by omega) rfl).mono ?_
      · rw [hbi]; exact partsD1 _ u (by omega) (by omega) rfl (by omega)
      · rintro e w' ⟨f, c, n, k, c', n', k', rfl, G, hx⟩
        exact ⟨f, c, n, k, c', n', k', rfl, G.val (by rw [sgn hb h (fun e => by omega)]; rfl), hx⟩
theorem nearExact_walk (x : Int) (w : World) {ev : Value} (h0 : 0 ≤ x) (h1 : x < 18446744073709551616) (E : Errs w 0 ev) (hT : TB w) :
    Calls Tryd.prog 3 #[.int .u64 x] w fun e w' => e = .returned (.bool true) ∧ Below w.heap.size w w' := by
  obtain ⟨b, rfl⟩ := Int.eq_ofNat_of_zero_le h0
  have hb : b < 18446744073709551616 := by omega
  by_cases hi : 9218868437227405312 < b % 9223372036854775808
  · exact exactBad w hT E (fun u E => exactNaN u hi E) (fun u => exactDE u (by omega)) (fun u => nextNaN u hi) (fun u => nextDNaN b u hi) (fun u => sameNaN 9221120237041090561 u (by decide) hi)
  · obtain ⟨N, c0, HN, HD, HS⟩ := nextPair hb (by omega)
    by_cases he : b % 9223372036854775808 = 9218868437227405312
    · exact exactBad w hT E (fun u E => exactInf u hb he E) (fun u => exactDE u (by omega)) HN HD HS
    · obtain ⟨r, HX, HXD⟩ := finPair hb (by omega)
      exact exactWalk w hT HX HXD HN HD HS
end Go.Proofs.YtbkkfpfddebakaaDoor

import Derived.Test.YtfelogbfijomiabGreatDoorWhB
import Derived.Test.YtfelogbfijomiabGreatDoorPowVal
namespace Go.Proofs.YtfelogbfijomiabGreatDoor
open Go.RowKit

theorem ws_add (b : Bool) (m k : Int) : ws b (m + k) = ws b m + ws b k := by unfold ws; cases b <;> simp; omega
theorem bitsG {a : Option Addr} {na ca : Nat} {m : Int} {S : Nat} (w : World) (ha : Num w a na ca m S) (hS : S ≤ 10000000000) :
    Calls Tryz.prog 64 #[.slice a na ca] w fun e w' => ∃ t, e = .returned (.int .i64 t) ∧ (t = 0 ↔ m = 0) ∧ w = w' := by
  obtain ⟨xs, h1, h2, h3, h4, h5, h6⟩ := ha
  refine (bits_any a na ca xs w h1 h2 (by omega) h3 h4).mono ?_
  rintro e w' ⟨rfl, rfl⟩
  refine ⟨_, rfl, ⟨fun h => ?_, fun h => bitsL_zero h4 (by omega)⟩, rfl⟩
  have h7 := val_bits h4
  have h8 := val_nn h4
  rw [h] at h7
  have e1 : ((2 ^ (0 : Int).toNat : Nat) : Int) = 1 := rfl
  rw [e1] at h7
  omega
set_option maxHeartbeats 1000000 in
/-- whole.Sign -/
theorem signI {a : Option Addr} {na ca : Nat} {m : Int} {S : Nat} (p : Bool) (w : World) (ha : Num w a na ca m S) (hS : S ≤ 10000000000) :
    Calls Tryz.prog 45 #[.agg #[.bool p, .slice a na ca]] w fun e w' => e = .returned (.int .i64 (ws p m).sign) ∧ Below w.heap.size w w' := by
  have h0 := ha.nn
  have HS : Hid ((m = 0 → (ws p m).sign = 0) ∧ (m ≠ 0 → p = true → (ws p m).sign = -1) ∧ (m ≠ 0 → p = false → (ws p m).sign = 1)) := by
    refine ⟨fun h => ?_, fun h h1 => ?_, fun h h1 => ?_⟩
    · rw [h, ws_zero]; rfl
    · rw [h1]; unfold ws; simp only [if_true]; exact Int.sign_eq_neg_one_of_neg (by omega)
    · rw [h1]; unfold ws; simp only [Bool.false_eq_true, if_false]; exact Int.sign_eq_one_of_pos (by omega)
  obtain ⟨P0, hb0, hsz⟩ := box1 w (.bool p) (.slice a na ca) 28
  replace ha := ha.below hb0
  go_enter Tryz.func45, Tryz.ntmps45
  go_wp2_with fail
  generalize w.alloc (.cells #[.bool p, .slice a na ca] 28) = W0 at *
  obtain ⟨p00, p01, p02, p03⟩ := id P0
  refine (bitsG _ ha (by omega)).mono ?_
  rintro e w2 ⟨t, rfl, ht, rfl⟩
  by_cases hm : m = 0
  · have HX : Hid ((ws p m).sign = 0) := HS.out.1 hm
    obtain rfl : t = 0 := ht.2 hm
    clear HS P0 ha ht h0 hm
    go_wp2
    go_ret
    exact ⟨by rw [HX.out]; rfl, hb0⟩
  · have h1 : t ≠ 0 := fun h => hm (ht.1 h)
    cases p with
    | true =>
      have HX : Hid ((ws true m).sign = -1) := HS.out.2.1 hm rfl
      clear HS P0 ha ht h0 hm
      go_wp2
      go_ret
      exact ⟨by rw [HX.out]; rfl, hb0⟩
    | false =>
      have HX : Hid ((ws false m).sign = 1) := HS.out.2.2 hm rfl
      clear HS P0 ha ht h0 hm
      go_wp2
      go_ret
      exact ⟨by rw [HX.out]; rfl, hb0⟩

set_option maxHeartbeats 1000000 in
/-- whole.Add of two of one sign -/
theorem addI1 {a b : Option Addr} {na nb ca cb : Nat} {m k : Int} {S R : Nat} (p : Bool) (w : World) (ha : Num w a na ca m S) (hb : Num w b nb cb k R) (hS : S ≤ 10000000000) (hR : R ≤ 10000000000) :
    Calls Tryz.prog 40 #[.agg #[.bool p, .slice a na ca], .agg #[.bool p, .slice b nb cb]] w fun e w' => ∃ v, e = .returned v ∧ GI w' w.heap.size v (ws p m + ws p k) (S + R + 1) ∧ Below w.heap.size w w' := by
  obtain ⟨P0, P1, R0, hb0, hsz⟩ := box3 w (.bool p) (.slice a na ca) (.bool p) (.slice b nb cb) (.bool false) (.slice none 0 0) 28
  replace ha := ha.below hb0
  replace hb := hb.below hb0
  go_enter Tryz.func40, Tryz.ntmps40
  go_wp2_with fail
  generalize ((w.alloc (.cells #[.bool p, .slice a na ca] 28)).alloc (.cells #[.bool p, .slice b nb cb] 28)).alloc (.cells #[.bool false, .slice none 0 0] 28) = W0 at *
  obtain ⟨p00, p01, p02, p03⟩ := id P0
  obtain ⟨p10, p11, p12, p13⟩ := id P1
  go_region_held3 (fun w' => w'.cell? ⟨w.heap.size, 0, none⟩ = some (.bool p) ∧ w'.cell? ⟨w.heap.size, 1, none⟩ = some (.slice a na ca) ∧ w'.cell? ⟨w.heap.size + 1, 0, none⟩ = some (.bool p) ∧ w'.cell? ⟨w.heap.size + 1, 1, none⟩ = some (.slice b nb cb))
    (first | (go_keep; done) | (refine ⟨?_, ?_, ?_, ?_⟩ <;> first | exact kept_c hb2 (by go_keep) | exact kept_c hb1 (by go_keep)) | (refine ⟨?_, ?_, ?_, ?_⟩ <;> first | exact set2_far (by go_keep) (by simp <;> omega) | exact kept_c (by assumption) (by assumption)))
    ((first
      | (go_at_call 66; go_fit (addG _ (ha.drewN _) (hb.drewN _) (by omega) (by omega)); rintro e w1 ⟨c1, n1, d1, rfl, G1, hb1⟩; have hc1 := bel_tr (belN (Below.refl _ W0) _) hb1; have R1 := R0.below hc1)
      | (go_at_call 65; go_fit (signed_any _ _ _ _ _); rintro e w2 ⟨rfl, hb2⟩; have hc2 : Below w1.heap.size w1 w2 := (by first | exact hb2 | exact bel_tr (belN (Below.refl _ w1) 1) hb2); have R2 := R1.below hc2; obtain ⟨r0, r1, r2, r3⟩ := id R2)))
  have GF : GI w2 W0.heap.size (.agg #[.bool (p && decide (0 < n1)), .slice c1 n1 d1]) (ws p m + ws p k) (S + R + 1) := ((G1.gi p).below hc2).val (ws_add p m k)
  have hw2 : Below w.heap.size w w2 := bel_tr hb0 (bel_tr hc1 hc2)
  obtain ⟨V, O⟩ := R2.set (.bool (p && decide (0 < n1))) (.slice c1 n1 d1)
  clear hb1 hb2 hc1 hc2 ha hb P0 P1 R0 R1 p00 p01 p02 p03 p10 p11 p12 p13
  go_wp2
  refine bodyPost_ret (v := .agg #[.bool (p && decide (0 < n1)), .slice c1 n1 d1]) (by simp [results, Tryz.results40, go_sem, V.c0, V.c1]) rfl ⟨_, rfl, ((GF.off O (by omega)).mono (by omega)), hw2.trans (O.below (by omega))⟩

set_option maxHeartbeats 1000000 in
/-- whole.Add of two of two signs, the first as far from nought, or farther -/
theorem addI2 {a b : Option Addr} {na nb ca cb : Nat} {m k : Int} {S R : Nat} (p q : Bool) (w : World) (ha : Num w a na ca m S) (hb : Num w b nb cb k R) (hS : S ≤ 10000000000) (hR : R ≤ 10000000000) (hpq : (p == q) = false) (hmk : k ≤ m) :
    Calls Tryz.prog 40 #[.agg #[.bool p, .slice a na ca], .agg #[.bool q, .slice b nb cb]] w fun e w' => ∃ v, e = .returned v ∧ GI w' w.heap.size v (ws p m + ws q k) (S + R + 1) ∧ Below w.heap.size w w' := by
  have HV : Hid (ws p m + ws q k = ws p (m - k)) := by
    show _ = _
    cases p <;> cases q <;> simp_all [ws] <;> omega
  obtain ⟨P0, P1, R0, hb0, hsz⟩ := box3 w (.bool p) (.slice a na ca) (.bool q) (.slice b nb cb) (.bool false) (.slice none 0 0) 28
  replace ha := ha.below hb0
  replace hb := hb.below hb0
  go_enter Tryz.func40, Tryz.ntmps40
  go_wp2_with fail
  generalize ((w.alloc (.cells #[.bool p, .slice a na ca] 28)).alloc (.cells #[.bool q, .slice b nb cb] 28)).alloc (.cells #[.bool false, .slice none 0 0] 28) = W0 at *
  obtain ⟨p00, p01, p02, p03⟩ := id P0
  obtain ⟨p10, p11, p12, p13⟩ := id P1
  refine (cmpV _ ha hb (by omega) (by omega)).mono ?_
  rintro e w1 ⟨c, rfl, hc, j, rfl⟩
  have hc0 : 0 ≤ c := by omega
  have hbj : Below W0.heap.size W0 (W0.drewN j) := belN (Below.refl _ _) j
  replace P0 := P0.below hbj
  replace P1 := P1.below hbj
  replace R0 := R0.below hbj
  replace ha := ha.below hbj
  replace hb := hb.below hbj
  replace hb0 := bel_tr hb0 hbj
  have hszj : (W0.drewN j).heap.size = w.heap.size + 3 := hsz
  generalize W0.drewN j = W1 at *
  clear hbj hc p00 p01 p02 p03 p10 p11 p12 p13 hsz
  obtain ⟨p00, p01, p02, p03⟩ := id P0
  obtain ⟨p10, p11, p12, p13⟩ := id P1
  go_wp2_with fail
  refine (subG _ ha hb (by omega) (by omega) (by omega)).mono ?_
  rintro e w3 ⟨c1, n1, d1, rfl, G1, hb3⟩
  have R3 := R0.below hb3
  have V3 := P0.below hb3
  have hbw := bel_tr hb0 hb3
  obtain ⟨x0, x1, x2, x3⟩ := id V3
  clear ha hb P0 P1 R0 p00 p01 p02 p03 p10 p11 p12 p13 hb0
  have hs3 : w.heap.size + 3 ≤ w3.heap.size := by have := hb3.size; omega
  go_wp2_with fail
  refine (signed_any _ _ _ _ _).mono ?_
  rintro e w2 ⟨rfl, hb4⟩
  have R2 := R3.below hb4
  obtain ⟨r0, r1, r2, r3⟩ := id R2
  have GF : GI w2 W1.heap.size (.agg #[.bool (p && decide (0 < n1)), .slice c1 n1 d1]) (ws p m + ws q k) (S + R + 1) := (((G1.gi p).below hb4).val HV.out.symm).le (by omega)
  have hw2 : Below w.heap.size w w2 := bel_tr hbw hb4
  obtain ⟨V, O⟩ := R2.set (.bool (p && decide (0 < n1))) (.slice c1 n1 d1)
  clear hb3 hb4 V3 R3 x0 x1 x2 x3 hbw G1
  go_wp2
  refine bodyPost_ret (v := .agg #[.bool (p && decide (0 < n1)), .slice c1 n1 d1]) (by simp [results, Tryz.results40, go_sem, V.c0, V.c1]) rfl ⟨_, rfl, ((GF.off O (by omega)).mono (by omega)), hw2.trans (O.below (by omega))⟩

set_option maxHeartbeats 1000000 in
/-- whole.Add of two of two signs, the second farther from nought -/
theorem addI3 {a b : Option Addr} {na nb ca cb : Nat} {m k : Int} {S R : Nat} (p q : Bool) (w : World) (ha : Num w a na ca m S) (hb : Num w b nb cb k R) (hS : S ≤ 10000000000) (hR : R ≤ 10000000000) (hpq : (p == q) = false) (hmk : m < k) :
    Calls Tryz.prog 40 #[.agg #[.bool p, .slice a na ca], .agg #[.bool q, .slice b nb cb]] w fun e w' => ∃ v, e = .returned v ∧ GI w' w.heap.size v (ws p m + ws q k) (S + R + 1) ∧ Below w.heap.size w w' := by
  have HV : Hid (ws p m + ws q k = ws q (k - m)) := by
    show _ = _
    cases p <;> cases q <;> simp_all [ws] <;> omega
  have ha0 := ha
  have hb00 := hb
  obtain ⟨P0, P1, R0, hb0, hsz⟩ := box3 w (.bool p) (.slice a na ca) (.bool q) (.slice b nb cb) (.bool false) (.slice none 0 0) 28
  replace ha := ha.below hb0
  replace hb := hb.below hb0
  go_enter Tryz.func40, Tryz.ntmps40
  go_wp2_with fail
  generalize ((w.alloc (.cells #[.bool p, .slice a na ca] 28)).alloc (.cells #[.bool q, .slice b nb cb] 28)).alloc (.cells #[.bool false, .slice none 0 0] 28) = W0 at *
  obtain ⟨p00, p01, p02, p03⟩ := id P0
  obtain ⟨p10, p11, p12, p13⟩ := id P1
  refine (cmpV _ ha hb (by omega) (by omega)).mono ?_
  rintro e w1 ⟨c, rfl, hc, j, rfl⟩
  obtain rfl : c = -1 := by omega
  have hbj : Below W0.heap.size W0 (W0.drewN j) := belN (Below.refl _ _) j
  replace P0 := P0.below hbj
  replace P1 := P1.below hbj
  replace R0 := R0.below hbj
  replace ha := ha.below hbj
  replace hb := hb.below hbj
  replace hb0 := bel_tr hb0 hbj
  have hszj : (W0.drewN j).heap.size = w.heap.size + 3 := hsz
  generalize W0.drewN j = W1 at *
  clear hbj hc p00 p01 p02 p03 p10 p11 p12 p13 hsz
  obtain ⟨p00, p01, p02, p03⟩ := id P0
  obtain ⟨p10, p11, p12, p13⟩ := id P1
  obtain ⟨V0, O0⟩ := P0.set (.bool q) (.slice b nb cb)
  have P1' := P1.off O0 (by omega)
  obtain ⟨V1, O1⟩ := P1'.set (.bool p) (.slice a na ca)
  have V0' := V0.off O1 (by omega)
  have R0' := (R0.off O0 (by omega)).off O1 (by omega)
  have hbO := (hb0.trans (O0.below (Nat.le_refl _))).trans (O1.below (by omega))
  have ha' := ha0.below hbO
  have hb' := hb00.below hbO
  have hsO : ((((W1.setCell ⟨w.heap.size, 0, none⟩ (.bool q)).setCell ⟨w.heap.size, 1, none⟩ (.slice b nb cb)).setCell ⟨w.heap.size + 1, 0, none⟩ (.bool p)).setCell ⟨w.heap.size + 1, 1, none⟩ (.slice a na ca)).heap.size = w.heap.size + 3 := by rw [O1.size, O0.size]; exact hszj
  obtain ⟨v00, v01, v02, v03⟩ := id V0'
  obtain ⟨v10, v11, v12, v13⟩ := id V1
  go_wp2_with fail
  generalize (((W1.setCell ⟨w.heap.size, 0, none⟩ (.bool q)).setCell ⟨w.heap.size, 1, none⟩ (.slice b nb cb)).setCell ⟨w.heap.size + 1, 0, none⟩ (.bool p)).setCell ⟨w.heap.size + 1, 1, none⟩ (.slice a na ca) = W2 at *
  refine (subG _ hb' ha' (by omega) (by omega) (by omega)).mono ?_
  rintro e w3 ⟨c1, n1, d1, rfl, G1, hb3⟩
  have R3 := R0'.below hb3
  have V3 := V0'.below hb3
  have hbw := bel_tr hbO hb3
  obtain ⟨x0, x1, x2, x3⟩ := id V3
  clear ha hb ha0 hb00 ha' hb' P0 P1 P1' R0 R0' V0 V0' V1 O0 O1 hb0 p00 p01 p02 p03 p10 p11 p12 p13 v00 v01 v02 v03 v10 v11 v12 v13 hbO
  have hs3 : w.heap.size + 3 ≤ w3.heap.size := by have := hb3.size; omega
  go_wp2_with fail
  refine (signed_any _ _ _ _ _).mono ?_
  rintro e w2 ⟨rfl, hb4⟩
  have R2 := R3.below hb4
  obtain ⟨r0, r1, r2, r3⟩ := id R2
  have GF : GI w2 W2.heap.size (.agg #[.bool (q && decide (0 < n1)), .slice c1 n1 d1]) (ws p m + ws q k) (S + R + 1) := (((G1.gi q).below hb4).val HV.out.symm).le (by omega)
  have hw2 : Below w.heap.size w w2 := bel_tr hbw hb4
  obtain ⟨V, O⟩ := R2.set (.bool (q && decide (0 < n1))) (.slice c1 n1 d1)
  clear hb3 hb4 V3 R3 x0 x1 x2 x3 hbw G1
  go_wp2
  refine bodyPost_ret (v := .agg #[.bool (q && decide (0 < n1)), .slice c1 n1 d1]) (by simp [results, Tryz.results40, go_sem, V.c0, V.c1]) rfl ⟨_, rfl, ((GF.off O (by omega)).mono (by omega)), hw2.trans (O.below (by omega))⟩

/-- whole.Add -/
theorem addI {a b : Option Addr} {na nb ca cb : Nat} {m k : Int} {S R : Nat} (p q : Bool) (w : World) (ha : Num w a na ca m S) (hb : Num w b nb cb k R) (hS : S ≤ 10000000000) (hR : R ≤ 10000000000) :
    Calls Tryz.prog 40 #[.agg #[.bool p, .slice a na ca], .agg #[.bool q, .slice b nb cb]] w fun e w' => ∃ v, e = .returned v ∧ GI w' w.heap.size v (ws p m + ws q k) (S + R + 1) ∧ Below w.heap.size w w' := by
  by_cases hpq : p = q
  · subst hpq; exact addI1 p w ha hb hS hR
  · have h1 : (p == q) = false := by simpa using hpq
    rcases Int.lt_or_le m k with h2 | h2
    · exact addI3 p q w ha hb hS hR h1 h2
    · exact addI2 p q w ha hb hS hR h1 h2
end Go.Proofs.YtfelogbfijomiabGreatDoor

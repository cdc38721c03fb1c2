import Derived.Test.YtfelogbfijomiabGreatDoorWhC
namespace Go.Proofs.YtfelogbfijomiabGreatDoor
open Go.RowKit

theorem wrap_neg {v : Int} (h : v < 0) (h0 : -9223372036854775808 ≤ v) : IntKind.u64.wrap (-IntKind.u64.wrap v) = -v := by
  have e : ∀ x : Int, IntKind.u64.wrap x = x % 18446744073709551616 := fun x => by simp [IntKind.wrap, IntKind.signed, IntKind.bits]
  rw [e, e]; omega
theorem sign_of {c x : Int} (h : (c = 0 ∧ x = 0) ∨ (c = -1 ∧ x < 0) ∨ (c = 1 ∧ 0 < x)) : c = x.sign := by
  rcases h with ⟨rfl, h⟩ | ⟨rfl, h⟩ | ⟨rfl, h⟩
  · rw [h]; rfl
  · rw [Int.sign_eq_neg_one_of_neg h]
  · rw [Int.sign_eq_one_of_pos h]
theorem sign_is (x : Int) : (x.sign = 0 ∧ x = 0) ∨ (x.sign = -1 ∧ x < 0) ∨ (x.sign = 1 ∧ 0 < x) := by
  rcases Int.lt_trichotomy x 0 with h | h | h
  · exact .inr (.inl ⟨Int.sign_eq_neg_one_of_neg h, h⟩)
  · exact .inl ⟨by rw [h]; rfl, h⟩
  · exact .inr (.inr ⟨Int.sign_eq_one_of_pos h, h⟩)
set_option maxHeartbeats 1000000 in
/-- whole.Sub -/
theorem subI {a b : Option Addr} {na nb ca cb : Nat} {m k : Int} {S R : Nat} (p q : Bool) (w : World) (ha : Num w a na ca m S) (hb : Num w b nb cb k R) (hS : S ≤ 10000000000) (hR : R ≤ 10000000000) :
    Calls Tryz.prog 72 #[.agg #[.bool p, .slice a na ca], .agg #[.bool q, .slice b nb cb]] w fun e w' => ∃ v, e = .returned v ∧ GI w' w.heap.size v (ws p m - ws q k) (S + R + 1) ∧ Below w.heap.size w w' := by
  obtain ⟨P0, P1, R0, hb0, hsz⟩ := box3 w (.bool p) (.slice a na ca) (.bool (!q)) (.slice b nb cb) (.bool false) (.slice none 0 0) 28
  replace ha := ha.below hb0
  replace hb := hb.below hb0
  go_enter Tryz.func72, Tryz.ntmps72
  go_wp2_with fail
  generalize ((w.alloc (.cells #[.bool p, .slice a na ca] 28)).alloc (.cells #[.bool (!q), .slice b nb cb] 28)).alloc (.cells #[.bool false, .slice none 0 0] 28) = W0 at *
  refine (addI p (!q) _ ha hb hS hR).mono ?_
  rintro e w2 ⟨v, rfl, G, hb1⟩
  obtain ⟨c1, n1, d1, rfl, GG⟩ := id G
  have GF := G.val (show ws p m + ws (!q) k = ws p m - ws q k by rw [ws_not]; omega)
  have R1 := R0.below hb1
  obtain ⟨r0, r1, r2, r3⟩ := id R1
  have hw2 := bel_tr hb0 hb1
  obtain ⟨V, O⟩ := R1.set (.bool (decide (ws p m + ws (!q) k < 0))) (.slice c1 n1 d1)
  clear P0 P1 R0 ha hb hb0 hb1 GG G
  go_wp2
  refine bodyPost_ret (v := .agg #[.bool (decide (ws p m + ws (!q) k < 0)), .slice c1 n1 d1]) (by simp [results, Tryz.results72, go_sem, V.c0, V.c1]) rfl ⟨_, rfl, ((GF.off O (by omega)).mono (by omega)), hw2.trans (O.below (by omega))⟩

set_option maxHeartbeats 1000000 in
/-- whole.Of -/
theorem ofI (v : Int) (w : World) (h0 : -9223372036854775808 ≤ v) (h1 : v < 9223372036854775808) :
    Calls Tryz.prog 38 #[.int .i64 v] w fun e w' => ∃ u, e = .returned u ∧ GI w' w.heap.size u v 1 ∧ Below w.heap.size w w' := by
  obtain ⟨R0, hb0, hsz⟩ := box1 w (.bool false) (.slice none 0 0) 28
  by_cases hv : v < 0
  · go_enter Tryz.func38, Tryz.ntmps38
    go_wp2_with fail
    generalize w.alloc (.cells #[.bool false, .slice none 0 0] 28) = W0 at *
    rw [wrap_neg hv h0]
    refine (ofG (-v) _ (by omega) (by omega)).mono ?_
    rintro e w1 ⟨c1, n1, d1, rfl, G, hb1⟩
    replace R0 := R0.below hb1
    replace hb0 := bel_tr hb0 hb1
    have hs1 := hb1.size
    go_wp2_with fail
    refine (signed_any _ _ _ _ _).mono ?_
    rintro e w2 ⟨rfl, hb2⟩
    have R1 := R0.below hb2
    have GF : GI w2 W0.heap.size _ v 1 := ((G.gi true).below hb2).val (by simp [ws])
    have hw2 := bel_tr hb0 hb2
    obtain ⟨r0, r1, r2, r3⟩ := id R1
    obtain ⟨V, O⟩ := R1.set (.bool (decide (0 < n1))) (.slice c1 n1 d1)
    clear R0 hb0 hb1 hb2
    go_wp2
    refine bodyPost_ret (v := .agg #[.bool (decide (0 < n1)), .slice c1 n1 d1]) (by simp [results, Tryz.results38, go_sem, V.c0, V.c1]) rfl ⟨_, rfl, ((GF.off O (by omega)).mono (by omega)), hw2.trans (O.below (by omega))⟩
  · go_enter Tryz.func38, Tryz.ntmps38
    go_wp2_with fail
    generalize w.alloc (.cells #[.bool false, .slice none 0 0] 28) = W0 at *
    refine (ofG (v) _ (by omega) (by omega)).mono ?_
    rintro e w1 ⟨c1, n1, d1, rfl, G, hb1⟩
    replace R0 := R0.below hb1
    replace hb0 := bel_tr hb0 hb1
    have hs1 := hb1.size
    go_wp2_with fail
    refine (signed_any _ _ _ _ _).mono ?_
    rintro e w2 ⟨rfl, hb2⟩
    have R1 := R0.below hb2
    have GF : GI w2 W0.heap.size _ v 1 := ((G.gi false).below hb2).val (by simp [ws])
    have hw2 := bel_tr hb0 hb2
    obtain ⟨r0, r1, r2, r3⟩ := id R1
    obtain ⟨V, O⟩ := R1.set (.bool false) (.slice c1 n1 d1)
    clear R0 hb0 hb1 hb2
    go_wp2
    refine bodyPost_ret (v := .agg #[.bool false, .slice c1 n1 d1]) (by simp [results, Tryz.results38, go_sem, V.c0, V.c1]) rfl ⟨_, rfl, ((GF.off O (by omega)).mono (by omega)), hw2.trans (O.below (by omega))⟩

set_option maxHeartbeats 1000000 in
/-- whole.Cmp -/
theorem wcmpI {a b : Option Addr} {na nb ca cb : Nat} {m k : Int} {S R : Nat} (p q : Bool) (w : World) (ha : Num w a na ca m S) (hb : Num w b nb cb k R) (hS : S ≤ 10000000000) (hR : R ≤ 10000000000) :
    Calls Tryz.prog 48 #[.agg #[.bool p, .slice a na ca], .agg #[.bool q, .slice b nb cb]] w fun e w' => e = .returned (.int .i64 (ws p m - ws q k).sign) ∧ Below w.heap.size w w' := by
  obtain ⟨P0, P1, hb0, hsz⟩ := box2 w (.bool p) (.slice a na ca) (.bool q) (.slice b nb cb) 28
  replace ha := ha.below hb0
  replace hb := hb.below hb0
  go_enter Tryz.func48, Tryz.ntmps48
  go_wp2_with fail
  generalize (w.alloc (.cells #[.bool p, .slice a na ca] 28)).alloc (.cells #[.bool q, .slice b nb cb] 28) = W0 at *
  obtain ⟨p00, p01, p02, p03⟩ := id P0
  obtain ⟨p10, p11, p12, p13⟩ := id P1
  go_region_held3 (fun w' => w'.cell? ⟨w.heap.size, 0, none⟩ = some (.bool p) ∧ w'.cell? ⟨w.heap.size, 1, none⟩ = some (.slice a na ca) ∧ w'.cell? ⟨w.heap.size + 1, 0, none⟩ = some (.bool q) ∧ w'.cell? ⟨w.heap.size + 1, 1, none⟩ = some (.slice b nb cb))
    (first | (go_keep; done) | (refine ⟨?_, ?_, ?_, ?_⟩ <;> first | exact kept_c hb2 (by go_keep) | exact kept_c hb1 (by go_keep)) | (refine ⟨?_, ?_, ?_, ?_⟩ <;> first | exact set2_far (by go_keep) (by simp <;> omega) | exact kept_c (by assumption) (by assumption)))
    ((first
      | (go_at_call 45; go_fit (signI p _ (ha.drewN _) (by omega)); rintro e w1 ⟨rfl, hb1⟩)
      | (go_at_call 45; go_fit (signI q _ (hb.drewN _) (by omega)); rintro e w1 ⟨rfl, hb1⟩)
      | (go_at_call 45; go_fit (signI p _ ((ha.drewN _).below hb1) (by omega)); rintro e w2 ⟨rfl, hb2⟩)
      | (go_at_call 45; go_fit (signI q _ ((hb.drewN _).below hb1) (by omega)); rintro e w2 ⟨rfl, hb2⟩)))
  have hc1 : Below W0.heap.size W0 w1 := bel_tr (belN (Below.refl _ W0) _) hb1
  have hc2 : Below w1.heap.size w1 w2 := by first | exact hb2 | exact bel_tr (belN (Below.refl _ w1) 1) hb2
  have hc := bel_tr hc1 hc2
  replace P0 := P0.below hc
  replace P1 := P1.below hc
  replace ha := ha.below hc
  replace hb := hb.below hc
  replace hb0 := bel_tr hb0 hc
  have n1 := ha.nn
  have n2 := hb.nn
  have x1 : ws p m = m ∨ ws p m = -m := by unfold ws; cases p <;> simp
  have x2 : ws q k = k ∨ ws q k = -k := by unfold ws; cases q <;> simp
  have g1 := sign_is (ws p m)
  have g2 := sign_is (ws q k)
  generalize (ws p m).sign = s1 at *
  generalize (ws q k).sign = s2 at *
  obtain ⟨X, hX⟩ : ∃ X, ws p m = X := ⟨_, rfl⟩
  obtain ⟨Y, hY⟩ : ∃ Y, ws q k = Y := ⟨_, rfl⟩
  have HE : Hid (ws p m - ws q k = X - Y) := by show _ = _; rw [hX, hY]
  rw [hX] at x1 g1
  rw [hY] at x2 g2
  have HG : Hid (∀ c, ((c = 0 ∧ X - Y = 0) ∨ (c = -1 ∧ X - Y < 0) ∨ (c = 1 ∧ 0 < X - Y)) → c = (X - Y).sign) := fun c h => sign_of h
  clear hX hY
  clear hb1 hb2 hc1 hc2 hc p00 p01 p02 p03 p10 p11 p12 p13 hsz
  obtain ⟨p00, p01, p02, p03⟩ := id P0
  obtain ⟨p10, p11, p12, p13⟩ := id P1
  rcases (by omega : s1 < s2 ∨ s2 < s1 ∨ s1 = s2) with h | h | h
  · have HZ : Hid (-1 = (X - Y).sign) := HG.out _ (by omega)
    clear ha hb g1 g2 x1 x2 n1 n2 HG
    go_wp2
    go_ret
    exact ⟨by rw [HE.out, ← HZ.out]; rfl, hb0⟩
  · have HZ : Hid (1 = (X - Y).sign) := HG.out _ (by omega)
    have h' : ¬ s1 < s2 := by omega
    clear ha hb g1 g2 x1 x2 n1 n2 HG
    go_wp2
    go_ret
    exact ⟨by rw [HE.out, ← HZ.out]; rfl, hb0⟩
  · subst h
    rcases (by omega : s1 = -1 ∨ s1 = 0 ∨ s1 = 1) with rfl | rfl | rfl
    · go_wp2_with fail
      refine (cmpV _ hb ha (by omega) (by omega)).mono ?_
      rintro e w3 ⟨c, rfl, hc, j, rfl⟩
      have HZ : Hid (c = (X - Y).sign) := HG.out c (by omega)
      clear hc ha hb g1 g2 x1 x2 n1 n2 HG
      go_wp2
      go_ret
      exact ⟨by rw [HE.out, ← HZ.out]; rfl, belN hb0 j⟩
    · go_wp2_with fail
      refine (cmpV _ ha hb (by omega) (by omega)).mono ?_
      rintro e w3 ⟨c, rfl, hc, j, rfl⟩
      have HZ : Hid (c = (X - Y).sign) := HG.out c (by omega)
      clear hc ha hb g1 g2 x1 x2 n1 n2 HG
      go_wp2
      go_ret
      exact ⟨by rw [HE.out, ← HZ.out]; rfl, belN hb0 j⟩
    · go_wp2_with fail
      refine (cmpV _ ha hb (by omega) (by omega)).mono ?_
      rintro e w3 ⟨c, rfl, hc, j, rfl⟩
      have HZ : Hid (c = (X - Y).sign) := HG.out c (by omega)
      clear hc ha hb g1 g2 x1 x2 n1 n2 HG
      go_wp2
      go_ret
      exact ⟨by rw [HE.out, ← HZ.out]; rfl, belN hb0 j⟩
end Go.Proofs.YtfelogbfijomiabGreatDoor

import Derived.Test.YtfelogbfijomiabGreatDoorWhE
import Derived.Test.YtfelogbfijomiabGreatDoorGuard
namespace Go.Proofs.YtfelogbfijomiabGreatDoor
open Go.RowKit

theorem ws_dec {b : Bool} {m : Int} (hm : 0 ≤ m) : ws (decide (ws b m < 0)) m = ws b m := by
  have h1 := ws_sign (ws b m)
  rw [ws_abs hm] at h1
  exact h1
theorem sign_prod (x y : Int) : x.sign * y.sign = -1 ∨ x.sign * y.sign = 0 ∨ x.sign * y.sign = 1 := by
  rcases sign_is x with ⟨h, _⟩ | ⟨h, _⟩ | ⟨h, _⟩ <;> rcases sign_is y with ⟨h', _⟩ | ⟨h', _⟩ | ⟨h', _⟩ <;> rw [h, h'] <;> simp
theorem sign_wrap (x y : Int) : IntKind.i64.wrap (x.sign * y.sign) = x.sign * y.sign := by
  rcases sign_prod x y with h | h | h <;> rw [h] <;> rfl
/-- What DivFloor tells: QuoRem's, or one less and the divisor more. -/
def flQ (p q : Bool) (m k : Int) : Int := if (ws p (m % k)).sign * (ws q k).sign < 0 then ws (p != q) (m / k) - 1 else ws (p != q) (m / k)
def flR (p q : Bool) (m k : Int) : Int := if (ws p (m % k)).sign * (ws q k).sign < 0 then ws p (m % k) + ws q k else ws p (m % k)
set_option maxHeartbeats 1000000 in
/-- whole.DivFloor, mended -/
theorem divI1 {a b : Option Addr} {na nb ca cb : Nat} {m k : Int} {S R : Nat} (p q : Bool) (w : World) (ha : Num w a na ca m S) (hb : Num w b nb cb k R) (hS : S ≤ 2000000) (hR : R ≤ 2000000) (hk : 0 < k) (hs : (ws p (m % k)).sign * (ws q k).sign < 0) :
    Calls Tryz.prog 46 #[.agg #[.bool p, .slice a na ca], .agg #[.bool q, .slice b nb cb]] w fun e w' => ∃ u v, e = .returned (.tuple #[u, v, .nilIface]) ∧ GI w' w.heap.size u (flQ p q m k) (S + 4) ∧ GI w' w.heap.size v (flR p q m k) (S + R + 4) ∧ Below w.heap.size w w' := by
  have HQ : Hid (flQ p q m k = ws (p != q) (m / k) - 1) := by show _ = _; unfold flQ; rw [if_pos hs]
  have HR : Hid (flR p q m k = ws p (m % k) + ws q k) := by show _ = _; unfold flR; rw [if_pos hs]
  have HS : Hid ((ws p (m % k)).sign * (ws q k).sign < 0) := hs
  clear hs
  have hb1x := hb
  obtain ⟨P0, P1, R0, R1, hb0, hsz⟩ := box4 w (.bool p) (.slice a na ca) (.bool q) (.slice b nb cb) (.bool false) (.slice none 0 0) (.bool false) (.slice none 0 0) 28
  replace ha := ha.below hb0
  replace hb := hb.below hb0
  go_enter Tryz.func46, Tryz.ntmps46
  go_wp2_with fail
  generalize (((w.alloc (.cells #[.bool p, .slice a na ca] 28)).alloc (.cells #[.bool q, .slice b nb cb] 28)).alloc (.cells #[.bool false, .slice none 0 0] 28)).alloc (.cells #[.bool false, .slice none 0 0] 28) = W0 at *
  obtain ⟨p00, p01, p02, p03⟩ := id P0
  obtain ⟨p10, p11, p12, p13⟩ := id P1
  refine (quoI p q _ ha hb (by omega) (by omega) hk).mono ?_
  rintro e w1 ⟨c, n, d, c', n', d', rfl, G1, G2, _, hb1⟩
  have z1 := ws_dec (b := p != q) G1.pos.1
  have z2 := ws_dec (b := p) G2.pos.1
  have Z1 : Hid (ws (decide (ws (p != q) (m / k) < 0)) (m / k) = ws (p != q) (m / k)) := z1
  have Z2 : Hid (ws (decide (ws p (m % k) < 0)) (m % k) = ws p (m % k)) := z2
  generalize hB1 : decide (ws (p != q) (m / k) < 0) = B1 at *
  generalize hB2 : decide (ws p (m % k) < 0) = B2 at *
  have HB1 : Hid (decide (ws (p != q) (m / k) < 0) = B1) := hB1
  have HB2 : Hid (decide (ws p (m % k) < 0) = B2) := hB2
  clear z1 z2 hB1 hB2
  replace P1 := P1.below hb1
  replace R0 := R0.below hb1
  replace R1 := R1.below hb1
  replace hb := hb.below hb1
  replace hb0 := bel_tr hb0 hb1
  have hs1 := hb1.size
  clear p00 p01 p02 p03 p10 p11 p12 p13 hb1 ha P0
  obtain ⟨V, O⟩ := R0.set (.bool B1) (.slice c n d)
  have R1' := R1.off O (by omega)
  obtain ⟨V1, O1⟩ := R1'.set (.bool B2) (.slice c' n' d')
  have V0 := V.off O1 (by omega)
  have Q1 := (P1.off O (by omega)).off O1 (by omega)
  have hw := (hb0.trans (O.below (by omega))).trans (O1.below (by omega))
  have K1 := (G1.off O (by omega)).off O1 (by omega)
  have K2 := (G2.off O (by omega)).off O1 (by omega)
  obtain ⟨r0, r1, r2, r3⟩ := id R0
  obtain ⟨t0, t1, t2, t3⟩ := id R1
  obtain ⟨p10, p11, p12, p13⟩ := id P1
  go_wp2_with fail
  have hsz2 : ((((w1.setCell ⟨w.heap.size + 2, 0, none⟩ (.bool B1)).setCell ⟨w.heap.size + 2, 1, none⟩ (.slice c n d)).setCell ⟨w.heap.size + 3, 0, none⟩ (.bool B2)).setCell ⟨w.heap.size + 3, 1, none⟩ (.slice c' n' d')).heap.size = w1.heap.size := by rw [O1.size, O.size]
  generalize (((w1.setCell ⟨w.heap.size + 2, 0, none⟩ (.bool B1)).setCell ⟨w.heap.size + 2, 1, none⟩ (.slice c n d)).setCell ⟨w.heap.size + 3, 0, none⟩ (.bool B2)).setCell ⟨w.heap.size + 3, 1, none⟩ (.slice c' n' d') = W2 at *
  have hbW := hb1x.below hw
  clear r0 r1 r2 r3 t0 t1 t2 t3 p10 p11 p12 p13 R0 R1 R1' V O O1 P1 hb hb0 G1 G2
  obtain ⟨r0, r1, r2, r3⟩ := id V0
  obtain ⟨t0, t1, t2, t3⟩ := id V1
  obtain ⟨p10, p11, p12, p13⟩ := id Q1
  go_region_held3 (fun w' => w'.cell? ⟨w.heap.size + 3, 0, none⟩ = some (.bool B2) ∧ w'.cell? ⟨w.heap.size + 3, 1, none⟩ = some (.slice c' n' d') ∧ w'.cell? ⟨w.heap.size + 1, 0, none⟩ = some (.bool q) ∧ w'.cell? ⟨w.heap.size + 1, 1, none⟩ = some (.slice b nb cb))
    (first | (go_keep; done) | (refine ⟨?_, ?_, ?_, ?_⟩ <;> first | exact kept_c hbB (by go_keep) | exact kept_c hbA (by go_keep)) | (refine ⟨?_, ?_, ?_, ?_⟩ <;> first | exact set2_far (by go_keep) (by simp <;> omega) | exact kept_c (by assumption) (by assumption)))
    ((first
      | (go_at_call 45; go_fit (signI B2 _ (K2.num.drewN _) (by omega)); rintro e wA ⟨rfl, hbA⟩; have hcA : Below W2.heap.size W2 wA := (by first | exact hbA | exact bel_tr (belN (Below.refl _ W2) 1) hbA))
      | (go_at_call 45; go_fit (signI q _ ((hbW.below hcA)) (by omega)); rintro e wB ⟨rfl, hbB⟩; have hcB : Below wA.heap.size wA wB := (by first | exact hbB | exact bel_tr (belN (Below.refl _ wA) 1) hbB))))
  have hc := bel_tr hcA hcB
  replace V0 := V0.below hc
  replace V1 := V1.below hc
  replace Q1 := Q1.below hc
  replace K1 := K1.below hc
  replace K2 := K2.below hc
  replace hbW := hbW.below hc
  replace hw := bel_tr hw hc
  have hsB : w.heap.size + 4 ≤ wB.heap.size := by have := hc.size; omega
  clear r0 r1 r2 r3 t0 t1 t2 t3 p10 p11 p12 p13 hbA hbB hcA hcB hc
  obtain ⟨r0, r1, r2, r3⟩ := id V0
  obtain ⟨t0, t1, t2, t3⟩ := id V1
  obtain ⟨p10, p11, p12, p13⟩ := id Q1
  rw [sign_wrap]
  have hz : (ws B2 (m % k)).sign * (ws q k).sign = -1 := by
    have h1 := HS.out
    have h2 := sign_prod (ws p (m % k)) (ws q k)
    rw [Z2.out]; omega
  rw [hz]
  clear hz
  go_wp2_with fail
  refine wp_region_guard (Till 6 7 (fun w' => w'.cell? ⟨w.heap.size + 2, 0, none⟩ = some (.bool B1) ∧ w'.cell? ⟨w.heap.size + 2, 1, none⟩ = some (.slice c n d)) (fun w' => w'.cell? ⟨w.heap.size + 3, 0, none⟩ = some (.bool B2) ∧ w'.cell? ⟨w.heap.size + 3, 1, none⟩ = some (.slice c' n' d') ∧ w'.cell? ⟨w.heap.size + 1, 0, none⟩ = some (.bool q) ∧ w'.cell? ⟨w.heap.size + 1, 1, none⟩ = some (.slice b nb cb))) (by kernel_rfl) ?_
  refine wpAnyG.take 0 (v := .agg #[.bool B1, .slice c n d]) (by decide) (by kernel_rfl) (fun _ _ _ h => h) 6 _ (by rfl) (till_ind (by decide) (by decide)) (fun L w' h1 h2 => h2.1 h1) (by kernel_rfl) (by kernel_rfl) (by kernel_rfl) (by rfl) ?y1 ⟨fun _ => ⟨r0, r1⟩, fun _ => ⟨t0, t1, p10, p11⟩⟩ (by rfl) ?_
  case y1 =>
    rintro w' ⟨s0, s1⟩
    simp only [List.getElem_toArray, List.getElem_cons_zero]
    go_simp
  simp only [List.getElem_toArray, List.getElem_cons_zero, Act.put, List.setIfInBounds_toArray, List.set_cons_zero, List.set_cons_succ]
  refine wpAnyG.take 3 (v := .agg #[.bool B2, .slice c' n' d']) (by decide) (by kernel_rfl) (fun _ _ _ h => h) 7 _ (by rfl) (till_ind (by decide) (by decide)) (fun L w' h1 h2 => h2.2 h1) (by kernel_rfl) (by kernel_rfl) (by kernel_rfl) (by rfl) ?y2 ⟨fun _ => ⟨r0, r1⟩, fun _ => ⟨t0, t1, p10, p11⟩⟩ (by rfl) ?_
  case y2 =>
    rintro w' ⟨s0, s1, s2, s3⟩
    simp only [List.getElem_toArray, List.getElem_cons_zero, List.getElem_cons_succ]
    go_simp
  simp only [List.getElem_toArray, List.getElem_cons_zero, List.getElem_cons_succ, Act.put, List.setIfInBounds_toArray, List.set_cons_zero, List.set_cons_succ]
  refine wpAnyG.take 4 (v := .agg #[.bool q, .slice b nb cb]) (by decide) (by kernel_rfl) (fun _ _ _ h => h) 7 _ (by rfl) (till_ind (by decide) (by decide)) (fun L w' h1 h2 => h2.2 h1) (by kernel_rfl) (by kernel_rfl) (by kernel_rfl) (by rfl) ?y3 ⟨fun _ => ⟨r0, r1⟩, fun _ => ⟨t0, t1, p10, p11⟩⟩ (by rfl) ?_
  case y3 =>
    rintro w' ⟨s0, s1, s2, s3⟩
    simp only [List.getElem_toArray, List.getElem_cons_zero, List.getElem_cons_succ]
    go_simp
  simp only [List.getElem_toArray, List.getElem_cons_zero, List.getElem_cons_succ, Act.put, List.setIfInBounds_toArray, List.set_cons_zero, List.set_cons_succ]
  refine wpAnyG.one 1 (by kernel_rfl) (by decide) (by rfl) (fun K hK => ?_)
  simp only [List.getElem_toArray, List.getElem_cons_zero, List.getElem_cons_succ]
  go_simp
  refine (ofI 1 _ (by omega) (by omega)).mono ?_
  rintro e wD ⟨u, rfl, GU, hbD⟩
  obtain ⟨cu, nu, du, rfl, GV⟩ := id GU
  have hcD : Below wB.heap.size wB wD := bel_tr (belN (Below.refl _ wB) 1) hbD
  replace K1 := K1.below hcD
  replace V0 := V0.below hcD
  replace V1 := V1.below hcD
  replace Q1 := Q1.below hcD
  replace K2 := K2.below hcD
  replace hbW := hbW.below hcD
  replace hw := bel_tr hw hcD
  clear r0 r1 r2 r3 t0 t1 t2 t3 p10 p11 p12 p13
  obtain ⟨r0, r1, r2, r3⟩ := id V0
  obtain ⟨t0, t1, t2, t3⟩ := id V1
  obtain ⟨p10, p11, p12, p13⟩ := id Q1
  dsimp only
  refine hK _ _ ⟨fun _ => ⟨r0, r1⟩, fun _ => ⟨t0, t1, p10, p11⟩⟩ ?_
  clear hK K
  refine wpAnyG.one 2 (by kernel_rfl) (by decide) (by rfl) (fun K hK => ?_)
  simp only [List.getElem_toArray, List.getElem_cons_zero, List.getElem_cons_succ]
  go_simp
  refine (subI B1 _ _ K1.num GV.num (by omega) (by omega)).mono ?_
  rintro e wE ⟨u, rfl, GQ, hcE⟩
  obtain ⟨cq, nq, dq, rfl, GQ'⟩ := id GQ
  replace V0 := V0.below hcE
  replace V1 := V1.below hcE
  replace Q1 := Q1.below hcE
  replace K2 := K2.below hcE
  replace hbW := hbW.below hcE
  replace hw := bel_tr hw hcE
  clear r0 r1 r2 r3 t0 t1 t2 t3 p10 p11 p12 p13
  obtain ⟨r0, r1, r2, r3⟩ := id V0
  obtain ⟨t0, t1, t2, t3⟩ := id V1
  obtain ⟨p10, p11, p12, p13⟩ := id Q1
  dsimp only
  refine hK _ _ ⟨fun _ => ⟨r0, r1⟩, fun _ => ⟨t0, t1, p10, p11⟩⟩ ?_
  clear hK K
  refine wpAnyG.one 5 (by kernel_rfl) (by decide) (by rfl) (fun K hK => ?_)
  simp only [List.getElem_toArray, List.getElem_cons_zero, List.getElem_cons_succ]
  go_simp
  refine (addI B2 q _ K2.num hbW (by omega) (by omega)).mono ?_
  rintro e wF ⟨u, rfl, GR, hcF⟩
  obtain ⟨cr, nr, dr, rfl, GR'⟩ := id GR
  replace V0 := V0.below hcF
  replace V1 := V1.below hcF
  replace Q1 := Q1.below hcF
  replace K2 := K2.below hcF
  replace hbW := hbW.below hcF
  replace hw := bel_tr hw hcF
  clear r0 r1 r2 r3 t0 t1 t2 t3 p10 p11 p12 p13
  obtain ⟨r0, r1, r2, r3⟩ := id V0
  obtain ⟨t0, t1, t2, t3⟩ := id V1
  obtain ⟨p10, p11, p12, p13⟩ := id Q1
  dsimp only
  refine hK _ _ ⟨fun _ => ⟨r0, r1⟩, fun _ => ⟨t0, t1, p10, p11⟩⟩ ?_
  clear hK K
  refine wpAnyG.one 6 (by kernel_rfl) (by decide) (by rfl) (fun K hK => ?_)
  simp only [List.getElem_toArray, List.getElem_cons_zero, List.getElem_cons_succ]
  go_simp
  obtain ⟨V, O⟩ := V0.set (.bool (decide (ws B1 (m / k) - ws false 1 < 0))) (.slice cq nq dq)
  have V1' := V1.off O (by omega)
  have Q1' := Q1.off O (by omega)
  refine hK _ _ ⟨fun h => absurd h (by decide), fun _ => ⟨V1'.c0, V1'.c1, Q1'.c0, Q1'.c1⟩⟩ ?_
  clear hK K r0 r1 r2 r3 t0 t1 t2 t3 p10 p11 p12 p13
  generalize ((wF.setCell ⟨w.heap.size + 2, 0, none⟩ (.bool (decide (ws B1 (m / k) - ws false 1 < 0)))).setCell ⟨w.heap.size + 2, 1, none⟩ (.slice cq nq dq)) = wG at *
  obtain ⟨t0, t1, t2, t3⟩ := id V1'
  refine wpAnyG.one 7 (by kernel_rfl) (by decide) (by rfl) (fun K hK => ?_)
  simp only [List.getElem_toArray, List.getElem_cons_zero, List.getElem_cons_succ]
  go_simp
  obtain ⟨Va, Oa⟩ := V1'.set (.bool (decide (ws B2 (m % k) + ws q k < 0))) (.slice cr nr dr)
  have Vb := V.off Oa (by omega)
  refine hK _ _ ⟨fun h => absurd h (by decide), fun h => absurd h (by decide)⟩ ?_
  clear hK K t0 t1 t2 t3
  generalize ((wG.setCell ⟨w.heap.size + 3, 0, none⟩ (.bool (decide (ws B2 (m % k) + ws q k < 0)))).setCell ⟨w.heap.size + 3, 1, none⟩ (.slice cr nr dr)) = wH at *
  refine wpAnyG.one 8 (by kernel_rfl) (by decide) (by rfl) (fun K hK => ?_)
  simp only [List.getElem_toArray, List.getElem_cons_zero, List.getElem_cons_succ]
  go_simp
  refine hK _ _ ⟨fun h => absurd h (by decide), fun h => absurd h (by decide)⟩ ?_
  clear hK K
  refine wpAnyG.done (by kernel_rfl) ?_
  have hwH := (hw.trans (O.below (by omega))).trans (Oa.below (by omega))
  have hsD := hcD.size
  have hsE := hcE.size
  have W1 := (((GQ.below hcF).off O (by omega)).off Oa (by omega)).val (show ws B1 (m / k) - ws false 1 = flQ p q m k by rw [HQ.out, Z1.out]; rfl)
  have W2' := ((GR.off O (by omega)).off Oa (by omega)).val (show ws B2 (m % k) + ws q k = flR p q m k by rw [HR.out, Z2.out])
  go_wp2
  refine bodyPost_ret (v := .tuple #[.agg #[.bool (decide (ws B1 (m / k) - ws false 1 < 0)), .slice cq nq dq], .agg #[.bool (decide (ws B2 (m % k) + ws q k < 0)), .slice cr nr dr], .nilIface]) (by simp [results, Tryz.results46, go_sem, Vb.c0, Vb.c1, Va.c0, Va.c1]) rfl ⟨_, _, rfl, (W1.mono (by omega)).le (by omega), (W2'.mono (by omega)).le (by omega), hwH⟩
set_option maxHeartbeats 1000000 in
/-- whole.DivFloor, as QuoRem -/
theorem divI2 {a b : Option Addr} {na nb ca cb : Nat} {m k : Int} {S R : Nat} (p q : Bool) (w : World) (ha : Num w a na ca m S) (hb : Num w b nb cb k R) (hS : S ≤ 2000000) (hR : R ≤ 2000000) (hk : 0 < k) (hs : ¬ (ws p (m % k)).sign * (ws q k).sign < 0) :
    Calls Tryz.prog 46 #[.agg #[.bool p, .slice a na ca], .agg #[.bool q, .slice b nb cb]] w fun e w' => ∃ u v, e = .returned (.tuple #[u, v, .nilIface]) ∧ GI w' w.heap.size u (flQ p q m k) (S + 4) ∧ GI w' w.heap.size v (flR p q m k) (S + R + 4) ∧ Below w.heap.size w w' := by
  have HQ : Hid (flQ p q m k = ws (p != q) (m / k)) := by show _ = _; unfold flQ; rw [if_neg hs]
  have HR : Hid (flR p q m k = ws p (m % k)) := by show _ = _; unfold flR; rw [if_neg hs]
  have HS : Hid (¬ (ws p (m % k)).sign * (ws q k).sign < 0) := hs
  clear hs
  have hb1x := hb
  obtain ⟨P0, P1, R0, R1, hb0, hsz⟩ := box4 w (.bool p) (.slice a na ca) (.bool q) (.slice b nb cb) (.bool false) (.slice none 0 0) (.bool false) (.slice none 0 0) 28
  replace ha := ha.below hb0
  replace hb := hb.below hb0
  go_enter Tryz.func46, Tryz.ntmps46
  go_wp2_with fail
  generalize (((w.alloc (.cells #[.bool p, .slice a na ca] 28)).alloc (.cells #[.bool q, .slice b nb cb] 28)).alloc (.cells #[.bool false, .slice none 0 0] 28)).alloc (.cells #[.bool false, .slice none 0 0] 28) = W0 at *
  obtain ⟨p00, p01, p02, p03⟩ := id P0
  obtain ⟨p10, p11, p12, p13⟩ := id P1
  refine (quoI p q _ ha hb (by omega) (by omega) hk).mono ?_
  rintro e w1 ⟨c, n, d, c', n', d', rfl, G1, G2, _, hb1⟩
  have z1 := ws_dec (b := p != q) G1.pos.1
  have z2 := ws_dec (b := p) G2.pos.1
  have Z1 : Hid (ws (decide (ws (p != q) (m / k) < 0)) (m / k) = ws (p != q) (m / k)) := z1
  have Z2 : Hid (ws (decide (ws p (m % k) < 0)) (m % k) = ws p (m % k)) := z2
  generalize hB1 : decide (ws (p != q) (m / k) < 0) = B1 at *
  generalize hB2 : decide (ws p (m % k) < 0) = B2 at *
  have HB1 : Hid (decide (ws (p != q) (m / k) < 0) = B1) := hB1
  have HB2 : Hid (decide (ws p (m % k) < 0) = B2) := hB2
  clear z1 z2 hB1 hB2
  replace P1 := P1.below hb1
  replace R0 := R0.below hb1
  replace R1 := R1.below hb1
  replace hb := hb.below hb1
  replace hb0 := bel_tr hb0 hb1
  have hs1 := hb1.size
  clear p00 p01 p02 p03 p10 p11 p12 p13 hb1 ha P0
  obtain ⟨V, O⟩ := R0.set (.bool B1) (.slice c n d)
  have R1' := R1.off O (by omega)
  obtain ⟨V1, O1⟩ := R1'.set (.bool B2) (.slice c' n' d')
  have V0 := V.off O1 (by omega)
  have Q1 := (P1.off O (by omega)).off O1 (by omega)
  have hw := (hb0.trans (O.below (by omega))).trans (O1.below (by omega))
  have K1 := (G1.off O (by omega)).off O1 (by omega)
  have K2 := (G2.off O (by omega)).off O1 (by omega)
  obtain ⟨r0, r1, r2, r3⟩ := id R0
  obtain ⟨t0, t1, t2, t3⟩ := id R1
  obtain ⟨p10, p11, p12, p13⟩ := id P1
  go_wp2_with fail
  have hsz2 : ((((w1.setCell ⟨w.heap.size + 2, 0, none⟩ (.bool B1)).setCell ⟨w.heap.size + 2, 1, none⟩ (.slice c n d)).setCell ⟨w.heap.size + 3, 0, none⟩ (.bool B2)).setCell ⟨w.heap.size + 3, 1, none⟩ (.slice c' n' d')).heap.size = w1.heap.size := by rw [O1.size, O.size]
  generalize (((w1.setCell ⟨w.heap.size + 2, 0, none⟩ (.bool B1)).setCell ⟨w.heap.size + 2, 1, none⟩ (.slice c n d)).setCell ⟨w.heap.size + 3, 0, none⟩ (.bool B2)).setCell ⟨w.heap.size + 3, 1, none⟩ (.slice c' n' d') = W2 at *
  have hbW := hb1x.below hw
  clear r0 r1 r2 r3 t0 t1 t2 t3 p10 p11 p12 p13 R0 R1 R1' V O O1 P1 hb hb0 G1 G2
  obtain ⟨r0, r1, r2, r3⟩ := id V0
  obtain ⟨t0, t1, t2, t3⟩ := id V1
  obtain ⟨p10, p11, p12, p13⟩ := id Q1
  go_region_held3 (fun w' => w'.cell? ⟨w.heap.size + 3, 0, none⟩ = some (.bool B2) ∧ w'.cell? ⟨w.heap.size + 3, 1, none⟩ = some (.slice c' n' d') ∧ w'.cell? ⟨w.heap.size + 1, 0, none⟩ = some (.bool q) ∧ w'.cell? ⟨w.heap.size + 1, 1, none⟩ = some (.slice b nb cb))
    (first | (go_keep; done) | (refine ⟨?_, ?_, ?_, ?_⟩ <;> first | exact kept_c hbB (by go_keep) | exact kept_c hbA (by go_keep)) | (refine ⟨?_, ?_, ?_, ?_⟩ <;> first | exact set2_far (by go_keep) (by simp <;> omega) | exact kept_c (by assumption) (by assumption)))
    ((first
      | (go_at_call 45; go_fit (signI B2 _ (K2.num.drewN _) (by omega)); rintro e wA ⟨rfl, hbA⟩; have hcA : Below W2.heap.size W2 wA := (by first | exact hbA | exact bel_tr (belN (Below.refl _ W2) 1) hbA))
      | (go_at_call 45; go_fit (signI q _ ((hbW.below hcA)) (by omega)); rintro e wB ⟨rfl, hbB⟩; have hcB : Below wA.heap.size wA wB := (by first | exact hbB | exact bel_tr (belN (Below.refl _ wA) 1) hbB))))
  have hc := bel_tr hcA hcB
  replace V0 := V0.below hc
  replace V1 := V1.below hc
  replace Q1 := Q1.below hc
  replace K1 := K1.below hc
  replace K2 := K2.below hc
  replace hbW := hbW.below hc
  replace hw := bel_tr hw hc
  have hsB : w.heap.size + 4 ≤ wB.heap.size := by have := hc.size; omega
  clear r0 r1 r2 r3 t0 t1 t2 t3 p10 p11 p12 p13 hbA hbB hcA hcB hc
  obtain ⟨r0, r1, r2, r3⟩ := id V0
  obtain ⟨t0, t1, t2, t3⟩ := id V1
  obtain ⟨p10, p11, p12, p13⟩ := id Q1
  rw [sign_wrap]
  have hz : 0 ≤ (ws B2 (m % k)).sign * (ws q k).sign := by
    have h1 := HS.out
    have h2 := sign_prod (ws p (m % k)) (ws q k)
    rw [Z2.out]; omega
  generalize (ws B2 (m % k)).sign * (ws q k).sign = z at *
  go_wp2_with fail
  go_region
  obtain ⟨V, O⟩ := V0.set (.bool B1) (.slice c n d)
  have V1' := V1.off O (by omega)
  obtain ⟨Va, Oa⟩ := V1'.set (.bool B2) (.slice c' n' d')
  have Vb := V.off Oa (by omega)
  have hwH := (hw.trans (O.below (by omega))).trans (Oa.below (by omega))
  have W1 := ((K1.off O (by omega)).off Oa (by omega))
  have W2' := ((K2.off O (by omega)).off Oa (by omega))
  have E1 : GI _ W0.heap.size (.agg #[.bool B1, .slice c n d]) (flQ p q m k) (S + 1) := ⟨c, n, d, by rw [HQ.out, HB1.out], by rw [HQ.out, ws_abs K1.pos.1]; exact W1⟩
  have E2 : GI _ W0.heap.size (.agg #[.bool B2, .slice c' n' d']) (flR p q m k) (S + 1) := ⟨c', n', d', by rw [HR.out, HB2.out], by rw [HR.out, ws_abs K2.pos.1]; exact W2'⟩
  generalize (((wB.setCell ⟨w.heap.size + 2, 0, none⟩ (.bool B1)).setCell ⟨w.heap.size + 2, 1, none⟩ (.slice c n d)).setCell ⟨w.heap.size + 3, 0, none⟩ (.bool B2)).setCell ⟨w.heap.size + 3, 1, none⟩ (.slice c' n' d') = wH at *
  clear r0 r1 r2 r3 t0 t1 t2 t3 p10 p11 p12 p13 V0 V1 V V1' O Oa K1 K2 hbW Q1
  go_wp2
  have Vb' : Var2 wH.drew (w.heap.size + 2) (.bool B1) (.slice c n d) := Vb.below (belN (Below.refl _ _) 1)
  have Va' : Var2 wH.drew (w.heap.size + 3) (.bool B2) (.slice c' n' d') := Va.below (belN (Below.refl _ _) 1)
  refine bodyPost_ret (v := .tuple #[.agg #[.bool B1, .slice c n d], .agg #[.bool B2, .slice c' n' d'], .nilIface]) (by simp [results, Tryz.results46, go_sem, Vb'.c0, Vb'.c1, Va'.c0, Va'.c1]) rfl ⟨_, _, rfl, ((E1.below (belN (Below.refl _ _) 1)).mono (by omega)).le (by omega), ((E2.below (belN (Below.refl _ _) 1)).mono (by omega)).le (by omega), belN hwH 1⟩
/-- whole.DivFloor -/
theorem divI {a b : Option Addr} {na nb ca cb : Nat} {m k : Int} {S R : Nat} (p q : Bool) (w : World) (ha : Num w a na ca m S) (hb : Num w b nb cb k R) (hS : S ≤ 2000000) (hR : R ≤ 2000000) (hk : 0 < k) :
    Calls Tryz.prog 46 #[.agg #[.bool p, .slice a na ca], .agg #[.bool q, .slice b nb cb]] w fun e w' => ∃ u v, e = .returned (.tuple #[u, v, .nilIface]) ∧ GI w' w.heap.size u (flQ p q m k) (S + 4) ∧ GI w' w.heap.size v (flR p q m k) (S + R + 4) ∧ Below w.heap.size w w' := by
  by_cases hs : (ws p (m % k)).sign * (ws q k).sign < 0
  · exact divI1 p q w ha hb hS hR hk hs
  · exact divI2 p q w ha hb hS hR hk hs
end Go.Proofs.YtfelogbfijomiabGreatDoor

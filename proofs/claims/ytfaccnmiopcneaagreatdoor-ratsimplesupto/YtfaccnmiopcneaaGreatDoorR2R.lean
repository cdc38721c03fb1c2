import Derived.Test.YtfaccnmiopcneaaGreatDoorR2Q
namespace Go.Proofs.YtfaccnmiopcneaaGreatDoor
open Go.RowKit

set_option maxHeartbeats 2000000 in
theorem rdiv1 {a b : Option Addr} {na nb ca cb : Nat} {m k : Int} {S : Nat} (p q : Bool) (w : World) (ha : Num w a na ca m S) (hb : Num w b nb cb k S) (hS : S ≤ 2000000) (hk : 0 < k) (hS1 : 1 ≤ S) (hs : (ws p (m % k)).sign * (ws q k).sign < 0) :
    Calls Tryz.prog 88 #[.agg #[.bool p, .slice a na ca], .agg #[.bool q, .slice b nb cb]] w fun e w' => ∃ f c n d f' c' n' d', e = .returned (.tuple #[.agg #[.bool f, .slice c n d], .agg #[.bool f', .slice c' n' d']]) ∧ GI w' w.heap.size (.agg #[.bool f, .slice c n d]) (flQ p q m k) (2 * S + 1) ∧ GI w' w.heap.size (.agg #[.bool f', .slice c' n' d']) (flR p q m k) (2 * S + 1) ∧ Below w.heap.size w w' := by
  have HQ : Hid (flQ p q m k = ws (p != q) (m / k) - 1) := by show _ = _; unfold flQ; rw [if_pos hs]
  have HR : Hid (flR p q m k = ws p (m % k) + ws q k) := by show _ = _; unfold flR; rw [if_pos hs]
  have hb00 := hb
  obtain ⟨P0, P1, R0, R1, hb0, hsz⟩ := box4 w (.bool p) (.slice a na ca) (.bool q) (.slice b nb cb) (.bool false) (.slice none 0 0) (.bool false) (.slice none 0 0) 25
  replace ha := ha.below hb0
  replace hb := hb.below hb0
  go_enter Tryz.func88, Tryz.ntmps88
  go_wp2_with fail
  generalize (((w.alloc (.cells #[.bool p, .slice a na ca] 25)).alloc (.cells #[.bool q, .slice b nb cb] 25)).alloc (.cells #[.bool false, .slice none 0 0] 25)).alloc (.cells #[.bool false, .slice none 0 0] 25) = W0 at *
  obtain ⟨p00, p01, p02, p03⟩ := id P0
  obtain ⟨p10, p11, p12, p13⟩ := id P1
  refine (rquoI p q _ ha hb (by omega) hk).mono ?_
  rintro e w1 ⟨f1, c1, n1, d1, f2, c2, n2, d2, rfl, G1, G2, hx⟩
  have HG2 : Hid (∀ g, (Value.slice c2 n2 d2).ownBlock = some g → g < w1.heap.size) := fun g hg => (G2.parts.2.lt g hg).2
  obtain ⟨Q', hQ'⟩ : ∃ z, ws (p != q) (m / k) = z := ⟨_, rfl⟩
  obtain ⟨R', hR'⟩ : ∃ z, ws p (m % k) = z := ⟨_, rfl⟩
  have E1 : Hid (ws (p != q) (m / k) = Q') := hQ'
  have E2 : Hid (ws p (m % k) = R') := hR'
  rw [hQ'] at G1
  rw [hR'] at G2 hs
  clear hQ' hR'
  replace P1 := P1.below hx
  replace R0 := R0.below hx
  replace R1 := R1.below hx
  replace hb := hb.below hx
  replace hb0 := bel_tr hb0 hx
  have hs1 := hx.size
  clear hx p00 p01 p02 p03 p10 p11 p12 p13 P0 ha
  obtain ⟨V6, V7, hx, hsx⟩ := box2 w1 (.bool f1) (.slice c1 n1 d1) (.bool f2) (.slice c2 n2 d2) 25
  replace P1 := P1.below hx
  replace R0 := R0.below hx
  replace R1 := R1.below hx
  replace hb := hb.below hx
  replace G1 := G1.below hx
  replace G2 := G2.below hx
  replace hb0 := bel_tr hb0 hx
  obtain ⟨p10, p11, p12, p13⟩ := id P1
  obtain ⟨u0, u1, u2, u3⟩ := id V7
  clear hx
  go_wp2_with fail
  generalize (w1.alloc (.cells #[.bool f1, .slice c1 n1 d1] 25)).alloc (.cells #[.bool f2, .slice c2 n2 d2] 25) = w2 at *
  obtain ⟨e2, K2⟩ := id G2.parts
  have HR2 : Hid (ws f2 (R'.natAbs : Int) = R') := by show _ = _; rw [e2]; exact ws_sign R'
  clear e2
  refine (rsignI f2 _ K2.num (by omega)).mono ?_
  rw [HR2.out]
  rintro e w3 ⟨rfl, hx⟩
  replace P1 := P1.below hx
  replace R0 := R0.below hx
  replace R1 := R1.below hx
  replace hb := hb.below hx
  replace G1 := G1.below hx
  replace G2 := G2.below hx
  replace V6 := V6.below hx
  replace V7 := V7.below hx
  replace hb0 := bel_tr hb0 hx
  have hs3 := hx.size
  clear hx p10 p11 p12 p13 u0 u1 u2 u3 K2
  obtain ⟨p10, p11, p12, p13⟩ := id P1
  go_wp2_with fail
  refine (rsignI q _ hb (by omega)).mono ?_
  rintro e w4 ⟨rfl, hx⟩
  replace P1 := P1.below hx
  replace R0 := R0.below hx
  replace R1 := R1.below hx
  replace hb := hb.below hx
  replace G1 := G1.below hx
  replace G2 := G2.below hx
  replace V6 := V6.below hx
  replace V7 := V7.below hx
  replace hb0 := bel_tr hb0 hx
  have hs4 := hx.size
  clear hx p10 p11 p12 p13
  obtain ⟨p10, p11, p12, p13⟩ := id P1
  obtain ⟨v0, v1, v2, v3⟩ := id V6
  obtain ⟨u0, u1, u2, u3⟩ := id V7
  have hpr := sign_prod R' (ws q k)
  have hww : IntKind.i64.wrap (R'.sign * (ws q k).sign) = R'.sign * (ws q k).sign := sign_wrap R' (ws q k)
  generalize R'.sign = s1 at *
  generalize (ws q k).sign = s2 at *
  have hwr : IntKind.i64.wrap (s1 * s2) = -1 := by rw [hww]; omega
  clear hpr hww hs
  go_wp2_with fail
  refine wp_region_guard (Till 3 3 (fun w' => w'.cell? ⟨w1.heap.size, 0, none⟩ = some (.bool f1) ∧ w'.cell? ⟨w1.heap.size, 1, none⟩ = some (.slice c1 n1 d1)) (fun _ => True)) (by kernel_rfl) ?_
  refine wpAnyG.take 0 (v := .agg #[.bool f1, .slice c1 n1 d1]) (by decide) (by kernel_rfl) (fun _ _ _ h => h) 3 _ (by rfl) (till_ind (by decide) (by decide)) (fun L w' h1 h2 => h2.1 h1) (by kernel_rfl) (by kernel_rfl) (by kernel_rfl) (by rfl) ?y1 ⟨fun _ => ⟨v0, v1⟩, fun _ => trivial⟩ (by rfl) ?_
  case y1 =>
    rintro w' ⟨s0, s1⟩
    simp only [List.getElem_toArray, List.getElem_cons_zero]
    go_simp
  simp only [List.getElem_toArray, List.getElem_cons_zero, Act.put, List.setIfInBounds_toArray, List.set_cons_zero, List.set_cons_succ]
  refine wpAnyG.one 1 (by kernel_rfl) (by decide) (by rfl) (fun K hK => ?_)
  simp only [List.getElem_toArray, List.getElem_cons_zero, List.getElem_cons_succ]
  go_simp
  refine (rofI 1 _ (by omega) (by omega)).mono ?_
  rintro e w5 ⟨f3, c3, n3, d3, rfl, G3, hb5⟩
  have hx : Below w4.heap.size w4 w5 := bel_tr (belN (Below.refl _ w4) 1) hb5
  replace P1 := P1.below hx
  replace R0 := R0.below hx
  replace R1 := R1.below hx
  replace hb := hb.below hx
  replace G1 := G1.below hx
  replace G2 := G2.below hx
  replace V6 := V6.below hx
  replace V7 := V7.below hx
  replace hb0 := bel_tr hb0 hx
  have hs5 := hx.size
  clear hx hb5 p10 p11 p12 p13 v0 v1 v2 v3 u0 u1 u2 u3
  obtain ⟨v0, v1, v2, v3⟩ := id V6
  dsimp only
  refine hK _ _ ⟨fun _ => ⟨v0, v1⟩, fun _ => trivial⟩ ?_
  clear hK K
  refine wpAnyG.one 2 (by kernel_rfl) (by decide) (by rfl) (fun K hK => ?_)
  simp only [List.getElem_toArray, List.getElem_cons_zero, List.getElem_cons_succ]
  go_simp
  refine (rsubT _ G1.ti (G3.le (S' := S) (by omega)).ti (by omega)).mono ?_
  rintro e w6 ⟨f4, c4, n4, d4, rfl, G4, hx⟩
  replace P1 := P1.below hx
  replace R0 := R0.below hx
  replace R1 := R1.below hx
  replace hb := hb.below hx
  replace G2 := G2.below hx
  replace V6 := V6.below hx
  replace V7 := V7.below hx
  replace hb0 := bel_tr hb0 hx
  have hs6 := hx.size
  clear hx v0 v1 v2 v3 G3 G1
  obtain ⟨v0, v1, v2, v3⟩ := id V6
  dsimp only
  refine hK _ _ ⟨fun _ => ⟨v0, v1⟩, fun _ => trivial⟩ ?_
  clear hK K
  refine wpAnyG.one 3 (by kernel_rfl) (by decide) (by rfl) (fun K hK => ?_)
  simp only [List.getElem_toArray, List.getElem_cons_zero, List.getElem_cons_succ]
  go_simp
  obtain ⟨V6', O⟩ := V6.set (.bool f4) (.slice c4 n4 d4)
  replace P1 := P1.off O (by omega)
  replace R0 := R0.off O (by omega)
  replace R1 := R1.off O (by omega)
  replace V7 := V7.off O (by omega)
  replace G4 := G4.off O (by omega)
  replace hb0 := hb0.trans (O.below (by omega))
  have hbN := hb00.below hb0
  replace G2 := G2.off_ne O (fun g hg => by have := HG2.out g hg; omega)
  refine hK _ _ ⟨fun h => absurd h (by decide), fun h => absurd h (by decide)⟩ ?_
  clear hK K v0 v1 v2 v3 V6
  refine wpAnyG.done (by kernel_rfl) ?_
  obtain ⟨p10, p11, p12, p13⟩ := id P1
  obtain ⟨u0, u1, u2, u3⟩ := id V7
  have hsO := O.size
  clear hb
  go_wp2_with fail
  generalize ((w6.setCell ⟨w1.heap.size, 0, none⟩ (.bool f4)).setCell ⟨w1.heap.size, 1, none⟩ (.slice c4 n4 d4)) = w7 at *
  have HY : Hid (TI w7 q b nb cb (ws q k) S) := ⟨_, hbN, rfl⟩
  refine (raddT _ G2.ti HY.out (by omega)).mono ?_
  rintro e w8 ⟨f5, c5, n5, d5, rfl, G5, hx⟩
  replace R0 := R0.below hx
  replace R1 := R1.below hx
  replace V6' := V6'.below hx
  replace V7 := V7.below hx
  replace G4 := G4.below hx
  replace hb0 := bel_tr hb0 hx
  have hs8 := hx.size
  clear hx p10 p11 p12 p13 u0 u1 u2 u3 P1 hbN HY G2
  obtain ⟨u0, u1, u2, u3⟩ := id V7
  obtain ⟨V7', O7⟩ := V7.set (.bool f5) (.slice c5 n5 d5)
  replace R0 := R0.off O7 (by omega)
  replace R1 := R1.off O7 (by omega)
  replace V6' := V6'.off O7 (by omega)
  replace G4 := (G4.mono (B' := w1.heap.size + 2) (by omega)).off O7 (by omega)
  replace G5 := (G5.mono (B' := w1.heap.size + 2) (by omega)).off O7 (by omega)
  replace hb0 := hb0.trans (O7.below (by omega))
  have hs9 := O7.size
  have GQ := G4.val (show _ = flQ p q m k by rw [HQ.out, E1.out])
  have GR := G5.val (show _ = flR p q m k by rw [HR.out, E2.out])
  clear V7 O7 G4 G5
  go_wp2_with fail
  generalize ((w8.setCell ⟨w1.heap.size + 1, 0, none⟩ (.bool f5)).setCell ⟨w1.heap.size + 1, 1, none⟩ (.slice c5 n5 d5)) = w9 at *
  clear u0 u1 u2 u3
  obtain ⟨v0, v1, v2, v3⟩ := id V6'
  obtain ⟨u0, u1, u2, u3⟩ := id V7'
  obtain ⟨r0, r1, r2, r3⟩ := id R0
  obtain ⟨t0, t1, t2, t3⟩ := id R1
  go_region
  obtain ⟨V, O⟩ := R0.set (.bool f4) (.slice c4 n4 d4)
  have R1' := R1.off O (by omega)
  obtain ⟨Va, Oa⟩ := R1'.set (.bool f5) (.slice c5 n5 d5)
  have Vb := V.off Oa (by omega)
  have hwH := (hb0.trans (O.below (by omega))).trans (Oa.below (by omega))
  have E1 : GI _ (w.heap.size + 4) (.agg #[.bool f4, .slice c4 n4 d4]) (flQ p q m k) (2 * S + 1) := (((GQ).mono (B' := w.heap.size + 4) (by omega)).off O (by omega)).off Oa (by omega)
  have E2 : GI _ (w.heap.size + 4) (.agg #[.bool f5, .slice c5 n5 d5]) (flR p q m k) (2 * S + 1) := (((GR).mono (B' := w.heap.size + 4) (by omega)).off O (by omega)).off Oa (by omega)
  generalize (((w9.setCell ⟨w.heap.size + 2, 0, none⟩ (.bool f4)).setCell ⟨w.heap.size + 2, 1, none⟩ (.slice c4 n4 d4)).setCell ⟨w.heap.size + 3, 0, none⟩ (.bool f5)).setCell ⟨w.heap.size + 3, 1, none⟩ (.slice c5 n5 d5) = wH at *
  clear R0 R1 R1' V O Oa hb0 v0 v1 v2 v3 u0 u1 u2 u3 r0 r1 r2 r3 t0 t1 t2 t3 V6' V7' GQ GR
  go_wp2
  have Vb' : Var2 wH.drew (w.heap.size + 2) (.bool f4) (.slice c4 n4 d4) := Vb.below (belN (Below.refl _ _) 1)
  have Va' : Var2 wH.drew (w.heap.size + 3) (.bool f5) (.slice c5 n5 d5) := Va.below (belN (Below.refl _ _) 1)
  refine bodyPost_ret (v := .tuple #[.agg #[.bool f4, .slice c4 n4 d4], .agg #[.bool f5, .slice c5 n5 d5]]) (by simp [results, Tryz.results88, go_sem, Vb'.c0, Vb'.c1, Va'.c0, Va'.c1]) rfl ⟨_, _, _, _, _, _, _, _, rfl, (E1.below (belN (Below.refl _ _) 1)).mono (by omega), (E2.below (belN (Below.refl _ _) 1)).mono (by omega), belN hwH 1⟩
set_option maxHeartbeats 2000000 in
theorem rdiv2 {a b : Option Addr} {na nb ca cb : Nat} {m k : Int} {S : Nat} (p q : Bool) (w : World) (ha : Num w a na ca m S) (hb : Num w b nb cb k S) (hS : S ≤ 2000000) (hk : 0 < k) (hS1 : 1 ≤ S) (hs : ¬ (ws p (m % k)).sign * (ws q k).sign < 0) :
    Calls Tryz.prog 88 #[.agg #[.bool p, .slice a na ca], .agg #[.bool q, .slice b nb cb]] w fun e w' => ∃ f c n d f' c' n' d', e = .returned (.tuple #[.agg #[.bool f, .slice c n d], .agg #[.bool f', .slice c' n' d']]) ∧ GI w' w.heap.size (.agg #[.bool f, .slice c n d]) (flQ p q m k) (2 * S + 1) ∧ GI w' w.heap.size (.agg #[.bool f', .slice c' n' d']) (flR p q m k) (2 * S + 1) ∧ Below w.heap.size w w' := by
  have HQ : Hid (flQ p q m k = ws (p != q) (m / k)) := by show _ = _; unfold flQ; rw [if_neg hs]
  have HR : Hid (flR p q m k = ws p (m % k)) := by show _ = _; unfold flR; rw [if_neg hs]
  have hb00 := hb
  obtain ⟨P0, P1, R0, R1, hb0, hsz⟩ := box4 w (.bool p) (.slice a na ca) (.bool q) (.slice b nb cb) (.bool false) (.slice none 0 0) (.bool false) (.slice none 0 0) 25
  replace ha := ha.below hb0
  replace hb := hb.below hb0
  go_enter Tryz.func88, Tryz.ntmps88
  go_wp2_with fail
  generalize (((w.alloc (.cells #[.bool p, .slice a na ca] 25)).alloc (.cells #[.bool q, .slice b nb cb] 25)).alloc (.cells #[.bool false, .slice none 0 0] 25)).alloc (.cells #[.bool false, .slice none 0 0] 25) = W0 at *
  obtain ⟨p00, p01, p02, p03⟩ := id P0
  obtain ⟨p10, p11, p12, p13⟩ := id P1
  refine (rquoI p q _ ha hb (by omega) hk).mono ?_
  rintro e w1 ⟨f1, c1, n1, d1, f2, c2, n2, d2, rfl, G1, G2, hx⟩
  have HG2 : Hid (∀ g, (Value.slice c2 n2 d2).ownBlock = some g → g < w1.heap.size) := fun g hg => (G2.parts.2.lt g hg).2
  obtain ⟨Q', hQ'⟩ : ∃ z, ws (p != q) (m / k) = z := ⟨_, rfl⟩
  obtain ⟨R', hR'⟩ : ∃ z, ws p (m % k) = z := ⟨_, rfl⟩
  have E1 : Hid (ws (p != q) (m / k) = Q') := hQ'
  have E2 : Hid (ws p (m % k) = R') := hR'
  rw [hQ'] at G1
  rw [hR'] at G2 hs
  clear hQ' hR'
  replace P1 := P1.below hx
  replace R0 := R0.below hx
  replace R1 := R1.below hx
  replace hb := hb.below hx
  replace hb0 := bel_tr hb0 hx
  have hs1 := hx.size
  clear hx p00 p01 p02 p03 p10 p11 p12 p13 P0 ha
  obtain ⟨V6, V7, hx, hsx⟩ := box2 w1 (.bool f1) (.slice c1 n1 d1) (.bool f2) (.slice c2 n2 d2) 25
  replace P1 := P1.below hx
  replace R0 := R0.below hx
  replace R1 := R1.below hx
  replace hb := hb.below hx
  replace G1 := G1.below hx
  replace G2 := G2.below hx
  replace hb0 := bel_tr hb0 hx
  obtain ⟨p10, p11, p12, p13⟩ := id P1
  obtain ⟨u0, u1, u2, u3⟩ := id V7
  clear hx
  go_wp2_with fail
  generalize (w1.alloc (.cells #[.bool f1, .slice c1 n1 d1] 25)).alloc (.cells #[.bool f2, .slice c2 n2 d2] 25) = w2 at *
  obtain ⟨e2, K2⟩ := id G2.parts
  have HR2 : Hid (ws f2 (R'.natAbs : Int) = R') := by show _ = _; rw [e2]; exact ws_sign R'
  clear e2
  refine (rsignI f2 _ K2.num (by omega)).mono ?_
  rw [HR2.out]
  rintro e w3 ⟨rfl, hx⟩
  replace P1 := P1.below hx
  replace R0 := R0.below hx
  replace R1 := R1.below hx
  replace hb := hb.below hx
  replace G1 := G1.below hx
  replace G2 := G2.below hx
  replace V6 := V6.below hx
  replace V7 := V7.below hx
  replace hb0 := bel_tr hb0 hx
  have hs3 := hx.size
  clear hx p10 p11 p12 p13 u0 u1 u2 u3 K2
  obtain ⟨p10, p11, p12, p13⟩ := id P1
  go_wp2_with fail
  refine (rsignI q _ hb (by omega)).mono ?_
  rintro e w4 ⟨rfl, hx⟩
  replace P1 := P1.below hx
  replace R0 := R0.below hx
  replace R1 := R1.below hx
  replace hb := hb.below hx
  replace G1 := G1.below hx
  replace G2 := G2.below hx
  replace V6 := V6.below hx
  replace V7 := V7.below hx
  replace hb0 := bel_tr hb0 hx
  have hs4 := hx.size
  clear hx p10 p11 p12 p13
  obtain ⟨p10, p11, p12, p13⟩ := id P1
  obtain ⟨v0, v1, v2, v3⟩ := id V6
  obtain ⟨u0, u1, u2, u3⟩ := id V7
  have hpr := sign_prod R' (ws q k)
  have hww : IntKind.i64.wrap (R'.sign * (ws q k).sign) = R'.sign * (ws q k).sign := sign_wrap R' (ws q k)
  generalize R'.sign = s1 at *
  generalize (ws q k).sign = s2 at *
  have GQ := (G1.le (S' := 2 * S + 1) (by omega)).val (show _ = flQ p q m k by rw [HQ.out, E1.out])
  have GR := (G2.le (S' := 2 * S + 1) (by omega)).val (show _ = flR p q m k by rw [HR.out, E2.out])
  have hwr : 0 ≤ s1 * s2 := by omega
  obtain ⟨z, hz⟩ : ∃ z, s1 * s2 = z := ⟨_, rfl⟩
  rw [hz] at hwr hww
  have hwz : IntKind.i64.wrap (s1 * s2) = z := by rw [hz]; exact hww
  have hzz : ¬ z < 0 := by omega
  clear hz hww hpr hs G1 G2 p10 p11 p12 p13 P1 hb v0 v1 v2 v3 u0 u1 u2 u3
  obtain ⟨v0, v1, v2, v3⟩ := id V6
  obtain ⟨u0, u1, u2, u3⟩ := id V7
  obtain ⟨r0, r1, r2, r3⟩ := id R0
  obtain ⟨t0, t1, t2, t3⟩ := id R1
  go_wp2_with fail
  go_region
  obtain ⟨V, O⟩ := R0.set (.bool f1) (.slice c1 n1 d1)
  have R1' := R1.off O (by omega)
  obtain ⟨Va, Oa⟩ := R1'.set (.bool f2) (.slice c2 n2 d2)
  have Vb := V.off Oa (by omega)
  have hwH := (hb0.trans (O.below (by omega))).trans (Oa.below (by omega))
  have E1 : GI _ (w.heap.size + 4) (.agg #[.bool f1, .slice c1 n1 d1]) (flQ p q m k) (2 * S + 1) := (((GQ).mono (B' := w.heap.size + 4) (by omega)).off O (by omega)).off Oa (by omega)
  have E2 : GI _ (w.heap.size + 4) (.agg #[.bool f2, .slice c2 n2 d2]) (flR p q m k) (2 * S + 1) := (((GR).mono (B' := w.heap.size + 4) (by omega)).off O (by omega)).off Oa (by omega)
  generalize (((w4.setCell ⟨w.heap.size + 2, 0, none⟩ (.bool f1)).setCell ⟨w.heap.size + 2, 1, none⟩ (.slice c1 n1 d1)).setCell ⟨w.heap.size + 3, 0, none⟩ (.bool f2)).setCell ⟨w.heap.size + 3, 1, none⟩ (.slice c2 n2 d2) = wH at *
  clear R0 R1 R1' V O Oa hb0 v0 v1 v2 v3 u0 u1 u2 u3 r0 r1 r2 r3 t0 t1 t2 t3 V6 V7 GQ GR
  go_wp2
  have Vb' : Var2 wH.drew (w.heap.size + 2) (.bool f1) (.slice c1 n1 d1) := Vb.below (belN (Below.refl _ _) 1)
  have Va' : Var2 wH.drew (w.heap.size + 3) (.bool f2) (.slice c2 n2 d2) := Va.below (belN (Below.refl _ _) 1)
  refine bodyPost_ret (v := .tuple #[.agg #[.bool f1, .slice c1 n1 d1], .agg #[.bool f2, .slice c2 n2 d2]]) (by simp [results, Tryz.results88, go_sem, Vb'.c0, Vb'.c1, Va'.c0, Va'.c1]) rfl ⟨_, _, _, _, _, _, _, _, rfl, (E1.below (belN (Below.refl _ _) 1)).mono (by omega), (E2.below (belN (Below.refl _ _) 1)).mono (by omega), belN hwH 1⟩
theorem rdivI {a b : Option Addr} {na nb ca cb : Nat} {m k : Int} {S : Nat} (p q : Bool) (w : World) (ha : Num w a na ca m S) (hb : Num w b nb cb k S) (hS : S ≤ 2000000) (hk : 0 < k) (hS1 : 1 ≤ S) :
    Calls Tryz.prog 88 #[.agg #[.bool p, .slice a na ca], .agg #[.bool q, .slice b nb cb]] w fun e w' => ∃ f c n d f' c' n' d', e = .returned (.tuple #[.agg #[.bool f, .slice c n d], .agg #[.bool f', .slice c' n' d']]) ∧ GI w' w.heap.size (.agg #[.bool f, .slice c n d]) (flQ p q m k) (2 * S + 1) ∧ GI w' w.heap.size (.agg #[.bool f', .slice c' n' d']) (flR p q m k) (2 * S + 1) ∧ Below w.heap.size w w' := by
  by_cases hs : (ws p (m % k)).sign * (ws q k).sign < 0
  · exact rdiv1 p q w ha hb hS hk hS1 hs
  · exact rdiv2 p q w ha hb hS hk hS1 hs
end Go.Proofs.YtfaccnmiopcneaaGreatDoor

import Derived.Test.YtfelogbfijomiaaDoorR2T
import Derived.Test.YtfelogbfijomiaaDoorR2D
import Derived.Test.YtfelogbfijomiaaDoorTIneg
import Derived.Test.YtfelogbfijomiaaDoorTIabs
namespace Go.Proofs.YtfelogbfijomiaaDoor
open Go.RowKit
attribute [local go_sem ↓] Go.wp_at_zero Go.wp_at_succ

set_option maxRecDepth 100000 in
set_option maxHeartbeats 4000000 in
theorem ord_walk {a b : Option Addr} {p q : Bool} {na nb ca cb : Nat} {x y : Int} (w : World) (ha : TI w p a na ca x 1048576) (hb : TI w q b nb cb y 1048576) :
    Calls Tryd.prog 5 #[.agg #[.bool p, .slice a na ca], .agg #[.bool q, .slice b nb cb]] w fun e w' => e = .returned (.bool true) ∧ Below w.heap.size w w' := by
  obtain ⟨m, ⟨xs, hnx, hlx, hrx, hAx, rfl, hSx⟩, hX⟩ := id ha
  obtain ⟨k, ⟨ys, hny, hly, hry, hAy, rfl, hSy⟩, hY⟩ := id hb
  have HX : Hid (ws p (val xs) = x) := hX
  have HY : Hid (ws q (val ys) = y) := hY
  have Hnx : Hid (na = xs.length) := hnx
  have Hny : Hid (nb = ys.length) := hny
  have Kx : xs.length ≤ 1048576 := by omega
  have Ky : ys.length ≤ 1048576 := by omega
  clear hX hY hnx hny
  obtain ⟨P0, P1, hb0, hsz⟩ := box2 w (.bool p) (.slice a na ca) (.bool q) (.slice b nb cb) 25
  have A0 := ha
  have B0 := hb
  replace ha := ha.below hb0
  replace hb := hb.below hb0
  replace hrx := hrx.below hb0
  replace hry := hry.below hb0
  go_enter Tryd.func5, Tryd.ntmps5
  go_wp2_with fail
  generalize (w.alloc (.cells #[.bool p, .slice a na ca] 25)).alloc (.cells #[.bool q, .slice b nb cb] 25) = W0 at *
  obtain ⟨p0c0, p0c1, p0c2, p0c3⟩ := id P0
  obtain ⟨p1c0, p1c1, p1c2, p1c3⟩ := id P1
  refine (awakeI _).mono ?_
  rintro e w1 ⟨rfl, hx⟩
  clear p0c0 p0c1 p0c2 p0c3 p1c0 p1c1 p1c2 p1c3
  replace P0 := P0.below hx
  replace P1 := P1.below hx
  replace ha := ha.below hx
  replace hb := hb.below hx
  replace hrx := hrx.below hx
  replace hry := hry.below hx
  replace hb0 := bel_tr hb0 hx
  have hsw1 : W0.heap.size ≤ w1.heap.size := Below.size hx
  clear hx
  obtain ⟨p0c0, p0c1, p0c2, p0c3⟩ := id P0
  obtain ⟨p1c0, p1c1, p1c2, p1c3⟩ := id P1
  go_wp2_with fail
  refine (lendI p xs _ Hnx.out hlx (by omega) hrx).mono ?_
  rintro e w2 ⟨r1, b1, rfl, L1, hl1, hx⟩
  clear p0c0 p0c1 p0c2 p0c3 p1c0 p1c1 p1c2 p1c3
  replace P0 := P0.below hx
  replace P1 := P1.below hx
  replace ha := ha.below hx
  replace hb := hb.below hx
  replace hrx := hrx.below hx
  replace hry := hry.below hx
  replace hb0 := bel_tr hb0 hx
  have hsw2 : w1.heap.size ≤ w2.heap.size := Below.size hx
  clear hx
  obtain ⟨p0c0, p0c1, p0c2, p0c3⟩ := id P0
  obtain ⟨p1c0, p1c1, p1c2, p1c3⟩ := id P1
  go_wp2_with fail
  refine (lendI q ys _ Hny.out hly (by omega) hry).mono ?_
  rintro e w3 ⟨r2, b2, rfl, L2, hl2, hx⟩
  clear p0c0 p0c1 p0c2 p0c3 p1c0 p1c1 p1c2 p1c3
  replace P0 := P0.below hx
  replace P1 := P1.below hx
  replace ha := ha.below hx
  replace hb := hb.below hx
  replace hrx := hrx.below hx
  replace hry := hry.below hx
  replace L1 := L1.below hx
  replace hb0 := bel_tr hb0 hx
  have hsw3 : w2.heap.size ≤ w3.heap.size := Below.size hx
  clear hx
  obtain ⟨p0c0, p0c1, p0c2, p0c3⟩ := id P0
  obtain ⟨p1c0, p1c1, p1c2, p1c3⟩ := id P1
  clear hrx hry
  have hg1 : b1.gf < w3.heap.size ∧ b1.gw < w3.heap.size := by have := L1.lf; have := L1.lw; have := L1.lt; omega
  have hg2 : w.heap.size + 2 ≤ b1.gf ∧ w.heap.size + 2 ≤ b1.gw := by have := L1.ls.lf; have := L1.ls.lw; omega
  go_wp2_with fail
  refine (intI _ L1).mono ?_
  rintro e w4 ⟨rfl, hx⟩
  clear p0c0 p0c1 p0c2 p0c3 p1c0 p1c1 p1c2 p1c3
  replace P0 := P0.below hx
  replace P1 := P1.below hx
  replace ha := ha.below hx
  replace hb := hb.below hx
  replace L1 := L1.below hx
  replace L2 := L2.below hx
  replace hb0 := bel_tr hb0 hx
  have hsw4 : w3.heap.size ≤ w4.heap.size := Below.size hx
  clear hx
  obtain ⟨p0c0, p0c1, p0c2, p0c3⟩ := id P0
  obtain ⟨p1c0, p1c1, p1c2, p1c3⟩ := id P1
  go_wp2_with fail
  refine (signT _ (L1.ti hAx (S := 1048576) Kx) (by omega)).mono ?_
  rintro e w5 ⟨rfl, hx⟩
  clear p0c0 p0c1 p0c2 p0c3 p1c0 p1c1 p1c2 p1c3
  replace P0 := P0.below hx
  replace P1 := P1.below hx
  replace ha := ha.below hx
  replace hb := hb.below hx
  replace L1 := L1.below hx
  replace L2 := L2.below hx
  replace hb0 := bel_tr hb0 hx
  have hsw5 : w4.heap.size ≤ w5.heap.size := Below.size hx
  clear hx
  obtain ⟨p0c0, p0c1, p0c2, p0c3⟩ := id P0
  obtain ⟨p1c0, p1c1, p1c2, p1c3⟩ := id P1
  rw [HX.out]
  go_wp2_with fail
  refine (intI _ L1).mono ?_
  rintro e w6 ⟨rfl, hx⟩
  clear p0c0 p0c1 p0c2 p0c3 p1c0 p1c1 p1c2 p1c3
  replace P0 := P0.below hx
  replace P1 := P1.below hx
  replace ha := ha.below hx
  replace hb := hb.below hx
  replace L1 := L1.below hx
  replace L2 := L2.below hx
  replace hb0 := bel_tr hb0 hx
  have hsw6 : w5.heap.size ≤ w6.heap.size := Below.size hx
  clear hx
  obtain ⟨p0c0, p0c1, p0c2, p0c3⟩ := id P0
  obtain ⟨p1c0, p1c1, p1c2, p1c3⟩ := id P1
  go_wp2_with fail
  refine (intI _ L2).mono ?_
  rintro e w7 ⟨rfl, hx⟩
  clear p0c0 p0c1 p0c2 p0c3 p1c0 p1c1 p1c2 p1c3
  replace P0 := P0.below hx
  replace P1 := P1.below hx
  replace ha := ha.below hx
  replace hb := hb.below hx
  replace L1 := L1.below hx
  replace L2 := L2.below hx
  replace hb0 := bel_tr hb0 hx
  have hsw7 : w6.heap.size ≤ w7.heap.size := Below.size hx
  clear hx
  obtain ⟨p0c0, p0c1, p0c2, p0c3⟩ := id P0
  obtain ⟨p1c0, p1c1, p1c2, p1c3⟩ := id P1
  go_wp2_with fail
  refine (cmpT _ (L1.ti hAx (S := 1048576) Kx) (L2.ti hAy (S := 1048576) Ky) (by omega) (by omega)).mono ?_
  rintro e w8 ⟨rfl, hx⟩
  clear p0c0 p0c1 p0c2 p0c3 p1c0 p1c1 p1c2 p1c3
  replace P0 := P0.below hx
  replace P1 := P1.below hx
  replace ha := ha.below hx
  replace hb := hb.below hx
  replace L1 := L1.below hx
  replace L2 := L2.below hx
  replace hb0 := bel_tr hb0 hx
  have hsw8 : w7.heap.size ≤ w8.heap.size := Below.size hx
  clear hx
  obtain ⟨p0c0, p0c1, p0c2, p0c3⟩ := id P0
  obtain ⟨p1c0, p1c1, p1c2, p1c3⟩ := id P1
  rw [HX.out, HY.out]
  go_wp2_with fail
  refine (intI _ L1).mono ?_
  rintro e w9 ⟨rfl, hx⟩
  clear p0c0 p0c1 p0c2 p0c3 p1c0 p1c1 p1c2 p1c3
  replace P0 := P0.below hx
  replace P1 := P1.below hx
  replace ha := ha.below hx
  replace hb := hb.below hx
  replace L1 := L1.below hx
  replace L2 := L2.below hx
  replace hb0 := bel_tr hb0 hx
  have hsw9 : w8.heap.size ≤ w9.heap.size := Below.size hx
  clear hx
  obtain ⟨p0c0, p0c1, p0c2, p0c3⟩ := id P0
  obtain ⟨p1c0, p1c1, p1c2, p1c3⟩ := id P1
  go_wp2_with fail
  refine (intI _ L1).mono ?_
  rintro e w10 ⟨rfl, hx⟩
  clear p0c0 p0c1 p0c2 p0c3 p1c0 p1c1 p1c2 p1c3
  replace P0 := P0.below hx
  replace P1 := P1.below hx
  replace ha := ha.below hx
  replace hb := hb.below hx
  replace L1 := L1.below hx
  replace L2 := L2.below hx
  replace hb0 := bel_tr hb0 hx
  have hsw10 : w9.heap.size ≤ w10.heap.size := Below.size hx
  clear hx
  obtain ⟨p0c0, p0c1, p0c2, p0c3⟩ := id P0
  obtain ⟨p1c0, p1c1, p1c2, p1c3⟩ := id P1
  go_wp2_with fail
  refine (cmpT _ (L1.ti hAx (S := 1048576) Kx) (L1.ti hAx (S := 1048576) Kx) (by omega) (by omega)).mono ?_
  rintro e w11 ⟨rfl, hx⟩
  clear p0c0 p0c1 p0c2 p0c3 p1c0 p1c1 p1c2 p1c3
  replace P0 := P0.below hx
  replace P1 := P1.below hx
  replace ha := ha.below hx
  replace hb := hb.below hx
  replace L1 := L1.below hx
  replace L2 := L2.below hx
  replace hb0 := bel_tr hb0 hx
  have hsw11 : w10.heap.size ≤ w11.heap.size := Below.size hx
  clear hx
  obtain ⟨p0c0, p0c1, p0c2, p0c3⟩ := id P0
  obtain ⟨p1c0, p1c1, p1c2, p1c3⟩ := id P1
  rw [HX.out]
  go_wp2_with fail
  refine (intI _ L1).mono ?_
  rintro e w12 ⟨rfl, hx⟩
  clear p0c0 p0c1 p0c2 p0c3 p1c0 p1c1 p1c2 p1c3
  replace P0 := P0.below hx
  replace P1 := P1.below hx
  replace ha := ha.below hx
  replace hb := hb.below hx
  replace L1 := L1.below hx
  replace L2 := L2.below hx
  replace hb0 := bel_tr hb0 hx
  have hsw12 : w11.heap.size ≤ w12.heap.size := Below.size hx
  clear hx
  obtain ⟨p0c0, p0c1, p0c2, p0c3⟩ := id P0
  obtain ⟨p1c0, p1c1, p1c2, p1c3⟩ := id P1
  go_wp2_with fail
  refine (negT _ (L1.ti hAx (S := 1048576) Kx) (by omega)).mono ?_
  rintro e w13 ⟨f1, c1, n1, d1, rfl, G1, hx⟩
  clear p0c0 p0c1 p0c2 p0c3 p1c0 p1c1 p1c2 p1c3
  replace P0 := P0.below hx
  replace P1 := P1.below hx
  replace ha := ha.below hx
  replace hb := hb.below hx
  replace L1 := L1.below hx
  replace L2 := L2.below hx
  replace hb0 := bel_tr hb0 hx
  have hsw13 : w12.heap.size ≤ w13.heap.size := Below.size hx
  clear hx
  obtain ⟨p0c0, p0c1, p0c2, p0c3⟩ := id P0
  obtain ⟨p1c0, p1c1, p1c2, p1c3⟩ := id P1
  rw [HX.out] at G1
  have q1 : Hid (∀ g, (Value.slice c1 n1 d1).ownBlock = some g → g < w13.heap.size) := fun g hg => (G1.parts.2.lt g hg).2
  obtain ⟨V1, hx, hsx⟩ := box1 w13 (.bool f1) (.slice c1 n1 d1) 25
  clear p0c0 p0c1 p0c2 p0c3 p1c0 p1c1 p1c2 p1c3
  replace P0 := P0.below hx
  replace P1 := P1.below hx
  replace ha := ha.below hx
  replace hb := hb.below hx
  replace L1 := L1.below hx
  replace L2 := L2.below hx
  replace G1 := G1.below hx
  replace hb0 := bel_tr hb0 hx
  have hsw14 : w13.heap.size ≤ (w13.alloc (.cells #[.bool f1, .slice c1 n1 d1] 25)).heap.size := Below.size hx
  clear hx
  obtain ⟨p0c0, p0c1, p0c2, p0c3⟩ := id P0
  obtain ⟨p1c0, p1c1, p1c2, p1c3⟩ := id P1
  obtain ⟨v1c0, v1c1, v1c2, v1c3⟩ := id V1
  go_wp2_with fail
  generalize w13.alloc (.cells #[.bool f1, .slice c1 n1 d1] 25) = w14 at *
  refine (intI _ L1).mono ?_
  rintro e w15 ⟨rfl, hx⟩
  clear p0c0 p0c1 p0c2 p0c3 p1c0 p1c1 p1c2 p1c3 v1c0 v1c1 v1c2 v1c3
  replace P0 := P0.below hx
  replace P1 := P1.below hx
  replace ha := ha.below hx
  replace hb := hb.below hx
  replace L1 := L1.below hx
  replace L2 := L2.below hx
  replace G1 := G1.below hx
  replace V1 := V1.below hx
  replace hb0 := bel_tr hb0 hx
  have hsw15 : w14.heap.size ≤ w15.heap.size := Below.size hx
  clear hx
  obtain ⟨p0c0, p0c1, p0c2, p0c3⟩ := id P0
  obtain ⟨p1c0, p1c1, p1c2, p1c3⟩ := id P1
  obtain ⟨v1c0, v1c1, v1c2, v1c3⟩ := id V1
  go_wp2_with fail
  refine (absT _ (L1.ti hAx (S := 1048576) Kx) (by omega)).mono ?_
  rintro e w16 ⟨c2, n2, d2, rfl, G2, hx⟩
  clear p0c0 p0c1 p0c2 p0c3 p1c0 p1c1 p1c2 p1c3 v1c0 v1c1 v1c2 v1c3
  replace P0 := P0.below hx
  replace P1 := P1.below hx
  replace ha := ha.below hx
  replace hb := hb.below hx
  replace L1 := L1.below hx
  replace L2 := L2.below hx
  replace G1 := G1.below hx
  replace V1 := V1.below hx
  replace hb0 := bel_tr hb0 hx
  have hsw16 : w15.heap.size ≤ w16.heap.size := Below.size hx
  clear hx
  obtain ⟨p0c0, p0c1, p0c2, p0c3⟩ := id P0
  obtain ⟨p1c0, p1c1, p1c2, p1c3⟩ := id P1
  obtain ⟨v1c0, v1c1, v1c2, v1c3⟩ := id V1
  rw [HX.out] at G2
  replace G2 := G2.gi0
  have q2 : Hid (∀ g, (Value.slice c2 n2 d2).ownBlock = some g → g < w16.heap.size) := fun g hg => (G2.parts.2.lt g hg).2
  obtain ⟨V2, hx, hsx⟩ := box1 w16 (.bool false) (.slice c2 n2 d2) 25
  clear p0c0 p0c1 p0c2 p0c3 p1c0 p1c1 p1c2 p1c3 v1c0 v1c1 v1c2 v1c3
  replace P0 := P0.below hx
  replace P1 := P1.below hx
  replace ha := ha.below hx
  replace hb := hb.below hx
  replace L1 := L1.below hx
  replace L2 := L2.below hx
  replace G1 := G1.below hx
  replace V1 := V1.below hx
  replace G2 := G2.below hx
  replace hb0 := bel_tr hb0 hx
  have hsw17 : w16.heap.size ≤ (w16.alloc (.cells #[.bool false, .slice c2 n2 d2] 25)).heap.size := Below.size hx
  clear hx
  obtain ⟨p0c0, p0c1, p0c2, p0c3⟩ := id P0
  obtain ⟨p1c0, p1c1, p1c2, p1c3⟩ := id P1
  obtain ⟨v1c0, v1c1, v1c2, v1c3⟩ := id V1
  obtain ⟨v2c0, v2c1, v2c2, v2c3⟩ := id V2
  go_wp2_with fail
  generalize w16.alloc (.cells #[.bool false, .slice c2 n2 d2] 25) = w17 at *
  go_region_held3 (fun w' => w'.cell? ⟨w13.heap.size, 0, none⟩ = some (.bool f1) ∧ w'.cell? ⟨w13.heap.size, 1, none⟩ = some (.slice c1 n1 d1) ∧ w'.cell? ⟨w.heap.size, 0, none⟩ = some (.bool p) ∧ w'.cell? ⟨w.heap.size, 1, none⟩ = some (.slice a na ca))
      (first | (go_keep; done) | (refine ⟨?_, ?_, ?_, ?_⟩ <;> first | exact kept_c hb2 (by go_keep) | exact kept_c hb1 (by go_keep)))
      ((first
        | (go_at_call 30; go_fit (rnegT _ (ha.drewN _) (by omega)); rintro e w18_1 ⟨f3, c3, n3, d3, rfl, G3, hb1⟩; have hd1 : Below w17.heap.size w17 w18_1 := (by first | exact hb1 | exact bel_tr (belN (Below.refl _ w17) 1) hb1); have hc1 := hd1)
        | (go_at_call 23; go_fit (rsameI _ (G1.below hc1) G3 (by omega) rfl); rintro e w18_2 ⟨rfl, hb2⟩; have hd2 : Below w18_1.heap.size w18_1 w18_2 := (by first | exact hb2 | exact bel_tr (belN (Below.refl _ w18_1) 1) hb2); have hc2 := bel_tr hc1 hd2)))
  have hx := hc2
  clear p0c0 p0c1 p0c2 p0c3 p1c0 p1c1 p1c2 p1c3 v1c0 v1c1 v1c2 v1c3 v2c0 v2c1 v2c2 v2c3
  replace P0 := P0.below hx
  replace P1 := P1.below hx
  replace ha := ha.below hx
  replace hb := hb.below hx
  replace L1 := L1.below hx
  replace L2 := L2.below hx
  replace G1 := G1.below hx
  replace V1 := V1.below hx
  replace G2 := G2.below hx
  replace V2 := V2.below hx
  replace hb0 := bel_tr hb0 hx
  have hsw18_2 : w17.heap.size ≤ w18_2.heap.size := Below.size hx
  clear hx
  obtain ⟨p0c0, p0c1, p0c2, p0c3⟩ := id P0
  obtain ⟨p1c0, p1c1, p1c2, p1c3⟩ := id P1
  obtain ⟨v1c0, v1c1, v1c2, v1c3⟩ := id V1
  obtain ⟨v2c0, v2c1, v2c2, v2c3⟩ := id V2
  clear hb1 hc1 hd1 hb2 hc2 hd2
  clear G3
  go_wp2_with fail
  go_region_held3 (fun w' => w'.cell? ⟨w16.heap.size, 0, none⟩ = some (.bool false) ∧ w'.cell? ⟨w16.heap.size, 1, none⟩ = some (.slice c2 n2 d2) ∧ w'.cell? ⟨w.heap.size, 0, none⟩ = some (.bool p) ∧ w'.cell? ⟨w.heap.size, 1, none⟩ = some (.slice a na ca))
      (first | (go_keep; done) | (refine ⟨?_, ?_, ?_, ?_⟩ <;> first | exact kept_c hb2 (by go_keep) | exact kept_c hb1 (by go_keep)))
      ((first
        | (go_at_call 31; go_fit (rabsT _ (ha.drewN _) (by omega)); rintro e w19_1 ⟨c3, n3, d3, rfl, G3, hb1⟩; have hd1 : Below w18_2.heap.size w18_2 w19_1 := (by first | exact hb1 | exact bel_tr (belN (Below.refl _ w18_2) 1) hb1); have hc1 := hd1)
        | (go_at_call 23; go_fit (rsameI _ (G2.below hc1) G3.gi0 (by omega) rfl); rintro e w19_2 ⟨rfl, hb2⟩; have hd2 : Below w19_1.heap.size w19_1 w19_2 := (by first | exact hb2 | exact bel_tr (belN (Below.refl _ w19_1) 1) hb2); have hc2 := bel_tr hc1 hd2)))
  have hx := hc2
  clear p0c0 p0c1 p0c2 p0c3 p1c0 p1c1 p1c2 p1c3 v1c0 v1c1 v1c2 v1c3 v2c0 v2c1 v2c2 v2c3
  replace P0 := P0.below hx
  replace P1 := P1.below hx
  replace ha := ha.below hx
  replace hb := hb.below hx
  replace L1 := L1.below hx
  replace L2 := L2.below hx
  replace G1 := G1.below hx
  replace V1 := V1.below hx
  replace G2 := G2.below hx
  replace V2 := V2.below hx
  replace hb0 := bel_tr hb0 hx
  have hsw19_2 : w18_2.heap.size ≤ w19_2.heap.size := Below.size hx
  clear hx
  obtain ⟨p0c0, p0c1, p0c2, p0c3⟩ := id P0
  obtain ⟨p1c0, p1c1, p1c2, p1c3⟩ := id P1
  obtain ⟨v1c0, v1c1, v1c2, v1c3⟩ := id V1
  obtain ⟨v2c0, v2c1, v2c2, v2c3⟩ := id V2
  clear hb1 hc1 hd1 hb2 hc2 hd2
  clear G3
  go_wp2_with fail
  refine (keptI _ L1 (by omega)).mono ?_
  rintro e w20 ⟨rfl, hx⟩
  clear p0c0 p0c1 p0c2 p0c3 p1c0 p1c1 p1c2 p1c3 v1c0 v1c1 v1c2 v1c3 v2c0 v2c1 v2c2 v2c3
  replace P0 := P0.below hx
  replace P1 := P1.below hx
  replace ha := ha.below hx
  replace hb := hb.below hx
  replace L1 := L1.below hx
  replace L2 := L2.below hx
  replace G1 := G1.below hx
  replace V1 := V1.below hx
  replace G2 := G2.below hx
  replace V2 := V2.below hx
  replace hb0 := bel_tr hb0 hx
  have hsw20 : w19_2.heap.size ≤ w20.heap.size := Below.size hx
  clear hx
  obtain ⟨p0c0, p0c1, p0c2, p0c3⟩ := id P0
  obtain ⟨p1c0, p1c1, p1c2, p1c3⟩ := id P1
  obtain ⟨v1c0, v1c1, v1c2, v1c3⟩ := id V1
  obtain ⟨v2c0, v2c1, v2c2, v2c3⟩ := id V2
  go_wp2_with fail
  refine (keptI _ L2 (by omega)).mono ?_
  rintro e w21 ⟨rfl, hx⟩
  clear p0c0 p0c1 p0c2 p0c3 p1c0 p1c1 p1c2 p1c3 v1c0 v1c1 v1c2 v1c3 v2c0 v2c1 v2c2 v2c3
  replace P0 := P0.below hx
  replace P1 := P1.below hx
  replace ha := ha.below hx
  replace hb := hb.below hx
  replace L1 := L1.below hx
  replace L2 := L2.below hx
  replace G1 := G1.below hx
  replace V1 := V1.below hx
  replace G2 := G2.below hx
  replace V2 := V2.below hx
  replace hb0 := bel_tr hb0 hx
  have hsw21 : w20.heap.size ≤ w21.heap.size := Below.size hx
  clear hx
  obtain ⟨p0c0, p0c1, p0c2, p0c3⟩ := id P0
  obtain ⟨p1c0, p1c1, p1c2, p1c3⟩ := id P1
  obtain ⟨v1c0, v1c1, v1c2, v1c3⟩ := id V1
  obtain ⟨v2c0, v2c1, v2c2, v2c3⟩ := id V2
  go_wp2_with fail
  refine (turnI _ L1 hAx (by omega)).mono ?_
  rintro e w22 ⟨rfl, xs', L', hl', hA', ho⟩
  clear p0c0 p0c1 p0c2 p0c3 p1c0 p1c1 p1c2 p1c3 v1c0 v1c1 v1c2 v1c3 v2c0 v2c1 v2c2 v2c3
  replace hb0 : Below w.heap.size w w22 := hb0.trans (ho.below (by omega) (by omega))
  replace ha := A0.below hb0
  replace hb := B0.below hb0
  replace P0 := P0.off2 ho (by omega) (by omega)
  replace P1 := P1.off2 ho (by omega) (by omega)
  replace V1 := V1.off2 ho (by omega) (by omega)
  replace V2 := V2.off2 ho (by omega) (by omega)
  replace G1 := G1.off2 ho (by omega) (by omega)
  replace G2 := G2.off2 ho (by omega) (by omega)
  have hsw22 : w21.heap.size ≤ w22.heap.size := Nat.le_of_eq ho.size.symm
  clear ho L1
  clear L2
  obtain ⟨p0c0, p0c1, p0c2, p0c3⟩ := id P0
  obtain ⟨p1c0, p1c1, p1c2, p1c3⟩ := id P1
  obtain ⟨v1c0, v1c1, v1c2, v1c3⟩ := id V1
  obtain ⟨v2c0, v2c1, v2c2, v2c3⟩ := id V2
  go_wp2_with fail
  go_region_held3 (fun w' => w'.cell? ⟨w13.heap.size, 0, none⟩ = some (.bool f1) ∧ w'.cell? ⟨w13.heap.size, 1, none⟩ = some (.slice c1 n1 d1) ∧ w'.cell? ⟨w16.heap.size, 0, none⟩ = some (.bool false) ∧ w'.cell? ⟨w16.heap.size, 1, none⟩ = some (.slice c2 n2 d2) ∧ w'.cell? ⟨w.heap.size, 0, none⟩ = some (.bool p) ∧ w'.cell? ⟨w.heap.size, 1, none⟩ = some (.slice a na ca))
      (first | (go_keep; done) | (refine ⟨?_, ?_, ?_, ?_, ?_, ?_⟩ <;> first | exact kept_c hb4 (by go_keep) | exact kept_c hb3 (by go_keep) | exact kept_c hb2 (by go_keep) | exact kept_c hb1 (by go_keep)))
      ((first
        | (go_at_call 30; go_fit (rnegT _ (ha.drewN _) (by omega)); rintro e w23_1 ⟨f3, c3, n3, d3, rfl, G3, hb1⟩; have hd1 : Below w22.heap.size w22 w23_1 := (by first | exact hb1 | exact bel_tr (belN (Below.refl _ w22) 1) hb1); have hc1 := hd1)
        | (go_at_call 23; go_fit (rsameI _ (G1.below hc1) G3 (by omega) rfl); rintro e w23_2 ⟨rfl, hb2⟩; have hd2 : Below w23_1.heap.size w23_1 w23_2 := (by first | exact hb2 | exact bel_tr (belN (Below.refl _ w23_1) 1) hb2); have hc2 := bel_tr hc1 hd2)
        | (go_at_call 31; go_fit (rabsT _ (ha.below hc2) (by omega)); rintro e w23_3 ⟨c4, n4, d4, rfl, G4, hb3⟩; have hd3 : Below w23_2.heap.size w23_2 w23_3 := (by first | exact hb3 | exact bel_tr (belN (Below.refl _ w23_2) 1) hb3); have hc3 := bel_tr hc2 hd3)
        | (go_at_call 23; go_fit (rsameI _ (G2.below hc3) G4.gi0 (by omega) rfl); rintro e w23_4 ⟨rfl, hb4⟩; have hd4 : Below w23_3.heap.size w23_3 w23_4 := (by first | exact hb4 | exact bel_tr (belN (Below.refl _ w23_3) 1) hb4); have hc4 := bel_tr hc3 hd4)))
  have hx := hc4
  clear p0c0 p0c1 p0c2 p0c3 p1c0 p1c1 p1c2 p1c3 v1c0 v1c1 v1c2 v1c3 v2c0 v2c1 v2c2 v2c3
  replace P0 := P0.below hx
  replace P1 := P1.below hx
  replace ha := ha.below hx
  replace hb := hb.below hx
  replace G1 := G1.below hx
  replace V1 := V1.below hx
  replace G2 := G2.below hx
  replace V2 := V2.below hx
  replace hb0 := bel_tr hb0 hx
  have hsw23_4 : w22.heap.size ≤ w23_4.heap.size := Below.size hx
  clear hx
  obtain ⟨p0c0, p0c1, p0c2, p0c3⟩ := id P0
  obtain ⟨p1c0, p1c1, p1c2, p1c3⟩ := id P1
  obtain ⟨v1c0, v1c1, v1c2, v1c3⟩ := id V1
  obtain ⟨v2c0, v2c1, v2c2, v2c3⟩ := id V2
  clear hb1 hc1 hd1 hb2 hc2 hd2 hb3 hc3 hd3 hb4 hc4 hd4
  clear G3 G4
  go_wp2_with fail
  refine (rsignT _ ha (by omega)).mono ?_
  rintro e w24 ⟨rfl, hx⟩
  clear p0c0 p0c1 p0c2 p0c3 p1c0 p1c1 p1c2 p1c3 v1c0 v1c1 v1c2 v1c3 v2c0 v2c1 v2c2 v2c3
  replace P0 := P0.below hx
  replace P1 := P1.below hx
  replace ha := ha.below hx
  replace hb := hb.below hx
  replace G1 := G1.below hx
  replace V1 := V1.below hx
  replace G2 := G2.below hx
  replace V2 := V2.below hx
  replace hb0 := bel_tr hb0 hx
  have hsw24 : w23_4.heap.size ≤ w24.heap.size := Below.size hx
  clear hx
  obtain ⟨p0c0, p0c1, p0c2, p0c3⟩ := id P0
  obtain ⟨p1c0, p1c1, p1c2, p1c3⟩ := id P1
  obtain ⟨v1c0, v1c1, v1c2, v1c3⟩ := id V1
  obtain ⟨v2c0, v2c1, v2c2, v2c3⟩ := id V2
  go_wp2_with fail
  refine (rcmpT _ ha hb (by omega) (by omega)).mono ?_
  rintro e w25 ⟨rfl, hx⟩
  clear p0c0 p0c1 p0c2 p0c3 p1c0 p1c1 p1c2 p1c3 v1c0 v1c1 v1c2 v1c3 v2c0 v2c1 v2c2 v2c3
  replace P0 := P0.below hx
  replace P1 := P1.below hx
  replace ha := ha.below hx
  replace hb := hb.below hx
  replace G1 := G1.below hx
  replace V1 := V1.below hx
  replace G2 := G2.below hx
  replace V2 := V2.below hx
  replace hb0 := bel_tr hb0 hx
  have hsw25 : w24.heap.size ≤ w25.heap.size := Below.size hx
  clear hx
  obtain ⟨p0c0, p0c1, p0c2, p0c3⟩ := id P0
  obtain ⟨p1c0, p1c1, p1c2, p1c3⟩ := id P1
  obtain ⟨v1c0, v1c1, v1c2, v1c3⟩ := id V1
  obtain ⟨v2c0, v2c1, v2c2, v2c3⟩ := id V2
  obtain ⟨us0, o0, -, -, z0⟩ := G1.parts.2
  obtain ⟨us1, o1, -, -, z1⟩ := G2.parts.2
  have hxa : Below w25.heap.size w25 (w25.alloc (.cells #[.bool f1, .slice c1 n1 d1, .bool false, .slice c2 n2 d2] 25)) := (Below.refl _ _).alloc (Nat.le_refl _) _
  have hba := bel_tr hb0 hxa
  have AP : Calls Tryd.prog 26 #[.slice (some ⟨w25.heap.size, 0, none⟩) 2 2] (w25.alloc (.cells #[.bool f1, .slice c1 n1 d1, .bool false, .slice c2 n2 d2] 25)) fun e w' => e = .returned (.bool true) ∧ Below w.heap.size (w25.alloc (.cells #[.bool f1, .slice c1 n1 d1, .bool false, .slice c2 n2 d2] 25)) w' := by
    refine rapartI w25.heap.size 2 2 w.heap.size (fun i => [c1, c2].getD i none) (fun i => [n1, n2].getD i 0) (fun i => [d1, d2].getD i 0) (fun i => [us0, us1].getD i []) _ (fun i hi => ?_) (fun i hi => ?_) (fun i j hi hj hij g h1 h2 => ?_) (by omega) (by omega) (fun i hi => ?_) (by have := hba.size; omega)
    · rcases (by omega : i = 0 ∨ i = 1) with rfl | rfl <;> simp
    · rcases (by omega : i = 0 ∨ i = 1) with rfl | rfl
      · exact (o0.below hxa).mono (by omega)
      · exact (o1.below hxa).mono (by omega)
    · have hq : ∀ i, i < 2 → ∀ g, (Value.slice ([c1, c2].getD i none) ([n1, n2].getD i 0) ([d1, d2].getD i 0)).ownBlock = some g → ((i = 0 → w12.heap.size ≤ g ∧ g < w13.heap.size) ∧ (i = 1 → w15.heap.size ≤ g ∧ g < w16.heap.size)) := by
        intro i hi g hg
        refine ⟨?_, ?_⟩
        · rintro rfl; exact ⟨(o0.lt g hg).1, q1.out g hg⟩
        · rintro rfl; exact ⟨(o1.lt g hg).1, q2.out g hg⟩
      have a1 := hq i hi g h1
      have a2 := hq j hj g h2
      omega
    · rcases (by omega : i = 0 ∨ i = 1) with rfl | rfl
      · show us0.length ≤ _; omega
      · show us1.length ≤ _; omega
  go_wp2_with fail
  refine AP.mono ?_
  rintro e wz ⟨rfl, hz⟩
  have hw := hba.trans hz
  clear AP hz hba hxa hb0 o0 o1
  clear G1 G2 P0 P1 V1 V2 ha hb A0 B0
  clear p0c0 p0c1 p0c2 p0c3 p1c0 p1c1 p1c2 p1c3 v1c0 v1c1 v1c2 v1c3 v2c0 v2c1 v2c2 v2c3
  go_wp2
  go_ret
  exact ⟨rfl, hw⟩
end Go.Proofs.YtfelogbfijomiaaDoor

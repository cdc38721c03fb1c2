import Derived.Test.YtfelogbfijomiaaDoorRekA
import Derived.Test.YtfelogbfijomiaaDoorR2D
import Derived.Test.YtfelogbfijomiaaDoorWhG
import Derived.Test.YtfelogbfijomiaaDoorR2H
namespace Go.Proofs.YtfelogbfijomiaaDoor
open Go.RowKit
attribute [local go_sem ↓] Go.wp_at_zero Go.wp_at_succ

set_option maxRecDepth 100000 in
set_option maxHeartbeats 4000000 in
theorem rek_walk {a b : Option Addr} {p q : Bool} {na nb ca cb : Nat} {x y : Int} (op : Nat) (w : World) (ha : TI w p a na ca x 1048576) (hb : TI w q b nb cb y 1048576) (hop : op < 3) :
    Calls Tryd.prog 39 #[.int .i64 (op : Int), .agg #[.bool p, .slice a na ca], .agg #[.bool q, .slice b nb cb]] w fun e w' => e = .returned (.bool true) ∧ Below w.heap.size w w' := by
  obtain ⟨m, ⟨xs, hnx, hlx, hrx, hAx, rfl, hSx⟩, hX⟩ := id ha
  obtain ⟨k, ⟨ys, hny, hly, hry, hAy, rfl, hSy⟩, hY⟩ := id hb
  have HX : Hid (ws p (val xs) = x) := hX
  have HY : Hid (ws q (val ys) = y) := hY
  have Hnx : Hid (na = xs.length) := hnx
  have Hny : Hid (nb = ys.length) := hny
  have Kx : xs.length ≤ 1048576 := by omega
  have Ky : ys.length ≤ 1048576 := by omega
  clear hX hY hnx hny
  obtain ⟨P0, P1, hb0, hsz⟩ := box2 w (.bool p) (.slice a na ca) (.bool q) (.slice b nb cb) 25
  replace ha := ha.below hb0
  replace hb := hb.below hb0
  replace hrx := hrx.below hb0
  replace hry := hry.below hb0
  go_enter Tryd.func39, Tryd.ntmps39
  go_wp2_with fail
  generalize (w.alloc (.cells #[.bool p, .slice a na ca] 25)).alloc (.cells #[.bool q, .slice b nb cb] 25) = W0 at *
  obtain ⟨p0c0, p0c1, p0c2, p0c3⟩ := id P0
  obtain ⟨p1c0, p1c1, p1c2, p1c3⟩ := id P1
  refine (lendI p xs _ Hnx.out hlx (by omega) hrx).mono ?_
  rintro e w1 ⟨r1, b1, rfl, L1, hl1, hx⟩
  clear p0c0 p0c1 p0c2 p0c3 p1c0 p1c1 p1c2 p1c3
  replace P0 := P0.below hx
  replace P1 := P1.below hx
  replace ha := ha.below hx
  replace hb := hb.below hx
  replace hrx := hrx.below hx
  replace hry := hry.below hx
  replace hb0 := bel_tr hb0 hx
  have hsw1 : W0.heap.size ≤ w1.heap.size := Below.size hx
  clear hx
  obtain ⟨p0c0, p0c1, p0c2, p0c3⟩ := id P0
  obtain ⟨p1c0, p1c1, p1c2, p1c3⟩ := id P1
  have hq1 : r1 < w1.heap.size := L1.lt
  go_wp2_with fail
  refine (lendI q ys _ Hny.out hly (by omega) hry).mono ?_
  rintro e w2 ⟨r2, b2, rfl, L2, hl2, hx⟩
  clear p0c0 p0c1 p0c2 p0c3 p1c0 p1c1 p1c2 p1c3
  replace P0 := P0.below hx
  replace P1 := P1.below hx
  replace ha := ha.below hx
  replace hb := hb.below hx
  replace hrx := hrx.below hx
  replace hry := hry.below hx
  replace L1 := L1.below hx
  replace hb0 := bel_tr hb0 hx
  have hsw2 : w1.heap.size ≤ w2.heap.size := Below.size hx
  clear hx
  obtain ⟨p0c0, p0c1, p0c2, p0c3⟩ := id P0
  obtain ⟨p1c0, p1c1, p1c2, p1c3⟩ := id P1
  have hq2 : r2 < w2.heap.size := L2.lt
  clear hrx hry
  have hg1 : b1.gf < r1 ∧ b1.gw < r1 ∧ b1.r < b1.gf ∧ b1.r < b1.gw := ⟨L1.lf, L1.lw, L1.ls.lf, L1.ls.lw⟩
  have hg2 : b2.gf < r2 ∧ b2.gw < r2 ∧ b2.r < b2.gf ∧ b2.r < b2.gw := ⟨L2.lf, L2.lw, L2.ls.lf, L2.ls.lw⟩
  go_wp2_with fail
  refine (shouldT op _ ha hb (by omega) hop).mono ?_
  rintro e w3 ⟨f1, c1, n1, d1, rfl, G1, hx⟩
  clear p0c0 p0c1 p0c2 p0c3 p1c0 p1c1 p1c2 p1c3
  replace P0 := P0.below hx
  replace P1 := P1.below hx
  replace ha := ha.below hx
  replace hb := hb.below hx
  replace L1 := L1.below hx
  replace L2 := L2.below hx
  replace hb0 := bel_tr hb0 hx
  have hsw3 : w2.heap.size ≤ w3.heap.size := Below.size hx
  clear hx
  obtain ⟨p0c0, p0c1, p0c2, p0c3⟩ := id P0
  obtain ⟨p1c0, p1c1, p1c2, p1c3⟩ := id P1
  have q1 : Hid (∀ g, (Value.slice c1 n1 d1).ownBlock = some g → g < w3.heap.size) := fun g hg => (G1.parts.2.lt g hg).2
  obtain ⟨V1, hx, hsx⟩ := box1 w3 (.bool f1) (.slice c1 n1 d1) 25
  clear p0c0 p0c1 p0c2 p0c3 p1c0 p1c1 p1c2 p1c3
  replace P0 := P0.below hx
  replace P1 := P1.below hx
  replace ha := ha.below hx
  replace hb := hb.below hx
  replace L1 := L1.below hx
  replace L2 := L2.below hx
  replace G1 := G1.below hx
  replace hb0 := bel_tr hb0 hx
  have hsw4 : w3.heap.size ≤ (w3.alloc (.cells #[.bool f1, .slice c1 n1 d1] 25)).heap.size := Below.size hx
  clear hx
  obtain ⟨p0c0, p0c1, p0c2, p0c3⟩ := id P0
  obtain ⟨p1c0, p1c1, p1c2, p1c3⟩ := id P1
  obtain ⟨v1c0, v1c1, v1c2, v1c3⟩ := id V1
  go_wp2_with fail
  generalize w3.alloc (.cells #[.bool f1, .slice c1 n1 d1] 25) = w4 at *
  clear ha hb P0 P1
  clear p0c0 p0c1 p0c2 p0c3 p1c0 p1c1 p1c2 p1c3
  refine (intI _ L1).mono ?_
  rintro e w5 ⟨rfl, hx⟩
  clear v1c0 v1c1 v1c2 v1c3
  replace L1 := L1.below hx
  replace L2 := L2.below hx
  replace G1 := G1.below hx
  replace V1 := V1.below hx
  replace hb0 := bel_tr hb0 hx
  have hsw5 : w4.heap.size ≤ w5.heap.size := Below.size hx
  clear hx
  obtain ⟨v1c0, v1c1, v1c2, v1c3⟩ := id V1
  go_wp2_with fail
  refine (intI _ L2).mono ?_
  rintro e w6 ⟨rfl, hx⟩
  clear v1c0 v1c1 v1c2 v1c3
  replace L1 := L1.below hx
  replace L2 := L2.below hx
  replace G1 := G1.below hx
  replace V1 := V1.below hx
  replace hb0 := bel_tr hb0 hx
  have hsw6 : w5.heap.size ≤ w6.heap.size := Below.size hx
  clear hx
  obtain ⟨v1c0, v1c1, v1c2, v1c3⟩ := id V1
  go_wp2_with fail
  refine (doesT op _ (L1.ti hAx (S := 1048576) Kx) (L2.ti hAy (S := 1048576) Ky) (by omega) hop).mono ?_
  rintro e w7 ⟨f2, c2, n2, d2, rfl, G2, hx⟩
  clear v1c0 v1c1 v1c2 v1c3
  replace L1 := L1.below hx
  replace L2 := L2.below hx
  replace G1 := G1.below hx
  replace V1 := V1.below hx
  replace hb0 := bel_tr hb0 hx
  have hsw7 : w6.heap.size ≤ w7.heap.size := Below.size hx
  clear hx
  obtain ⟨v1c0, v1c1, v1c2, v1c3⟩ := id V1
  rw [HX.out, HY.out] at G2
  have q2 : Hid (∀ g, (Value.slice c2 n2 d2).ownBlock = some g → g < w7.heap.size) := fun g hg => (G2.parts.2.lt g hg).2
  obtain ⟨V2, hx, hsx⟩ := box1 w7 (.bool f2) (.slice c2 n2 d2) 25
  clear v1c0 v1c1 v1c2 v1c3
  replace L1 := L1.below hx
  replace L2 := L2.below hx
  replace G1 := G1.below hx
  replace V1 := V1.below hx
  replace G2 := G2.below hx
  replace hb0 := bel_tr hb0 hx
  have hsw8 : w7.heap.size ≤ (w7.alloc (.cells #[.bool f2, .slice c2 n2 d2] 25)).heap.size := Below.size hx
  clear hx
  obtain ⟨v1c0, v1c1, v1c2, v1c3⟩ := id V1
  obtain ⟨v2c0, v2c1, v2c2, v2c3⟩ := id V2
  go_wp2_with fail
  generalize w7.alloc (.cells #[.bool f2, .slice c2 n2 d2] 25) = w8 at *
  refine (intI _ L1).mono ?_
  rintro e w9 ⟨rfl, hx⟩
  clear v1c0 v1c1 v1c2 v1c3 v2c0 v2c1 v2c2 v2c3
  replace L1 := L1.below hx
  replace L2 := L2.below hx
  replace G1 := G1.below hx
  replace V1 := V1.below hx
  replace G2 := G2.below hx
  replace V2 := V2.below hx
  replace hb0 := bel_tr hb0 hx
  have hsw9 : w8.heap.size ≤ w9.heap.size := Below.size hx
  clear hx
  obtain ⟨v1c0, v1c1, v1c2, v1c3⟩ := id V1
  obtain ⟨v2c0, v2c1, v2c2, v2c3⟩ := id V2
  go_wp2_with fail
  refine (intI _ L2).mono ?_
  rintro e w10 ⟨rfl, hx⟩
  clear v1c0 v1c1 v1c2 v1c3 v2c0 v2c1 v2c2 v2c3
  replace L1 := L1.below hx
  replace L2 := L2.below hx
  replace G1 := G1.below hx
  replace V1 := V1.below hx
  replace G2 := G2.below hx
  replace V2 := V2.below hx
  replace hb0 := bel_tr hb0 hx
  have hsw10 : w9.heap.size ≤ w10.heap.size := Below.size hx
  clear hx
  obtain ⟨v1c0, v1c1, v1c2, v1c3⟩ := id V1
  obtain ⟨v2c0, v2c1, v2c2, v2c3⟩ := id V2
  go_wp2_with fail
  refine (doesT op _ (L1.ti hAx (S := 1048576) Kx) (L2.ti hAy (S := 1048576) Ky) (by omega) hop).mono ?_
  rintro e w11 ⟨f3, c3, n3, d3, rfl, G3, hx⟩
  clear v1c0 v1c1 v1c2 v1c3 v2c0 v2c1 v2c2 v2c3
  replace L1 := L1.below hx
  replace L2 := L2.below hx
  replace G1 := G1.below hx
  replace V1 := V1.below hx
  replace G2 := G2.below hx
  replace V2 := V2.below hx
  replace hb0 := bel_tr hb0 hx
  have hsw11 : w10.heap.size ≤ w11.heap.size := Below.size hx
  clear hx
  obtain ⟨v1c0, v1c1, v1c2, v1c3⟩ := id V1
  obtain ⟨v2c0, v2c1, v2c2, v2c3⟩ := id V2
  rw [HX.out, HY.out] at G3
  have q3 : Hid (∀ g, (Value.slice c3 n3 d3).ownBlock = some g → g < w11.heap.size) := fun g hg => (G3.parts.2.lt g hg).2
  obtain ⟨V3, hx, hsx⟩ := box1 w11 (.bool f3) (.slice c3 n3 d3) 25
  clear v1c0 v1c1 v1c2 v1c3 v2c0 v2c1 v2c2 v2c3
  replace L1 := L1.below hx
  replace L2 := L2.below hx
  replace G1 := G1.below hx
  replace V1 := V1.below hx
  replace G2 := G2.below hx
  replace V2 := V2.below hx
  replace G3 := G3.below hx
  replace hb0 := bel_tr hb0 hx
  have hsw12 : w11.heap.size ≤ (w11.alloc (.cells #[.bool f3, .slice c3 n3 d3] 25)).heap.size := Below.size hx
  clear hx
  obtain ⟨v1c0, v1c1, v1c2, v1c3⟩ := id V1
  obtain ⟨v2c0, v2c1, v2c2, v2c3⟩ := id V2
  obtain ⟨v3c0, v3c1, v3c2, v3c3⟩ := id V3
  go_wp2_with fail
  generalize w11.alloc (.cells #[.bool f3, .slice c3 n3 d3] 25) = w12 at *
  refine (rsameI _ G2 G1 (by omega) rfl).mono ?_
  rintro e w13 ⟨rfl, hx⟩
  clear v1c0 v1c1 v1c2 v1c3 v2c0 v2c1 v2c2 v2c3 v3c0 v3c1 v3c2 v3c3
  replace L1 := L1.below hx
  replace L2 := L2.below hx
  replace G1 := G1.below hx
  replace V1 := V1.below hx
  replace G2 := G2.below hx
  replace V2 := V2.below hx
  replace G3 := G3.below hx
  replace V3 := V3.below hx
  replace hb0 := bel_tr hb0 hx
  have hsw13 : w12.heap.size ≤ w13.heap.size := Below.size hx
  clear hx
  obtain ⟨v1c0, v1c1, v1c2, v1c3⟩ := id V1
  obtain ⟨v2c0, v2c1, v2c2, v2c3⟩ := id V2
  obtain ⟨v3c0, v3c1, v3c2, v3c3⟩ := id V3
  go_wp2_with fail
  refine (rsameI _ G3 G1 (by omega) rfl).mono ?_
  rintro e w14 ⟨rfl, hx⟩
  clear v1c0 v1c1 v1c2 v1c3 v2c0 v2c1 v2c2 v2c3 v3c0 v3c1 v3c2 v3c3
  replace L1 := L1.below hx
  replace L2 := L2.below hx
  replace G1 := G1.below hx
  replace V1 := V1.below hx
  replace G2 := G2.below hx
  replace V2 := V2.below hx
  replace G3 := G3.below hx
  replace V3 := V3.below hx
  replace hb0 := bel_tr hb0 hx
  have hsw14 : w13.heap.size ≤ w14.heap.size := Below.size hx
  clear hx
  obtain ⟨v1c0, v1c1, v1c2, v1c3⟩ := id V1
  obtain ⟨v2c0, v2c1, v2c2, v2c3⟩ := id V2
  obtain ⟨v3c0, v3c1, v3c2, v3c3⟩ := id V3
  go_wp2_with fail
  refine (keptI _ L1 (by omega)).mono ?_
  rintro e w15 ⟨rfl, hx⟩
  clear v1c0 v1c1 v1c2 v1c3 v2c0 v2c1 v2c2 v2c3 v3c0 v3c1 v3c2 v3c3
  replace L1 := L1.below hx
  replace L2 := L2.below hx
  replace G1 := G1.below hx
  replace V1 := V1.below hx
  replace G2 := G2.below hx
  replace V2 := V2.below hx
  replace G3 := G3.below hx
  replace V3 := V3.below hx
  replace hb0 := bel_tr hb0 hx
  have hsw15 : w14.heap.size ≤ w15.heap.size := Below.size hx
  clear hx
  obtain ⟨v1c0, v1c1, v1c2, v1c3⟩ := id V1
  obtain ⟨v2c0, v2c1, v2c2, v2c3⟩ := id V2
  obtain ⟨v3c0, v3c1, v3c2, v3c3⟩ := id V3
  go_wp2_with fail
  refine (keptI _ L2 (by omega)).mono ?_
  rintro e w16 ⟨rfl, hx⟩
  clear v1c0 v1c1 v1c2 v1c3 v2c0 v2c1 v2c2 v2c3 v3c0 v3c1 v3c2 v3c3
  replace L1 := L1.below hx
  replace L2 := L2.below hx
  replace G1 := G1.below hx
  replace V1 := V1.below hx
  replace G2 := G2.below hx
  replace V2 := V2.below hx
  replace G3 := G3.below hx
  replace V3 := V3.below hx
  replace hb0 := bel_tr hb0 hx
  have hsw16 : w15.heap.size ≤ w16.heap.size := Below.size hx
  clear hx
  obtain ⟨v1c0, v1c1, v1c2, v1c3⟩ := id V1
  obtain ⟨v2c0, v2c1, v2c2, v2c3⟩ := id V2
  obtain ⟨v3c0, v3c1, v3c2, v3c3⟩ := id V3
  go_wp2_with fail
  refine (turnI _ L1 hAx (by omega)).mono ?_
  rintro e w17 ⟨rfl, xs', M1, hlM1, hAM1, ho⟩
  clear v1c0 v1c1 v1c2 v1c3 v2c0 v2c1 v2c2 v2c3 v3c0 v3c1 v3c2 v3c3
  replace hb0 : Below w.heap.size w w17 := hb0.trans (ho.below (by omega) (by omega))
  replace V1 := V1.off2 ho (by omega) (by omega)
  replace V2 := V2.off2 ho (by omega) (by omega)
  replace V3 := V3.off2 ho (by omega) (by omega)
  replace G1 := G1.off2 ho (by omega) (by omega)
  replace G2 := G2.off2 ho (by omega) (by omega)
  replace G3 := G3.off2 ho (by omega) (by omega)
  replace L2 := L2.off2 ho (by omega) (by omega)
  have hsw17 : w16.heap.size ≤ w17.heap.size := Nat.le_of_eq ho.size.symm
  clear ho L1
  obtain ⟨v1c0, v1c1, v1c2, v1c3⟩ := id V1
  obtain ⟨v2c0, v2c1, v2c2, v2c3⟩ := id V2
  obtain ⟨v3c0, v3c1, v3c2, v3c3⟩ := id V3
  go_wp2_with fail
  refine (turnI _ L2 hAy (by omega)).mono ?_
  rintro e w18 ⟨rfl, ys', M2, hlM2, hAM2, ho⟩
  clear v1c0 v1c1 v1c2 v1c3 v2c0 v2c1 v2c2 v2c3 v3c0 v3c1 v3c2 v3c3
  replace hb0 : Below w.heap.size w w18 := hb0.trans (ho.below (by omega) (by omega))
  replace V1 := V1.off2 ho (by omega) (by omega)
  replace V2 := V2.off2 ho (by omega) (by omega)
  replace V3 := V3.off2 ho (by omega) (by omega)
  replace G1 := G1.off2 ho (by omega) (by omega)
  replace G2 := G2.off2 ho (by omega) (by omega)
  replace G3 := G3.off2 ho (by omega) (by omega)
  replace M1 := M1.off2 ho (by omega) (by omega)
  have hsw18 : w17.heap.size ≤ w18.heap.size := Nat.le_of_eq ho.size.symm
  clear ho L2
  obtain ⟨v1c0, v1c1, v1c2, v1c3⟩ := id V1
  obtain ⟨v2c0, v2c1, v2c2, v2c3⟩ := id V2
  obtain ⟨v3c0, v3c1, v3c2, v3c3⟩ := id V3
  have Kx' : xs'.length ≤ 1048576 := by omega
  have Ky' : ys'.length ≤ 1048576 := by omega
  go_wp2_with fail
  refine (intI _ M1).mono ?_
  rintro e w19 ⟨rfl, hx⟩
  clear v1c0 v1c1 v1c2 v1c3 v2c0 v2c1 v2c2 v2c3 v3c0 v3c1 v3c2 v3c3
  replace G1 := G1.below hx
  replace V1 := V1.below hx
  replace G2 := G2.below hx
  replace V2 := V2.below hx
  replace G3 := G3.below hx
  replace V3 := V3.below hx
  replace M1 := M1.below hx
  replace M2 := M2.below hx
  replace hb0 := bel_tr hb0 hx
  have hsw19 : w18.heap.size ≤ w19.heap.size := Below.size hx
  clear hx
  obtain ⟨v1c0, v1c1, v1c2, v1c3⟩ := id V1
  obtain ⟨v2c0, v2c1, v2c2, v2c3⟩ := id V2
  obtain ⟨v3c0, v3c1, v3c2, v3c3⟩ := id V3
  go_wp2_with fail
  refine (rcopiedI p _ (LB.num M1.ls M1.hn hAM1 (S := 1048576) Kx') (by omega)).mono ?_
  rintro e w20 ⟨c7, n7, d7, rfl, N7, hx⟩
  clear v1c0 v1c1 v1c2 v1c3 v2c0 v2c1 v2c2 v2c3 v3c0 v3c1 v3c2 v3c3
  replace G1 := G1.below hx
  replace V1 := V1.below hx
  replace G2 := G2.below hx
  replace V2 := V2.below hx
  replace G3 := G3.below hx
  replace V3 := V3.below hx
  replace M1 := M1.below hx
  replace M2 := M2.below hx
  replace hb0 := bel_tr hb0 hx
  have hsw20 : w19.heap.size ≤ w20.heap.size := Below.size hx
  clear hx
  obtain ⟨v1c0, v1c1, v1c2, v1c3⟩ := id V1
  obtain ⟨v2c0, v2c1, v2c2, v2c3⟩ := id V2
  obtain ⟨v3c0, v3c1, v3c2, v3c3⟩ := id V3
  go_wp2_with fail
  refine (intI _ M2).mono ?_
  rintro e w21 ⟨rfl, hx⟩
  clear v1c0 v1c1 v1c2 v1c3 v2c0 v2c1 v2c2 v2c3 v3c0 v3c1 v3c2 v3c3
  replace G1 := G1.below hx
  replace V1 := V1.below hx
  replace G2 := G2.below hx
  replace V2 := V2.below hx
  replace G3 := G3.below hx
  replace V3 := V3.below hx
  replace M1 := M1.below hx
  replace M2 := M2.below hx
  replace N7 := N7.below hx
  replace hb0 := bel_tr hb0 hx
  have hsw21 : w20.heap.size ≤ w21.heap.size := Below.size hx
  clear hx
  obtain ⟨v1c0, v1c1, v1c2, v1c3⟩ := id V1
  obtain ⟨v2c0, v2c1, v2c2, v2c3⟩ := id V2
  obtain ⟨v3c0, v3c1, v3c2, v3c3⟩ := id V3
  go_wp2_with fail
  refine (rcopiedI q _ (LB.num M2.ls M2.hn hAM2 (S := 1048576) Ky') (by omega)).mono ?_
  rintro e w22 ⟨c8, n8, d8, rfl, N8, hx⟩
  clear v1c0 v1c1 v1c2 v1c3 v2c0 v2c1 v2c2 v2c3 v3c0 v3c1 v3c2 v3c3
  replace G1 := G1.below hx
  replace V1 := V1.below hx
  replace G2 := G2.below hx
  replace V2 := V2.below hx
  replace G3 := G3.below hx
  replace V3 := V3.below hx
  replace M1 := M1.below hx
  replace M2 := M2.below hx
  replace N7 := N7.below hx
  replace hb0 := bel_tr hb0 hx
  have hsw22 : w21.heap.size ≤ w22.heap.size := Below.size hx
  clear hx
  obtain ⟨v1c0, v1c1, v1c2, v1c3⟩ := id V1
  obtain ⟨v2c0, v2c1, v2c2, v2c3⟩ := id V2
  obtain ⟨v3c0, v3c1, v3c2, v3c3⟩ := id V3
  go_wp2_with fail
  refine (shouldT op _ ⟨_, N7, rfl⟩ ⟨_, N8, rfl⟩ (by omega) hop).mono ?_
  rintro e w23 ⟨f4, c4, n4, d4, rfl, G4, hx⟩
  clear v1c0 v1c1 v1c2 v1c3 v2c0 v2c1 v2c2 v2c3 v3c0 v3c1 v3c2 v3c3
  replace G1 := G1.below hx
  replace V1 := V1.below hx
  replace G2 := G2.below hx
  replace V2 := V2.below hx
  replace G3 := G3.below hx
  replace V3 := V3.below hx
  replace M1 := M1.below hx
  replace M2 := M2.below hx
  replace N7 := N7.below hx
  replace N8 := N8.below hx
  replace hb0 := bel_tr hb0 hx
  have hsw23 : w22.heap.size ≤ w23.heap.size := Below.size hx
  clear hx
  obtain ⟨v1c0, v1c1, v1c2, v1c3⟩ := id V1
  obtain ⟨v2c0, v2c1, v2c2, v2c3⟩ := id V2
  obtain ⟨v3c0, v3c1, v3c2, v3c3⟩ := id V3
  have q4 : Hid (∀ g, (Value.slice c4 n4 d4).ownBlock = some g → g < w23.heap.size) := fun g hg => (G4.parts.2.lt g hg).2
  obtain ⟨V4, hx, hsx⟩ := box1 w23 (.bool f4) (.slice c4 n4 d4) 25
  clear v1c0 v1c1 v1c2 v1c3 v2c0 v2c1 v2c2 v2c3 v3c0 v3c1 v3c2 v3c3
  replace G1 := G1.below hx
  replace V1 := V1.below hx
  replace G2 := G2.below hx
  replace V2 := V2.below hx
  replace G3 := G3.below hx
  replace V3 := V3.below hx
  replace M1 := M1.below hx
  replace M2 := M2.below hx
  replace N7 := N7.below hx
  replace N8 := N8.below hx
  replace G4 := G4.below hx
  replace hb0 := bel_tr hb0 hx
  have hsw24 : w23.heap.size ≤ (w23.alloc (.cells #[.bool f4, .slice c4 n4 d4] 25)).heap.size := Below.size hx
  clear hx
  obtain ⟨v1c0, v1c1, v1c2, v1c3⟩ := id V1
  obtain ⟨v2c0, v2c1, v2c2, v2c3⟩ := id V2
  obtain ⟨v3c0, v3c1, v3c2, v3c3⟩ := id V3
  obtain ⟨v4c0, v4c1, v4c2, v4c3⟩ := id V4
  go_wp2_with fail
  generalize w23.alloc (.cells #[.bool f4, .slice c4 n4 d4] 25) = w24 at *
  clear N7 N8
  refine (intI _ M1).mono ?_
  rintro e w25 ⟨rfl, hx⟩
  clear v1c0 v1c1 v1c2 v1c3 v2c0 v2c1 v2c2 v2c3 v3c0 v3c1 v3c2 v3c3 v4c0 v4c1 v4c2 v4c3
  replace G1 := G1.below hx
  replace V1 := V1.below hx
  replace G2 := G2.below hx
  replace V2 := V2.below hx
  replace G3 := G3.below hx
  replace V3 := V3.below hx
  replace M1 := M1.below hx
  replace M2 := M2.below hx
  replace G4 := G4.below hx
  replace V4 := V4.below hx
  replace hb0 := bel_tr hb0 hx
  have hsw25 : w24.heap.size ≤ w25.heap.size := Below.size hx
  clear hx
  obtain ⟨v1c0, v1c1, v1c2, v1c3⟩ := id V1
  obtain ⟨v2c0, v2c1, v2c2, v2c3⟩ := id V2
  obtain ⟨v3c0, v3c1, v3c2, v3c3⟩ := id V3
  obtain ⟨v4c0, v4c1, v4c2, v4c3⟩ := id V4
  go_wp2_with fail
  refine (intI _ M2).mono ?_
  rintro e w26 ⟨rfl, hx⟩
  clear v1c0 v1c1 v1c2 v1c3 v2c0 v2c1 v2c2 v2c3 v3c0 v3c1 v3c2 v3c3 v4c0 v4c1 v4c2 v4c3
  replace G1 := G1.below hx
  replace V1 := V1.below hx
  replace G2 := G2.below hx
  replace V2 := V2.below hx
  replace G3 := G3.below hx
  replace V3 := V3.below hx
  replace M1 := M1.below hx
  replace M2 := M2.below hx
  replace G4 := G4.below hx
  replace V4 := V4.below hx
  replace hb0 := bel_tr hb0 hx
  have hsw26 : w25.heap.size ≤ w26.heap.size := Below.size hx
  clear hx
  obtain ⟨v1c0, v1c1, v1c2, v1c3⟩ := id V1
  obtain ⟨v2c0, v2c1, v2c2, v2c3⟩ := id V2
  obtain ⟨v3c0, v3c1, v3c2, v3c3⟩ := id V3
  obtain ⟨v4c0, v4c1, v4c2, v4c3⟩ := id V4
  go_wp2_with fail
  refine (doesT op _ (M1.ti hAM1 (S := 1048576) Kx') (M2.ti hAM2 (S := 1048576) Ky') (by omega) hop).mono ?_
  rintro e w27 ⟨f5, c5, n5, d5, rfl, G5, hx⟩
  clear v1c0 v1c1 v1c2 v1c3 v2c0 v2c1 v2c2 v2c3 v3c0 v3c1 v3c2 v3c3 v4c0 v4c1 v4c2 v4c3
  replace G1 := G1.below hx
  replace V1 := V1.below hx
  replace G2 := G2.below hx
  replace V2 := V2.below hx
  replace G3 := G3.below hx
  replace V3 := V3.below hx
  replace M1 := M1.below hx
  replace M2 := M2.below hx
  replace G4 := G4.below hx
  replace V4 := V4.below hx
  replace hb0 := bel_tr hb0 hx
  have hsw27 : w26.heap.size ≤ w27.heap.size := Below.size hx
  clear hx
  obtain ⟨v1c0, v1c1, v1c2, v1c3⟩ := id V1
  obtain ⟨v2c0, v2c1, v2c2, v2c3⟩ := id V2
  obtain ⟨v3c0, v3c1, v3c2, v3c3⟩ := id V3
  obtain ⟨v4c0, v4c1, v4c2, v4c3⟩ := id V4
  have q5 : Hid (∀ g, (Value.slice c5 n5 d5).ownBlock = some g → g < w27.heap.size) := fun g hg => (G5.parts.2.lt g hg).2
  obtain ⟨V5, hx, hsx⟩ := box1 w27 (.bool f5) (.slice c5 n5 d5) 25
  clear v1c0 v1c1 v1c2 v1c3 v2c0 v2c1 v2c2 v2c3 v3c0 v3c1 v3c2 v3c3 v4c0 v4c1 v4c2 v4c3
  replace G1 := G1.below hx
  replace V1 := V1.below hx
  replace G2 := G2.below hx
  replace V2 := V2.below hx
  replace G3 := G3.below hx
  replace V3 := V3.below hx
  replace M1 := M1.below hx
  replace M2 := M2.below hx
  replace G4 := G4.below hx
  replace V4 := V4.below hx
  replace G5 := G5.below hx
  replace hb0 := bel_tr hb0 hx
  have hsw28 : w27.heap.size ≤ (w27.alloc (.cells #[.bool f5, .slice c5 n5 d5] 25)).heap.size := Below.size hx
  clear hx
  obtain ⟨v1c0, v1c1, v1c2, v1c3⟩ := id V1
  obtain ⟨v2c0, v2c1, v2c2, v2c3⟩ := id V2
  obtain ⟨v3c0, v3c1, v3c2, v3c3⟩ := id V3
  obtain ⟨v4c0, v4c1, v4c2, v4c3⟩ := id V4
  obtain ⟨v5c0, v5c1, v5c2, v5c3⟩ := id V5
  go_wp2_with fail
  generalize w27.alloc (.cells #[.bool f5, .slice c5 n5 d5] 25) = w28 at *
  refine (rsameI _ G5 G4 (by omega) rfl).mono ?_
  rintro e w29 ⟨rfl, hx⟩
  clear v1c0 v1c1 v1c2 v1c3 v2c0 v2c1 v2c2 v2c3 v3c0 v3c1 v3c2 v3c3 v4c0 v4c1 v4c2 v4c3 v5c0 v5c1 v5c2 v5c3
  replace G1 := G1.below hx
  replace V1 := V1.below hx
  replace G2 := G2.below hx
  replace V2 := V2.below hx
  replace G3 := G3.below hx
  replace V3 := V3.below hx
  replace M1 := M1.below hx
  replace M2 := M2.below hx
  replace G4 := G4.below hx
  replace V4 := V4.below hx
  replace G5 := G5.below hx
  replace V5 := V5.below hx
  replace hb0 := bel_tr hb0 hx
  have hsw29 : w28.heap.size ≤ w29.heap.size := Below.size hx
  clear hx
  obtain ⟨v1c0, v1c1, v1c2, v1c3⟩ := id V1
  obtain ⟨v2c0, v2c1, v2c2, v2c3⟩ := id V2
  obtain ⟨v3c0, v3c1, v3c2, v3c3⟩ := id V3
  obtain ⟨v4c0, v4c1, v4c2, v4c3⟩ := id V4
  obtain ⟨v5c0, v5c1, v5c2, v5c3⟩ := id V5
  go_wp2_with fail
  refine (rsameI _ G2 G1 (by omega) rfl).mono ?_
  rintro e w30 ⟨rfl, hx⟩
  clear v1c0 v1c1 v1c2 v1c3 v2c0 v2c1 v2c2 v2c3 v3c0 v3c1 v3c2 v3c3 v4c0 v4c1 v4c2 v4c3 v5c0 v5c1 v5c2 v5c3
  replace G1 := G1.below hx
  replace V1 := V1.below hx
  replace G2 := G2.below hx
  replace V2 := V2.below hx
  replace G3 := G3.below hx
  replace V3 := V3.below hx
  replace M1 := M1.below hx
  replace M2 := M2.below hx
  replace G4 := G4.below hx
  replace V4 := V4.below hx
  replace G5 := G5.below hx
  replace V5 := V5.below hx
  replace hb0 := bel_tr hb0 hx
  have hsw30 : w29.heap.size ≤ w30.heap.size := Below.size hx
  clear hx
  obtain ⟨v1c0, v1c1, v1c2, v1c3⟩ := id V1
  obtain ⟨v2c0, v2c1, v2c2, v2c3⟩ := id V2
  obtain ⟨v3c0, v3c1, v3c2, v3c3⟩ := id V3
  obtain ⟨v4c0, v4c1, v4c2, v4c3⟩ := id V4
  obtain ⟨v5c0, v5c1, v5c2, v5c3⟩ := id V5
  go_wp2_with fail
  refine (keptI _ M1 (by omega)).mono ?_
  rintro e w31 ⟨rfl, hx⟩
  clear v1c0 v1c1 v1c2 v1c3 v2c0 v2c1 v2c2 v2c3 v3c0 v3c1 v3c2 v3c3 v4c0 v4c1 v4c2 v4c3 v5c0 v5c1 v5c2 v5c3
  replace G1 := G1.below hx
  replace V1 := V1.below hx
  replace G2 := G2.below hx
  replace V2 := V2.below hx
  replace G3 := G3.below hx
  replace V3 := V3.below hx
  replace M1 := M1.below hx
  replace M2 := M2.below hx
  replace G4 := G4.below hx
  replace V4 := V4.below hx
  replace G5 := G5.below hx
  replace V5 := V5.below hx
  replace hb0 := bel_tr hb0 hx
  have hsw31 : w30.heap.size ≤ w31.heap.size := Below.size hx
  clear hx
  obtain ⟨v1c0, v1c1, v1c2, v1c3⟩ := id V1
  obtain ⟨v2c0, v2c1, v2c2, v2c3⟩ := id V2
  obtain ⟨v3c0, v3c1, v3c2, v3c3⟩ := id V3
  obtain ⟨v4c0, v4c1, v4c2, v4c3⟩ := id V4
  obtain ⟨v5c0, v5c1, v5c2, v5c3⟩ := id V5
  go_wp2_with fail
  refine (keptI _ M2 (by omega)).mono ?_
  rintro e w32 ⟨rfl, hx⟩
  clear v1c0 v1c1 v1c2 v1c3 v2c0 v2c1 v2c2 v2c3 v3c0 v3c1 v3c2 v3c3 v4c0 v4c1 v4c2 v4c3 v5c0 v5c1 v5c2 v5c3
  replace G1 := G1.below hx
  replace V1 := V1.below hx
  replace G2 := G2.below hx
  replace V2 := V2.below hx
  replace G3 := G3.below hx
  replace V3 := V3.below hx
  replace M1 := M1.below hx
  replace M2 := M2.below hx
  replace G4 := G4.below hx
  replace V4 := V4.below hx
  replace G5 := G5.below hx
  replace V5 := V5.below hx
  replace hb0 := bel_tr hb0 hx
  have hsw32 : w31.heap.size ≤ w32.heap.size := Below.size hx
  clear hx
  obtain ⟨v1c0, v1c1, v1c2, v1c3⟩ := id V1
  obtain ⟨v2c0, v2c1, v2c2, v2c3⟩ := id V2
  obtain ⟨v3c0, v3c1, v3c2, v3c3⟩ := id V3
  obtain ⟨v4c0, v4c1, v4c2, v4c3⟩ := id V4
  obtain ⟨v5c0, v5c1, v5c2, v5c3⟩ := id V5
  obtain ⟨us0, o0, -, -, z0⟩ := G2.parts.2
  obtain ⟨us1, o1, -, -, z1⟩ := G3.parts.2
  obtain ⟨us2, o2, -, -, z2⟩ := G5.parts.2
  have hxa : Below w32.heap.size w32 (w32.alloc (.cells #[.bool f2, .slice c2 n2 d2, .bool f3, .slice c3 n3 d3, .bool f5, .slice c5 n5 d5] 25)) := (Below.refl _ _).alloc (Nat.le_refl _) _
  have hba := bel_tr hb0 hxa
  have AP : Calls Tryd.prog 26 #[.slice (some ⟨w32.heap.size, 0, none⟩) 3 3] (w32.alloc (.cells #[.bool f2, .slice c2 n2 d2, .bool f3, .slice c3 n3 d3, .bool f5, .slice c5 n5 d5] 25)) fun e w' => e = .returned (.bool true) ∧ Below w.heap.size (w32.alloc (.cells #[.bool f2, .slice c2 n2 d2, .bool f3, .slice c3 n3 d3, .bool f5, .slice c5 n5 d5] 25)) w' := by
    refine rapartI w32.heap.size 3 3 w.heap.size (fun i => [c2, c3, c5].getD i none) (fun i => [n2, n3, n5].getD i 0) (fun i => [d2, d3, d5].getD i 0) (fun i => [us0, us1, us2].getD i []) _ (fun i hi => ?_) (fun i hi => ?_) (fun i j hi hj hij g h1 h2 => ?_) (by omega) (by omega) (fun i hi => ?_) (by have := hba.size; omega)
    · rcases (by omega : i = 0 ∨ i = 1 ∨ i = 2) with rfl | rfl | rfl <;> simp
    · rcases (by omega : i = 0 ∨ i = 1 ∨ i = 2) with rfl | rfl | rfl
      · exact (o0.below hxa).mono (by omega)
      · exact (o1.below hxa).mono (by omega)
      · exact (o2.below hxa).mono (by omega)
    · have hq : ∀ i, i < 3 → ∀ g, (Value.slice ([c2, c3, c5].getD i none) ([n2, n3, n5].getD i 0) ([d2, d3, d5].getD i 0)).ownBlock = some g → ((i = 0 → w6.heap.size ≤ g ∧ g < w7.heap.size) ∧ (i = 1 → w10.heap.size ≤ g ∧ g < w11.heap.size) ∧ (i = 2 → w26.heap.size ≤ g ∧ g < w27.heap.size)) := by
        intro i hi g hg
        refine ⟨?_, ?_, ?_⟩
        · rintro rfl; exact ⟨(o0.lt g hg).1, q2.out g hg⟩
        · rintro rfl; exact ⟨(o1.lt g hg).1, q3.out g hg⟩
        · rintro rfl; exact ⟨(o2.lt g hg).1, q5.out g hg⟩
      have a1 := hq i hi g h1
      have a2 := hq j hj g h2
      omega
    · rcases (by omega : i = 0 ∨ i = 1 ∨ i = 2) with rfl | rfl | rfl
      · show us0.length ≤ _; omega
      · show us1.length ≤ _; omega
      · show us2.length ≤ _; omega
  go_wp2_with fail
  refine AP.mono ?_
  rintro e wz ⟨rfl, hz⟩
  have hw := hba.trans hz
  clear AP hz hba hxa hb0 o0 o1 o2
  clear G1 G2 G3 G4 G5 V1 V2 V3 V4 V5 M1 M2
  clear v1c0 v1c1 v1c2 v1c3 v2c0 v2c1 v2c2 v2c3 v3c0 v3c1 v3c2 v3c3 v4c0 v4c1 v4c2 v4c3 v5c0 v5c1 v5c2 v5c3
  go_wp2
  go_ret
  exact ⟨rfl, hw⟩

set_option maxHeartbeats 1000000 in
theorem reckons_walk {a b : Option Addr} {p q : Bool} {na nb ca cb : Nat} {x y : Int} (w : World) (ha : TI w p a na ca x 1048576) (hb : TI w q b nb cb y 1048576) :
    Calls Tryd.prog 7 #[.agg #[.bool p, .slice a na ca], .agg #[.bool q, .slice b nb cb]] w fun e w' => e = .returned (.bool true) ∧ Below w.heap.size w w' := by
  obtain ⟨P0, P1, hb0, hsz⟩ := box2 w (.bool p) (.slice a na ca) (.bool q) (.slice b nb cb) 25
  replace ha := ha.below hb0
  replace hb := hb.below hb0
  go_enter Tryd.func7, Tryd.ntmps7
  go_wp2_with fail
  generalize (w.alloc (.cells #[.bool p, .slice a na ca] 25)).alloc (.cells #[.bool q, .slice b nb cb] 25) = W0 at *
  refine (awakeI _).mono ?_
  rintro e w1 ⟨rfl, hx⟩
  replace P0 := P0.below hx
  replace P1 := P1.below hx
  replace ha := ha.below hx
  replace hb := hb.below hx
  replace hb0 := bel_tr hb0 hx
  clear hx
  go_wp2
  go_loopw [6] (fun s wr => ∃ k : Nat, k ≤ 3 ∧ s = .int .i64 k ∧ Below w1.heap.size w1 wr) (fun s _ => 3 - (intOf s).toNat)
  case atStart => exact ⟨0, by omega, rfl, Below.refl _ _⟩
  case round =>
    obtain ⟨k, hk, rfl, hbel⟩ := hrel
    by_cases hlt : k < 3
    · have hkI : (k : Int) < 3 := by omega
      replace P0 := P0.below hbel
      replace P1 := P1.below hbel
      replace ha := ha.below hbel
      replace hb := hb.below hbel
      obtain ⟨p00, p01, p02, p03⟩ := id P0
      obtain ⟨p10, p11, p12, p13⟩ := id P1
      go_wp2_with fail
      refine (rek_walk k _ ha hb hlt).mono ?_
      rintro e w2 ⟨rfl, hx⟩
      replace P0 := P0.below hx
      replace ha := ha.below hx
      replace hbel := bel_tr hbel hx
      clear hx p00 p01 p02 p03 p10 p11 p12 p13
      obtain ⟨p00, p01, p02, p03⟩ := id P0
      go_wp2_with fail
      refine (rek_walk k _ ha ha hlt).mono ?_
      rintro e w3 ⟨rfl, hx⟩
      replace hbel := bel_tr hbel hx
      clear hx p00 p01 p02 p03 P0 P1 ha hb
      go_wp2
      go_roundw
      case rel => exact ⟨k + 1, by omega, by go_num, hbel⟩
      case measure => simp [intOf]; omega
    · have hkI : ¬ (k : Int) < 3 := by omega
      have hw := bel_tr hb0 hbel
      go_wp2
      go_ret
      exact ⟨rfl, hw⟩
end Go.Proofs.YtfelogbfijomiaaDoor

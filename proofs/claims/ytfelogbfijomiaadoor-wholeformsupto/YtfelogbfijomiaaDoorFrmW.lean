import Derived.Test.YtfelogbfijomiaaDoorR2T
import Derived.Test.YtfelogbfijomiaaDoorR2D
import Derived.Test.YtfelogbfijomiaaDoorWhG
import Derived.Test.YtfelogbfijomiaaDoorR2E
import Derived.Test.YtfelogbfijomiaaDoorTIn
namespace Go.Proofs.YtfelogbfijomiaaDoor
open Go.RowKit
attribute [local go_sem ↓] Go.wp_at_zero Go.wp_at_succ

theorem fromT2 {a : Option Addr} {na ca : Nat} {m x : Int} {S : Nat} {b : Bool} (w : World) (ha : Num w a na ca m S) (hS : S ≤ 10000000) (h : ws b m = x) :
    Calls Tryd.prog 34 #[.bool b, .slice a na ca] w fun e w' => ∃ f c n d, e = .returned (.agg #[.bool f, .slice c n d]) ∧ GI w' w.heap.size (.agg #[.bool f, .slice c n d]) x S ∧ Below w.heap.size w w' := by
  subst h
  refine (fromI b w ha (by omega)).mono ?_
  rintro e w' ⟨v, rfl, G, hb⟩
  obtain ⟨f, c, n, d, rfl⟩ := G.form
  exact ⟨f, c, n, d, rfl, G, hb⟩
theorem word_in {v : Int} (h0 : -9223372036854775808 ≤ v) (h1 : v < 9223372036854775808) : wordI v = v ∧ fitI v = true := by
  refine ⟨?_, ?_⟩
  · unfold wordI; rw [if_pos ⟨h0, h1⟩]
  · unfold fitI; exact decide_eq_true ⟨h0, h1⟩
set_option maxRecDepth 100000 in
set_option maxHeartbeats 4000000 in
theorem frm_walk {a : Option Addr} {p neg : Bool} {na ca : Nat} {x v : Int} (w : World) (ha : TI w p a na ca x 1048576) (v0 : -9223372036854775808 ≤ v) (v1 : v < 9223372036854775808) :
    Calls Tryd.prog 6 #[.agg #[.bool p, .slice a na ca], .int .i64 v, .bool neg] w fun e w' => e = .returned (.bool true) ∧ Below w.heap.size w w' := by
  obtain ⟨m, ⟨xs, hnx, hlx, hrx, hAx, rfl, hSx⟩, hX⟩ := id ha
  have HX : Hid (ws p (val xs) = x) := hX
  have Hnx : Hid (na = xs.length) := hnx
  have Kx : xs.length ≤ 1048576 := by omega
  have M0 : Num w a na ca (val xs) 1048576 := ⟨xs, hnx, hlx, hrx, hAx, rfl, hSx⟩
  have ma := M0
  clear hX hnx
  obtain ⟨P0, hb0, hsz⟩ := box1 w (.bool p) (.slice a na ca) 25
  have A0 := ha
  replace ha := ha.below hb0
  replace ma := ma.below hb0
  replace hrx := hrx.below hb0
  obtain ⟨HW1, HW2⟩ := word_in v0 v1
  have HW : Hid (wordI v = v ∧ fitI v = true) := ⟨HW1, HW2⟩
  clear HW1 HW2
  have hfd : ∀ (w : World) (p : Bool) (a : Option Addr) (n c : Nat), (Instr.field 25 (.agg #[.bool p, .slice a n c]) 1).run Tryd.prog w = .ok (.slice a n c) w := fun _ _ _ _ _ => by kernel_rfl
  go_enter Tryd.func6, Tryd.ntmps6
  go_wp2_with fail
  generalize w.alloc (.cells #[.bool p, .slice a na ca] 25) = W0 at *
  obtain ⟨p0c0, p0c1, p0c2, p0c3⟩ := id P0
  refine (awakeI _).mono ?_
  rintro e w1 ⟨rfl, hx⟩
  clear p0c0 p0c1 p0c2 p0c3
  replace P0 := P0.below hx
  replace ha := ha.below hx
  replace ma := ma.below hx
  replace hrx := hrx.below hx
  replace hb0 := bel_tr hb0 hx
  have hsw1 : W0.heap.size ≤ w1.heap.size := Below.size hx
  clear hx
  obtain ⟨p0c0, p0c1, p0c2, p0c3⟩ := id P0
  go_wp2_with fail
  refine (lendI p xs _ Hnx.out hlx (by omega) hrx).mono ?_
  rintro e w2 ⟨r1, b1, rfl, L1, hl1, hx⟩
  clear p0c0 p0c1 p0c2 p0c3
  replace P0 := P0.below hx
  replace ha := ha.below hx
  replace ma := ma.below hx
  replace hrx := hrx.below hx
  replace hb0 := bel_tr hb0 hx
  have hsw2 : w1.heap.size ≤ w2.heap.size := Below.size hx
  clear hx
  obtain ⟨p0c0, p0c1, p0c2, p0c3⟩ := id P0
  clear hrx
  have hg1 : b1.gf < w2.heap.size ∧ b1.gw < w2.heap.size := by have := L1.lf; have := L1.lw; have := L1.lt; omega
  have hg2 : w.heap.size + 1 ≤ b1.gf ∧ w.heap.size + 1 ≤ b1.gw := by have := L1.ls.lf; have := L1.ls.lw; omega
  go_wp2_with fail
  refine (intI _ L1).mono ?_
  rintro e w3 ⟨rfl, hx⟩
  clear p0c0 p0c1 p0c2 p0c3
  replace P0 := P0.below hx
  replace ha := ha.below hx
  replace ma := ma.below hx
  replace L1 := L1.below hx
  replace hb0 := bel_tr hb0 hx
  have hsw3 : w2.heap.size ≤ w3.heap.size := Below.size hx
  clear hx
  obtain ⟨p0c0, p0c1, p0c2, p0c3⟩ := id P0
  go_wp2_with fail
  refine (normT _ (L1.ti hAx (S := 1048576) Kx) (by omega)).mono ?_
  rintro e w4 ⟨f1, c1, n1, d1, rfl, G1, hx⟩
  clear p0c0 p0c1 p0c2 p0c3
  replace P0 := P0.below hx
  replace ha := ha.below hx
  replace ma := ma.below hx
  replace L1 := L1.below hx
  replace hb0 := bel_tr hb0 hx
  have hsw4 : w3.heap.size ≤ w4.heap.size := Below.size hx
  clear hx
  obtain ⟨p0c0, p0c1, p0c2, p0c3⟩ := id P0
  rw [HX.out] at G1
  have q1 : Hid (∀ g, (Value.slice c1 n1 d1).ownBlock = some g → g < w4.heap.size) := fun g hg => (G1.parts.2.lt g hg).2
  obtain ⟨V1, hx, hsx⟩ := box1 w4 (.bool f1) (.slice c1 n1 d1) 25
  clear p0c0 p0c1 p0c2 p0c3
  replace P0 := P0.below hx
  replace ha := ha.below hx
  replace ma := ma.below hx
  replace L1 := L1.below hx
  replace G1 := G1.below hx
  replace hb0 := bel_tr hb0 hx
  have hsw5 : w4.heap.size ≤ (w4.alloc (.cells #[.bool f1, .slice c1 n1 d1] 25)).heap.size := Below.size hx
  clear hx
  obtain ⟨p0c0, p0c1, p0c2, p0c3⟩ := id P0
  obtain ⟨v1c0, v1c1, v1c2, v1c3⟩ := id V1
  go_wp2_with fail
  generalize w4.alloc (.cells #[.bool f1, .slice c1 n1 d1] 25) = w5 at *
  refine (intI _ L1).mono ?_
  rintro e w6 ⟨rfl, hx⟩
  clear p0c0 p0c1 p0c2 p0c3 v1c0 v1c1 v1c2 v1c3
  replace P0 := P0.below hx
  replace ha := ha.below hx
  replace ma := ma.below hx
  replace L1 := L1.below hx
  replace G1 := G1.below hx
  replace V1 := V1.below hx
  replace hb0 := bel_tr hb0 hx
  have hsw6 : w5.heap.size ≤ w6.heap.size := Below.size hx
  clear hx
  obtain ⟨p0c0, p0c1, p0c2, p0c3⟩ := id P0
  obtain ⟨v1c0, v1c1, v1c2, v1c3⟩ := id V1
  go_wp2_with fail
  refine (fromT2 (b := neg) _ (LB.num L1.ls L1.hn hAx (S := 1048576) Kx) (by omega) rfl).mono ?_
  rintro e w7 ⟨f2, c2, n2, d2, rfl, G2, hx⟩
  clear p0c0 p0c1 p0c2 p0c3 v1c0 v1c1 v1c2 v1c3
  replace P0 := P0.below hx
  replace ha := ha.below hx
  replace ma := ma.below hx
  replace L1 := L1.below hx
  replace G1 := G1.below hx
  replace V1 := V1.below hx
  replace hb0 := bel_tr hb0 hx
  have hsw7 : w6.heap.size ≤ w7.heap.size := Below.size hx
  clear hx
  obtain ⟨p0c0, p0c1, p0c2, p0c3⟩ := id P0
  obtain ⟨v1c0, v1c1, v1c2, v1c3⟩ := id V1
  have q2 : Hid (∀ g, (Value.slice c2 n2 d2).ownBlock = some g → g < w7.heap.size) := fun g hg => (G2.parts.2.lt g hg).2
  obtain ⟨V2, hx, hsx⟩ := box1 w7 (.bool f2) (.slice c2 n2 d2) 25
  clear p0c0 p0c1 p0c2 p0c3 v1c0 v1c1 v1c2 v1c3
  replace P0 := P0.below hx
  replace ha := ha.below hx
  replace ma := ma.below hx
  replace L1 := L1.below hx
  replace G1 := G1.below hx
  replace V1 := V1.below hx
  replace G2 := G2.below hx
  replace hb0 := bel_tr hb0 hx
  have hsw8 : w7.heap.size ≤ (w7.alloc (.cells #[.bool f2, .slice c2 n2 d2] 25)).heap.size := Below.size hx
  clear hx
  obtain ⟨p0c0, p0c1, p0c2, p0c3⟩ := id P0
  obtain ⟨v1c0, v1c1, v1c2, v1c3⟩ := id V1
  obtain ⟨v2c0, v2c1, v2c2, v2c3⟩ := id V2
  go_wp2_with fail
  generalize w7.alloc (.cells #[.bool f2, .slice c2 n2 d2] 25) = w8 at *
  refine (ofT v _ (by omega) (by omega)).mono ?_
  rintro e w9 ⟨f3, c3, n3, d3, rfl, G3, hx⟩
  clear p0c0 p0c1 p0c2 p0c3 v1c0 v1c1 v1c2 v1c3 v2c0 v2c1 v2c2 v2c3
  replace P0 := P0.below hx
  replace ha := ha.below hx
  replace ma := ma.below hx
  replace L1 := L1.below hx
  replace G1 := G1.below hx
  replace V1 := V1.below hx
  replace G2 := G2.below hx
  replace V2 := V2.below hx
  replace hb0 := bel_tr hb0 hx
  have hsw9 : w8.heap.size ≤ w9.heap.size := Below.size hx
  clear hx
  obtain ⟨p0c0, p0c1, p0c2, p0c3⟩ := id P0
  obtain ⟨v1c0, v1c1, v1c2, v1c3⟩ := id V1
  obtain ⟨v2c0, v2c1, v2c2, v2c3⟩ := id V2
  have q3 : Hid (∀ g, (Value.slice c3 n3 d3).ownBlock = some g → g < w9.heap.size) := fun g hg => (G3.parts.2.lt g hg).2
  obtain ⟨V3, hx, hsx⟩ := box1 w9 (.bool f3) (.slice c3 n3 d3) 25
  clear p0c0 p0c1 p0c2 p0c3 v1c0 v1c1 v1c2 v1c3 v2c0 v2c1 v2c2 v2c3
  replace P0 := P0.below hx
  replace ha := ha.below hx
  replace ma := ma.below hx
  replace L1 := L1.below hx
  replace G1 := G1.below hx
  replace V1 := V1.below hx
  replace G2 := G2.below hx
  replace V2 := V2.below hx
  replace G3 := G3.below hx
  replace hb0 := bel_tr hb0 hx
  have hsw10 : w9.heap.size ≤ (w9.alloc (.cells #[.bool f3, .slice c3 n3 d3] 25)).heap.size := Below.size hx
  clear hx
  obtain ⟨p0c0, p0c1, p0c2, p0c3⟩ := id P0
  obtain ⟨v1c0, v1c1, v1c2, v1c3⟩ := id V1
  obtain ⟨v2c0, v2c1, v2c2, v2c3⟩ := id V2
  obtain ⟨v3c0, v3c1, v3c2, v3c3⟩ := id V3
  go_wp2_with fail
  generalize w9.alloc (.cells #[.bool f3, .slice c3 n3 d3] 25) = w10 at *
  refine (intI _ L1).mono ?_
  rintro e w11 ⟨rfl, hx⟩
  clear p0c0 p0c1 p0c2 p0c3 v1c0 v1c1 v1c2 v1c3 v2c0 v2c1 v2c2 v2c3 v3c0 v3c1 v3c2 v3c3
  replace P0 := P0.below hx
  replace ha := ha.below hx
  replace ma := ma.below hx
  replace L1 := L1.below hx
  replace G1 := G1.below hx
  replace V1 := V1.below hx
  replace G2 := G2.below hx
  replace V2 := V2.below hx
  replace G3 := G3.below hx
  replace V3 := V3.below hx
  replace hb0 := bel_tr hb0 hx
  have hsw11 : w10.heap.size ≤ w11.heap.size := Below.size hx
  clear hx
  obtain ⟨p0c0, p0c1, p0c2, p0c3⟩ := id P0
  obtain ⟨v1c0, v1c1, v1c2, v1c3⟩ := id V1
  obtain ⟨v2c0, v2c1, v2c2, v2c3⟩ := id V2
  obtain ⟨v3c0, v3c1, v3c2, v3c3⟩ := id V3
  go_wp2_with fail
  refine (normT _ (L1.ti hAx (S := 1048576) Kx) (by omega)).mono ?_
  rintro e w12 ⟨f4, c4, n4, d4, rfl, G4, hx⟩
  clear p0c0 p0c1 p0c2 p0c3 v1c0 v1c1 v1c2 v1c3 v2c0 v2c1 v2c2 v2c3 v3c0 v3c1 v3c2 v3c3
  replace P0 := P0.below hx
  replace ha := ha.below hx
  replace ma := ma.below hx
  replace L1 := L1.below hx
  replace G1 := G1.below hx
  replace V1 := V1.below hx
  replace G2 := G2.below hx
  replace V2 := V2.below hx
  replace G3 := G3.below hx
  replace V3 := V3.below hx
  replace hb0 := bel_tr hb0 hx
  have hsw12 : w11.heap.size ≤ w12.heap.size := Below.size hx
  clear hx
  obtain ⟨p0c0, p0c1, p0c2, p0c3⟩ := id P0
  obtain ⟨v1c0, v1c1, v1c2, v1c3⟩ := id V1
  obtain ⟨v2c0, v2c1, v2c2, v2c3⟩ := id V2
  obtain ⟨v3c0, v3c1, v3c2, v3c3⟩ := id V3
  rw [HX.out] at G4
  have q4 : Hid (∀ g, (Value.slice c4 n4 d4).ownBlock = some g → g < w12.heap.size) := fun g hg => (G4.parts.2.lt g hg).2
  obtain ⟨V4, hx, hsx⟩ := box1 w12 (.bool f4) (.slice c4 n4 d4) 25
  clear p0c0 p0c1 p0c2 p0c3 v1c0 v1c1 v1c2 v1c3 v2c0 v2c1 v2c2 v2c3 v3c0 v3c1 v3c2 v3c3
  replace P0 := P0.below hx
  replace ha := ha.below hx
  replace ma := ma.below hx
  replace L1 := L1.below hx
  replace G1 := G1.below hx
  replace V1 := V1.below hx
  replace G2 := G2.below hx
  replace V2 := V2.below hx
  replace G3 := G3.below hx
  replace V3 := V3.below hx
  replace G4 := G4.below hx
  replace hb0 := bel_tr hb0 hx
  have hsw13 : w12.heap.size ≤ (w12.alloc (.cells #[.bool f4, .slice c4 n4 d4] 25)).heap.size := Below.size hx
  clear hx
  obtain ⟨p0c0, p0c1, p0c2, p0c3⟩ := id P0
  obtain ⟨v1c0, v1c1, v1c2, v1c3⟩ := id V1
  obtain ⟨v2c0, v2c1, v2c2, v2c3⟩ := id V2
  obtain ⟨v3c0, v3c1, v3c2, v3c3⟩ := id V3
  obtain ⟨v4c0, v4c1, v4c2, v4c3⟩ := id V4
  go_wp2_with fail
  generalize w12.alloc (.cells #[.bool f4, .slice c4 n4 d4] 25) = w13 at *
  refine (intI _ L1).mono ?_
  rintro e w14 ⟨rfl, hx⟩
  clear p0c0 p0c1 p0c2 p0c3 v1c0 v1c1 v1c2 v1c3 v2c0 v2c1 v2c2 v2c3 v3c0 v3c1 v3c2 v3c3 v4c0 v4c1 v4c2 v4c3
  replace P0 := P0.below hx
  replace ha := ha.below hx
  replace ma := ma.below hx
  replace L1 := L1.below hx
  replace G1 := G1.below hx
  replace V1 := V1.below hx
  replace G2 := G2.below hx
  replace V2 := V2.below hx
  replace G3 := G3.below hx
  replace V3 := V3.below hx
  replace G4 := G4.below hx
  replace V4 := V4.below hx
  replace hb0 := bel_tr hb0 hx
  have hsw14 : w13.heap.size ≤ w14.heap.size := Below.size hx
  clear hx
  obtain ⟨p0c0, p0c1, p0c2, p0c3⟩ := id P0
  obtain ⟨v1c0, v1c1, v1c2, v1c3⟩ := id V1
  obtain ⟨v2c0, v2c1, v2c2, v2c3⟩ := id V2
  obtain ⟨v3c0, v3c1, v3c2, v3c3⟩ := id V3
  obtain ⟨v4c0, v4c1, v4c2, v4c3⟩ := id V4
  go_wp2_with fail
  refine (int64T _ (L1.ti hAx (S := 1048576) Kx) (by omega)).mono ?_
  rintro e w15 ⟨rfl, hx⟩
  clear p0c0 p0c1 p0c2 p0c3 v1c0 v1c1 v1c2 v1c3 v2c0 v2c1 v2c2 v2c3 v3c0 v3c1 v3c2 v3c3 v4c0 v4c1 v4c2 v4c3
  replace P0 := P0.below hx
  replace ha := ha.below hx
  replace ma := ma.below hx
  replace L1 := L1.below hx
  replace G1 := G1.below hx
  replace V1 := V1.below hx
  replace G2 := G2.below hx
  replace V2 := V2.below hx
  replace G3 := G3.below hx
  replace V3 := V3.below hx
  replace G4 := G4.below hx
  replace V4 := V4.below hx
  replace hb0 := bel_tr hb0 hx
  have hsw15 : w14.heap.size ≤ w15.heap.size := Below.size hx
  clear hx
  obtain ⟨p0c0, p0c1, p0c2, p0c3⟩ := id P0
  obtain ⟨v1c0, v1c1, v1c2, v1c3⟩ := id V1
  obtain ⟨v2c0, v2c1, v2c2, v2c3⟩ := id V2
  obtain ⟨v3c0, v3c1, v3c2, v3c3⟩ := id V3
  obtain ⟨v4c0, v4c1, v4c2, v4c3⟩ := id V4
  rw [HX.out]
  obtain ⟨wI, hwI⟩ : ∃ z, wordI x = z := ⟨_, rfl⟩
  obtain ⟨fI, hfI⟩ : ∃ z, fitI x = z := ⟨_, rfl⟩
  have HI : Hid (wordI x = wI ∧ fitI x = fI) := ⟨hwI, hfI⟩
  rw [hwI, hfI]
  clear hwI hfI
  go_wp2_with fail
  refine (rint64T _ ha (by omega)).mono ?_
  rintro e w16 ⟨rfl, hx⟩
  clear p0c0 p0c1 p0c2 p0c3 v1c0 v1c1 v1c2 v1c3 v2c0 v2c1 v2c2 v2c3 v3c0 v3c1 v3c2 v3c3 v4c0 v4c1 v4c2 v4c3
  replace P0 := P0.below hx
  replace ha := ha.below hx
  replace ma := ma.below hx
  replace L1 := L1.below hx
  replace G1 := G1.below hx
  replace V1 := V1.below hx
  replace G2 := G2.below hx
  replace V2 := V2.below hx
  replace G3 := G3.below hx
  replace V3 := V3.below hx
  replace G4 := G4.below hx
  replace V4 := V4.below hx
  replace hb0 := bel_tr hb0 hx
  have hsw16 : w15.heap.size ≤ w16.heap.size := Below.size hx
  clear hx
  obtain ⟨p0c0, p0c1, p0c2, p0c3⟩ := id P0
  obtain ⟨v1c0, v1c1, v1c2, v1c3⟩ := id V1
  obtain ⟨v2c0, v2c1, v2c2, v2c3⟩ := id V2
  obtain ⟨v3c0, v3c1, v3c2, v3c3⟩ := id V3
  obtain ⟨v4c0, v4c1, v4c2, v4c3⟩ := id V4
  rw [HI.out.1, HI.out.2]
  go_wp2_with fail
  refine (int64T _ G3.ti (by omega)).mono ?_
  rintro e w17 ⟨rfl, hx⟩
  clear p0c0 p0c1 p0c2 p0c3 v1c0 v1c1 v1c2 v1c3 v2c0 v2c1 v2c2 v2c3 v3c0 v3c1 v3c2 v3c3 v4c0 v4c1 v4c2 v4c3
  replace P0 := P0.below hx
  replace ha := ha.below hx
  replace ma := ma.below hx
  replace L1 := L1.below hx
  replace G1 := G1.below hx
  replace V1 := V1.below hx
  replace G2 := G2.below hx
  replace V2 := V2.below hx
  replace G3 := G3.below hx
  replace V3 := V3.below hx
  replace G4 := G4.below hx
  replace V4 := V4.below hx
  replace hb0 := bel_tr hb0 hx
  have hsw17 : w16.heap.size ≤ w17.heap.size := Below.size hx
  clear hx
  obtain ⟨p0c0, p0c1, p0c2, p0c3⟩ := id P0
  obtain ⟨v1c0, v1c1, v1c2, v1c3⟩ := id V1
  obtain ⟨v2c0, v2c1, v2c2, v2c3⟩ := id V2
  obtain ⟨v3c0, v3c1, v3c2, v3c3⟩ := id V3
  obtain ⟨v4c0, v4c1, v4c2, v4c3⟩ := id V4
  rw [HW.out.1, HW.out.2]
  go_wp2_with fail
  go_region_held3 (fun w' => w'.cell? ⟨w4.heap.size, 0, none⟩ = some (.bool f1) ∧ w'.cell? ⟨w4.heap.size, 1, none⟩ = some (.slice c1 n1 d1) ∧ w'.cell? ⟨w12.heap.size, 0, none⟩ = some (.bool f4) ∧ w'.cell? ⟨w12.heap.size, 1, none⟩ = some (.slice c4 n4 d4) ∧ w'.cell? ⟨w.heap.size, 0, none⟩ = some (.bool p) ∧ w'.cell? ⟨w.heap.size, 1, none⟩ = some (.slice a na ca))
      (first | (go_keep; done) | (refine ⟨?_, ?_, ?_, ?_, ?_, ?_⟩ <;> first | exact kept_c hb4 (by go_keep) | exact kept_c hb3 (by go_keep) | exact kept_c hb2 (by go_keep) | exact kept_c hb1 (by go_keep)))
      ((first
        | (go_at_call 37; go_fit (rnormT _ (ha.drewN _) (by omega)); rintro e w18_1 ⟨f5, c5, n5, d5, rfl, G5, hb1⟩; have hd1 : Below w17.heap.size w17 w18_1 := (by first | exact hb1 | exact bel_tr (belN (Below.refl _ w17) 1) hb1); have hc1 := hd1)
        | (go_at_call 23; go_fit (rsameI _ (G1.below hc1) G5 (by omega) rfl); rintro e w18_2 ⟨rfl, hb2⟩; have hd2 : Below w18_1.heap.size w18_1 w18_2 := (by first | exact hb2 | exact bel_tr (belN (Below.refl _ w18_1) 1) hb2); have hc2 := bel_tr hc1 hd2)
        | (go_at_call 37; go_fit (rnormT _ (ha.below hc2) (by omega)); rintro e w18_3 ⟨f6, c6, n6, d6, rfl, G6, hb3⟩; have hd3 : Below w18_2.heap.size w18_2 w18_3 := (by first | exact hb3 | exact bel_tr (belN (Below.refl _ w18_2) 1) hb3); have hc3 := bel_tr hc2 hd3)
        | (go_at_call 23; go_fit (rsameI _ (G4.below hc3) G6 (by omega) rfl); rintro e w18_4 ⟨rfl, hb4⟩; have hd4 : Below w18_3.heap.size w18_3 w18_4 := (by first | exact hb4 | exact bel_tr (belN (Below.refl _ w18_3) 1) hb4); have hc4 := bel_tr hc3 hd4)))
  have hx := hc4
  clear p0c0 p0c1 p0c2 p0c3 v1c0 v1c1 v1c2 v1c3 v2c0 v2c1 v2c2 v2c3 v3c0 v3c1 v3c2 v3c3 v4c0 v4c1 v4c2 v4c3
  replace P0 := P0.below hx
  replace ha := ha.below hx
  replace ma := ma.below hx
  replace L1 := L1.below hx
  replace G1 := G1.below hx
  replace V1 := V1.below hx
  replace G2 := G2.below hx
  replace V2 := V2.below hx
  replace G3 := G3.below hx
  replace V3 := V3.below hx
  replace G4 := G4.below hx
  replace V4 := V4.below hx
  replace hb0 := bel_tr hb0 hx
  have hsw18_4 : w17.heap.size ≤ w18_4.heap.size := Below.size hx
  clear hx
  obtain ⟨p0c0, p0c1, p0c2, p0c3⟩ := id P0
  obtain ⟨v1c0, v1c1, v1c2, v1c3⟩ := id V1
  obtain ⟨v2c0, v2c1, v2c2, v2c3⟩ := id V2
  obtain ⟨v3c0, v3c1, v3c2, v3c3⟩ := id V3
  obtain ⟨v4c0, v4c1, v4c2, v4c3⟩ := id V4
  clear hb1 hc1 hd1 hb2 hc2 hd2 hb3 hc3 hd3 hb4 hc4 hd4
  clear G5 G6
  go_wp2_with fail
  go_region_held3 (fun w' => w'.cell? ⟨w7.heap.size, 0, none⟩ = some (.bool f2) ∧ w'.cell? ⟨w7.heap.size, 1, none⟩ = some (.slice c2 n2 d2) ∧ w'.cell? ⟨w.heap.size, 0, none⟩ = some (.bool p) ∧ w'.cell? ⟨w.heap.size, 1, none⟩ = some (.slice a na ca))
      (first | (go_keep; done) | (refine ⟨?_, ?_, ?_, ?_⟩ <;> first | exact kept_c hb2 (by go_keep) | exact kept_c hb1 (by go_keep)))
      ((first
        | (go_at_call 38; go_fit (rfromI _ _ (ma.drewN _) (by omega)); rintro e w19_1 ⟨f5, c5, n5, d5, rfl, G5, hb1⟩; have hd1 : Below w18_4.heap.size w18_4 w19_1 := (by first | exact hb1 | exact bel_tr (belN (Below.refl _ w18_4) 1) hb1); have hc1 := hd1)
        | (go_at_call 23; go_fit (rsameI _ (G2.below hc1) G5 (by omega) rfl); rintro e w19_2 ⟨rfl, hb2⟩; have hd2 : Below w19_1.heap.size w19_1 w19_2 := (by first | exact hb2 | exact bel_tr (belN (Below.refl _ w19_1) 1) hb2); have hc2 := bel_tr hc1 hd2)))
  have hx := hc2
  clear p0c0 p0c1 p0c2 p0c3 v1c0 v1c1 v1c2 v1c3 v2c0 v2c1 v2c2 v2c3 v3c0 v3c1 v3c2 v3c3 v4c0 v4c1 v4c2 v4c3
  replace P0 := P0.below hx
  replace ha := ha.below hx
  replace ma := ma.below hx
  replace L1 := L1.below hx
  replace G1 := G1.below hx
  replace V1 := V1.below hx
  replace G2 := G2.below hx
  replace V2 := V2.below hx
  replace G3 := G3.below hx
  replace V3 := V3.below hx
  replace G4 := G4.below hx
  replace V4 := V4.below hx
  replace hb0 := bel_tr hb0 hx
  have hsw19_2 : w18_4.heap.size ≤ w19_2.heap.size := Below.size hx
  clear hx
  obtain ⟨p0c0, p0c1, p0c2, p0c3⟩ := id P0
  obtain ⟨v1c0, v1c1, v1c2, v1c3⟩ := id V1
  obtain ⟨v2c0, v2c1, v2c2, v2c3⟩ := id V2
  obtain ⟨v3c0, v3c1, v3c2, v3c3⟩ := id V3
  obtain ⟨v4c0, v4c1, v4c2, v4c3⟩ := id V4
  clear hb1 hc1 hd1 hb2 hc2 hd2
  clear G5
  go_wp2_with fail
  go_region_held3 (fun w' => w'.cell? ⟨w9.heap.size, 0, none⟩ = some (.bool f3) ∧ w'.cell? ⟨w9.heap.size, 1, none⟩ = some (.slice c3 n3 d3))
      (first | (go_keep; done) | (refine ⟨?_, ?_⟩ <;> first | exact kept_c hb2 (by go_keep) | exact kept_c hb1 (by go_keep)))
      ((first
        | (go_at_call 21; go_fit (rofI v _ (by omega) (by omega)); rintro e w20_1 ⟨f5, c5, n5, d5, rfl, G5, hb1⟩; have hd1 : Below w19_2.heap.size w19_2 w20_1 := (by first | exact hb1 | exact bel_tr (belN (Below.refl _ w19_2) 1) hb1); have hc1 := hd1)
        | (go_at_call 23; go_fit (rsameI _ (G3.below hc1) G5 (by omega) rfl); rintro e w20_2 ⟨rfl, hb2⟩; have hd2 : Below w20_1.heap.size w20_1 w20_2 := (by first | exact hb2 | exact bel_tr (belN (Below.refl _ w20_1) 1) hb2); have hc2 := bel_tr hc1 hd2)))
  have hx := hc2
  clear p0c0 p0c1 p0c2 p0c3 v1c0 v1c1 v1c2 v1c3 v2c0 v2c1 v2c2 v2c3 v3c0 v3c1 v3c2 v3c3 v4c0 v4c1 v4c2 v4c3
  replace P0 := P0.below hx
  replace ha := ha.below hx
  replace ma := ma.below hx
  replace L1 := L1.below hx
  replace G1 := G1.below hx
  replace V1 := V1.below hx
  replace G2 := G2.below hx
  replace V2 := V2.below hx
  replace G3 := G3.below hx
  replace V3 := V3.below hx
  replace G4 := G4.below hx
  replace V4 := V4.below hx
  replace hb0 := bel_tr hb0 hx
  have hsw20_2 : w19_2.heap.size ≤ w20_2.heap.size := Below.size hx
  clear hx
  obtain ⟨p0c0, p0c1, p0c2, p0c3⟩ := id P0
  obtain ⟨v1c0, v1c1, v1c2, v1c3⟩ := id V1
  obtain ⟨v2c0, v2c1, v2c2, v2c3⟩ := id V2
  obtain ⟨v3c0, v3c1, v3c2, v3c3⟩ := id V3
  obtain ⟨v4c0, v4c1, v4c2, v4c3⟩ := id V4
  clear hb1 hc1 hd1 hb2 hc2 hd2
  clear G5
  go_wp2_with fail
  refine (keptI _ L1 (by omega)).mono ?_
  rintro e w21 ⟨rfl, hx⟩
  clear p0c0 p0c1 p0c2 p0c3 v1c0 v1c1 v1c2 v1c3 v2c0 v2c1 v2c2 v2c3 v3c0 v3c1 v3c2 v3c3 v4c0 v4c1 v4c2 v4c3
  replace P0 := P0.below hx
  replace ha := ha.below hx
  replace ma := ma.below hx
  replace L1 := L1.below hx
  replace G1 := G1.below hx
  replace V1 := V1.below hx
  replace G2 := G2.below hx
  replace V2 := V2.below hx
  replace G3 := G3.below hx
  replace V3 := V3.below hx
  replace G4 := G4.below hx
  replace V4 := V4.below hx
  replace hb0 := bel_tr hb0 hx
  have hsw21 : w20_2.heap.size ≤ w21.heap.size := Below.size hx
  clear hx
  obtain ⟨p0c0, p0c1, p0c2, p0c3⟩ := id P0
  obtain ⟨v1c0, v1c1, v1c2, v1c3⟩ := id V1
  obtain ⟨v2c0, v2c1, v2c2, v2c3⟩ := id V2
  obtain ⟨v3c0, v3c1, v3c2, v3c3⟩ := id V3
  obtain ⟨v4c0, v4c1, v4c2, v4c3⟩ := id V4
  go_wp2_with fail
  refine (turnI _ L1 hAx (by omega)).mono ?_
  rintro e w22 ⟨rfl, xs', L', hl', hA', ho⟩
  clear p0c0 p0c1 p0c2 p0c3 v1c0 v1c1 v1c2 v1c3 v2c0 v2c1 v2c2 v2c3 v3c0 v3c1 v3c2 v3c3 v4c0 v4c1 v4c2 v4c3
  replace hb0 : Below w.heap.size w w22 := hb0.trans (ho.below (by omega) (by omega))
  replace ha := A0.below hb0
  replace ma := M0.below hb0
  replace P0 := P0.off2 ho (by omega) (by omega)
  replace V1 := V1.off2 ho (by omega) (by omega)
  replace V2 := V2.off2 ho (by omega) (by omega)
  replace V3 := V3.off2 ho (by omega) (by omega)
  replace V4 := V4.off2 ho (by omega) (by omega)
  replace G1 := G1.off2 ho (by omega) (by omega)
  replace G2 := G2.off2 ho (by omega) (by omega)
  replace G3 := G3.off2 ho (by omega) (by omega)
  replace G4 := G4.off2 ho (by omega) (by omega)
  have hsw22 : w21.heap.size ≤ w22.heap.size := Nat.le_of_eq ho.size.symm
  clear ho L1
  obtain ⟨p0c0, p0c1, p0c2, p0c3⟩ := id P0
  obtain ⟨v1c0, v1c1, v1c2, v1c3⟩ := id V1
  obtain ⟨v2c0, v2c1, v2c2, v2c3⟩ := id V2
  obtain ⟨v3c0, v3c1, v3c2, v3c3⟩ := id V3
  obtain ⟨v4c0, v4c1, v4c2, v4c3⟩ := id V4
  go_wp2_with fail
  go_region_held3 (fun w' => w'.cell? ⟨w4.heap.size, 0, none⟩ = some (.bool f1) ∧ w'.cell? ⟨w4.heap.size, 1, none⟩ = some (.slice c1 n1 d1) ∧ w'.cell? ⟨w7.heap.size, 0, none⟩ = some (.bool f2) ∧ w'.cell? ⟨w7.heap.size, 1, none⟩ = some (.slice c2 n2 d2) ∧ w'.cell? ⟨w.heap.size, 0, none⟩ = some (.bool p) ∧ w'.cell? ⟨w.heap.size, 1, none⟩ = some (.slice a na ca))
      (first | (go_keep; done) | (refine ⟨?_, ?_, ?_, ?_, ?_, ?_⟩ <;> first | exact kept_c hb4 (by go_keep) | exact kept_c hb3 (by go_keep) | exact kept_c hb2 (by go_keep) | exact kept_c hb1 (by go_keep)))
      ((first
        | (go_at_call 37; go_fit (rnormT _ (ha.drewN _) (by omega)); rintro e w23_1 ⟨f5, c5, n5, d5, rfl, G5, hb1⟩; have hd1 : Below w22.heap.size w22 w23_1 := (by first | exact hb1 | exact bel_tr (belN (Below.refl _ w22) 1) hb1); have hc1 := hd1)
        | (go_at_call 23; go_fit (rsameI _ (G1.below hc1) G5 (by omega) rfl); rintro e w23_2 ⟨rfl, hb2⟩; have hd2 : Below w23_1.heap.size w23_1 w23_2 := (by first | exact hb2 | exact bel_tr (belN (Below.refl _ w23_1) 1) hb2); have hc2 := bel_tr hc1 hd2)
        | (go_at_call 38; go_fit (rfromI _ _ (ma.below hc2) (by omega)); rintro e w23_3 ⟨f6, c6, n6, d6, rfl, G6, hb3⟩; have hd3 : Below w23_2.heap.size w23_2 w23_3 := (by first | exact hb3 | exact bel_tr (belN (Below.refl _ w23_2) 1) hb3); have hc3 := bel_tr hc2 hd3)
        | (go_at_call 23; go_fit (rsameI _ (G2.below hc3) G6 (by omega) rfl); rintro e w23_4 ⟨rfl, hb4⟩; have hd4 : Below w23_3.heap.size w23_3 w23_4 := (by first | exact hb4 | exact bel_tr (belN (Below.refl _ w23_3) 1) hb4); have hc4 := bel_tr hc3 hd4)))
  have hx := hc4
  clear p0c0 p0c1 p0c2 p0c3 v1c0 v1c1 v1c2 v1c3 v2c0 v2c1 v2c2 v2c3 v3c0 v3c1 v3c2 v3c3 v4c0 v4c1 v4c2 v4c3
  replace P0 := P0.below hx
  replace ha := ha.below hx
  replace ma := ma.below hx
  replace G1 := G1.below hx
  replace V1 := V1.below hx
  replace G2 := G2.below hx
  replace V2 := V2.below hx
  replace G3 := G3.below hx
  replace V3 := V3.below hx
  replace G4 := G4.below hx
  replace V4 := V4.below hx
  replace hb0 := bel_tr hb0 hx
  have hsw23_4 : w22.heap.size ≤ w23_4.heap.size := Below.size hx
  clear hx
  obtain ⟨p0c0, p0c1, p0c2, p0c3⟩ := id P0
  obtain ⟨v1c0, v1c1, v1c2, v1c3⟩ := id V1
  obtain ⟨v2c0, v2c1, v2c2, v2c3⟩ := id V2
  obtain ⟨v3c0, v3c1, v3c2, v3c3⟩ := id V3
  obtain ⟨v4c0, v4c1, v4c2, v4c3⟩ := id V4
  clear hb1 hc1 hd1 hb2 hc2 hd2 hb3 hc3 hd3 hb4 hc4 hd4
  clear G5 G6
  obtain ⟨us0, o0, -, -, z0⟩ := G1.parts.2
  obtain ⟨us1, o1, -, -, z1⟩ := G2.parts.2
  obtain ⟨us2, o2, -, -, z2⟩ := G3.parts.2
  obtain ⟨us3, o3, -, -, z3⟩ := G4.parts.2
  have hxa : Below w23_4.heap.size w23_4 (w23_4.alloc (.cells #[.bool f1, .slice c1 n1 d1, .bool f2, .slice c2 n2 d2, .bool f3, .slice c3 n3 d3, .bool f4, .slice c4 n4 d4] 25)) := (Below.refl _ _).alloc (Nat.le_refl _) _
  have hba := bel_tr hb0 hxa
  have AP : Calls Tryd.prog 26 #[.slice (some ⟨w23_4.heap.size, 0, none⟩) 4 4] (w23_4.alloc (.cells #[.bool f1, .slice c1 n1 d1, .bool f2, .slice c2 n2 d2, .bool f3, .slice c3 n3 d3, .bool f4, .slice c4 n4 d4] 25)) fun e w' => e = .returned (.bool true) ∧ Below w.heap.size (w23_4.alloc (.cells #[.bool f1, .slice c1 n1 d1, .bool f2, .slice c2 n2 d2, .bool f3, .slice c3 n3 d3, .bool f4, .slice c4 n4 d4] 25)) w' := by
    refine rapartI w23_4.heap.size 4 4 w.heap.size (fun i => [c1, c2, c3, c4].getD i none) (fun i => [n1, n2, n3, n4].getD i 0) (fun i => [d1, d2, d3, d4].getD i 0) (fun i => [us0, us1, us2, us3].getD i []) _ (fun i hi => ?_) (fun i hi => ?_) (fun i j hi hj hij g h1 h2 => ?_) (by omega) (by omega) (fun i hi => ?_) (by have := hba.size; omega)
    · rcases (by omega : i = 0 ∨ i = 1 ∨ i = 2 ∨ i = 3) with rfl | rfl | rfl | rfl <;> simp
    · rcases (by omega : i = 0 ∨ i = 1 ∨ i = 2 ∨ i = 3) with rfl | rfl | rfl | rfl
      · exact (o0.below hxa).mono (by omega)
      · exact (o1.below hxa).mono (by omega)
      · exact (o2.below hxa).mono (by omega)
      · exact (o3.below hxa).mono (by omega)
    · have hq : ∀ i, i < 4 → ∀ g, (Value.slice ([c1, c2, c3, c4].getD i none) ([n1, n2, n3, n4].getD i 0) ([d1, d2, d3, d4].getD i 0)).ownBlock = some g → ((i = 0 → w3.heap.size ≤ g ∧ g < w4.heap.size) ∧ (i = 1 → w6.heap.size ≤ g ∧ g < w7.heap.size) ∧ (i = 2 → w8.heap.size ≤ g ∧ g < w9.heap.size) ∧ (i = 3 → w11.heap.size ≤ g ∧ g < w12.heap.size)) := by
        intro i hi g hg
        refine ⟨?_, ?_, ?_, ?_⟩
        · rintro rfl; exact ⟨(o0.lt g hg).1, q1.out g hg⟩
        · rintro rfl; exact ⟨(o1.lt g hg).1, q2.out g hg⟩
        · rintro rfl; exact ⟨(o2.lt g hg).1, q3.out g hg⟩
        · rintro rfl; exact ⟨(o3.lt g hg).1, q4.out g hg⟩
      have a1 := hq i hi g h1
      have a2 := hq j hj g h2
      omega
    · rcases (by omega : i = 0 ∨ i = 1 ∨ i = 2 ∨ i = 3) with rfl | rfl | rfl | rfl
      · show us0.length ≤ _; omega
      · show us1.length ≤ _; omega
      · show us2.length ≤ _; omega
      · show us3.length ≤ _; omega
  go_wp2_with fail
  refine AP.mono ?_
  rintro e wz ⟨rfl, hz⟩
  have hw := hba.trans hz
  clear AP hz hba hxa hb0 o0 o1 o2 o3
  clear G1 G2 G3 G4 P0 V1 V2 V3 V4 ha A0 M0 ma
  clear p0c0 p0c1 p0c2 p0c3 v1c0 v1c1 v1c2 v1c3 v2c0 v2c1 v2c2 v2c3 v3c0 v3c1 v3c2 v3c3 v4c0 v4c1 v4c2 v4c3
  go_wp2
  go_ret
  exact ⟨rfl, hw⟩
end Go.Proofs.YtfelogbfijomiaaDoor

import Derived.Test.YtfelogbfijomiaaDoorSumI
import Derived.Test.YtfelogbfijomiaaDoorWhG
import Derived.Test.YtfelogbfijomiaaDoorTIn
import Derived.Test.YtfelogbfijomiaaDoorTIneg
import Derived.Test.YtfelogbfijomiaaDoorSmI
import Derived.Deep.RegionHeld3
namespace Go.Proofs.YtfelogbfijomiaaDoor
open Go.RowKit

/-- A region's end, told by itself. -/
theorem bel_d1 (w : World) : Below w.heap.size w w.drew := belN (Below.refl _ w) 1
theorem bel_d0 (w : World) (o : Obj) : Below w.heap.size w (w.alloc o) := (Below.refl _ w).alloc (Nat.le_refl _) o
theorem bel_d2 (w : World) (o : Obj) : Below w.heap.size w (w.drew.alloc o) := bel_tr (bel_d1 w) (bel_d0 w.drew o)
theorem wp_cut {P : Program} {c : Code} {Q : Exit → Act → World → Prop} {a : Act} {w : World} (J : Act → Act → World → Prop) (h1 : c.wp P (fun e a' w' => e = .normal ∧ J a a' w') a w) (h2 : ∀ a' w', J a a' w' → Q .normal a' w') : c.wp P Q a w :=
  Code.wp_mono (fun e a' w' h => by obtain ⟨rfl, h⟩ := h; exact h2 a' w' h) h1

set_option maxRecDepth 100000 in
set_option maxHeartbeats 4000000 in
theorem rng_walk {a b c : Option Addr} {p q r : Bool} {na nb nc ca cb cc : Nat} {x y z : Int} (w : World) (ha : TI w p a na ca x 1048576) (hb : TI w q b nb cb y 1048576) (hc : TI w r c nc cc z 1048576) :
    Calls Tryd.prog 3 #[.agg #[.bool p, .slice a na ca], .agg #[.bool q, .slice b nb cb], .agg #[.bool r, .slice c nc cc]] w fun e w' => e = .returned (.bool true) ∧ Below w.heap.size w w' := by
  obtain ⟨P0, P1, P2, hb0, hsz⟩ := box3 w (.bool p) (.slice a na ca) (.bool q) (.slice b nb cb) (.bool r) (.slice c nc cc) 25
  replace ha := ha.below hb0
  replace hb := hb.below hb0
  replace hc := hc.below hb0
  go_enter Tryd.func3, Tryd.ntmps3
  go_wp2_with fail
  generalize ((w.alloc (.cells #[.bool p, .slice a na ca] 25)).alloc (.cells #[.bool q, .slice b nb cb] 25)).alloc (.cells #[.bool r, .slice c nc cc] 25) = W0 at *
  obtain ⟨p0c0, p0c1, p0c2, p0c3⟩ := id P0
  obtain ⟨p1c0, p1c1, p1c2, p1c3⟩ := id P1
  obtain ⟨p2c0, p2c1, p2c2, p2c3⟩ := id P2
  refine (awakeI _).mono ?_
  rintro e w1 ⟨rfl, hx⟩
  clear p0c0 p0c1 p0c2 p0c3 p1c0 p1c1 p1c2 p1c3 p2c0 p2c1 p2c2 p2c3
  replace P0 := P0.below hx
  replace P1 := P1.below hx
  replace P2 := P2.below hx
  replace ha := ha.below hx
  replace hb := hb.below hx
  replace hc := hc.below hx
  replace hb0 := bel_tr hb0 hx
  have hsw1 : W0.heap.size ≤ w1.heap.size := Below.size hx
  clear hx
  obtain ⟨p0c0, p0c1, p0c2, p0c3⟩ := id P0
  obtain ⟨p1c0, p1c1, p1c2, p1c3⟩ := id P1
  obtain ⟨p2c0, p2c1, p2c2, p2c3⟩ := id P2
  go_wp2_with fail
  refine wp_cut (fun a0 a' w' => ∃ R f0 c0 n0 d0 f c1 n1 d1, a' = ((((((a0.put (some 18) (.agg #[.bool p, .slice a na ca])).put (some 19) (.agg #[.bool q, .slice b nb cb])).put (some 20) (.agg #[.bool f0, .slice c0 n0 d0])).put (some 21) (.agg #[.bool r, .slice c nc cc])).put (some 22) (.agg #[.bool f, .slice c1 n1 d1])).put (some 8) (.pointer (some ⟨R, 0, none⟩))) ∧ Var2 w' R (.bool f) (.slice c1 n1 d1) ∧ GI w' w1.heap.size (.agg #[.bool f, .slice c1 n1 d1]) (x + y + z) 4000000 ∧ w1.heap.size ≤ R ∧ Below w1.heap.size w1 w') ?_ ?_
  · go_region_held3 (fun w' => w'.cell? ⟨w.heap.size, 0, none⟩ = some (.bool p) ∧ w'.cell? ⟨w.heap.size, 1, none⟩ = some (.slice a na ca) ∧ w'.cell? ⟨w.heap.size + 1, 0, none⟩ = some (.bool q) ∧ w'.cell? ⟨w.heap.size + 1, 1, none⟩ = some (.slice b nb cb) ∧ w'.cell? ⟨w.heap.size + 2, 0, none⟩ = some (.bool r) ∧ w'.cell? ⟨w.heap.size + 2, 1, none⟩ = some (.slice c nc cc))
      (refine ⟨?_, ?_, ?_, ?_, ?_, ?_⟩ <;> first | with_reducible exact kept_c hc2 (by assumption) | with_reducible exact kept_c hc1 (by assumption) | with_reducible exact kept_c (bel_d1 _) (by assumption) | with_reducible exact kept_c (bel_d2 _ _) (by assumption) | with_reducible exact kept_c (bel_tr hc2 (bel_d0 _ _)) (by assumption) | with_reducible exact kept_c (bel_tr hc1 (bel_d0 _ _)) (by assumption) | with_reducible exact set2_far (kept_c hc2 (by assumption)) (by simp <;> omega))
      ((first
        | (go_at_call 10; go_fit (addT _ (ha.below (by first | exact bel_d1 _ | exact bel_d2 _ _)) (hb.below (by first | exact bel_d1 _ | exact bel_d2 _ _)) (by omega) (by omega)); rintro e v1 ⟨f1, c1, n1, d1, rfl, G1, hb1⟩; have hc1 : Below w1.heap.size w1 v1 := (by first | exact bel_tr (bel_d1 _) hb1 | exact bel_tr (bel_d2 _ _) hb1); have hsv1 := Below.size hc1; try (have VA : Var2 v1 w1.heap.size (.bool false) (.slice none 0 0) := (var2_new w1.drew (.bool false) (.slice none 0 0) 25).below hb1))
        | (go_at_call 10; go_fit (addT _ (G1.below (by first | exact Below.refl _ _ | exact bel_d0 _ _)).ti (hc.below (by first | exact hc1 | exact bel_tr hc1 (bel_d0 _ _))) (by omega) (by omega)); rintro e v2 ⟨f2, c2, n2, d2, rfl, G2, hb2⟩; have hc2 : Below w1.heap.size w1 v2 := (by first | exact bel_tr hc1 hb2 | exact bel_tr (bel_tr hc1 (bel_d0 _ _)) hb2); first | (have VB : Var2 v2 w1.heap.size _ _ := VA.below hb2; obtain ⟨y0, y1, y2, y3⟩ := id VB) | (have VB := (var2_new _ _ _ _).below hb2; obtain ⟨y0, y1, y2, y3⟩ := id VB) | skip)))
    · exact ⟨rfl, v2.heap.size, f1, c1, n1, d1, f2, c2, n2, d2, rfl, var2_new _ _ _ _, ((G2.below (bel_d0 _ _)).mono hsv1).le (by omega), by have := Below.size hc2; omega, bel_tr hc2 (bel_d0 _ _)⟩
    · obtain ⟨V, O⟩ := VB.set (.bool f2) (.slice c2 n2 d2)
      exact ⟨rfl, v1.heap.size, f1, c1, n1, d1, f2, c2, n2, d2, rfl, V, ((G2.off O (by simp)).mono (by simp; omega)).le (by omega), hsv1, hc2.trans (O.below hsv1)⟩
    · have hs0 := Below.size hb1
      have hs0' : w1.heap.size + 1 ≤ v1.heap.size := by simpa using hs0
      obtain ⟨V, O⟩ := VB.set (.bool f2) (.slice c2 n2 d2)
      exact ⟨rfl, w1.heap.size, f1, c1, n1, d1, f2, c2, n2, d2, rfl, V, ((G2.off O (by omega)).mono (by omega)).le (by omega), Nat.le_refl _, hc2.trans (O.below (Nat.le_refl _))⟩
  rintro a' w2 ⟨R8, f08, c08, n08, d08, f8, c8, n8, d8, rfl, V8, G8, hR8, hx⟩
  clear p0c0 p0c1 p0c2 p0c3 p1c0 p1c1 p1c2 p1c3 p2c0 p2c1 p2c2 p2c3
  replace P0 := P0.below hx
  replace P1 := P1.below hx
  replace P2 := P2.below hx
  replace ha := ha.below hx
  replace hb := hb.below hx
  replace hc := hc.below hx
  replace hb0 := bel_tr hb0 hx
  have hsw2 : w1.heap.size ≤ w2.heap.size := Below.size hx
  clear hx
  obtain ⟨p0c0, p0c1, p0c2, p0c3⟩ := id P0
  obtain ⟨p1c0, p1c1, p1c2, p1c3⟩ := id P1
  obtain ⟨p2c0, p2c1, p2c2, p2c3⟩ := id P2
  obtain ⟨v8c0, v8c1, v8c2, v8c3⟩ := id V8
  simp only [Act.put, List.setIfInBounds_toArray, List.set_cons_zero, List.set_cons_succ]
  go_wp2_with fail
  go_region_held3 (fun w' => w'.cell? ⟨R8, 0, none⟩ = some (.bool f8) ∧ w'.cell? ⟨R8, 1, none⟩ = some (.slice c8 n8 d8) ∧ w'.cell? ⟨w.heap.size, 0, none⟩ = some (.bool p) ∧ w'.cell? ⟨w.heap.size, 1, none⟩ = some (.slice a na ca) ∧ w'.cell? ⟨w.heap.size + 1, 0, none⟩ = some (.bool q) ∧ w'.cell? ⟨w.heap.size + 1, 1, none⟩ = some (.slice b nb cb) ∧ w'.cell? ⟨w.heap.size + 2, 0, none⟩ = some (.bool r) ∧ w'.cell? ⟨w.heap.size + 2, 1, none⟩ = some (.slice c nc cc))
      (refine ⟨?_, ?_, ?_, ?_, ?_, ?_, ?_, ?_⟩ <;> first | with_reducible exact kept_c hc8 (by assumption) | with_reducible exact kept_c hc7 (by assumption) | with_reducible exact kept_c hc6 (by assumption) | with_reducible exact kept_c hc5 (by assumption) | with_reducible exact kept_c hc4 (by assumption) | with_reducible exact kept_c hc3 (by assumption) | with_reducible exact kept_c hc2 (by assumption) | with_reducible exact kept_c hc1 (by assumption) | with_reducible exact kept_c (bel_d1 _) (by assumption) | with_reducible exact kept_c (bel_tr hc6 (bel_d0 _ _)) (by assumption))
      ((first
        | (go_at_call 10; go_fit (addT _ (hb.below (bel_d1 _)) (hc.below (bel_d1 _)) (by omega) (by omega)); rintro e v3_1 ⟨f1, c1, n1, d1, rfl, K1, hb1⟩; have hd1 : Below w2.heap.size w2 v3_1 := (by first | exact hb1 | exact bel_tr (bel_d1 w2) hb1 | exact bel_tr (bel_d0 w2 _) hb1); have hc1 := hd1)
        | (go_at_call 10; go_fit (addT _ (ha.below hc1) K1.ti (by omega) (by omega)); rintro e v3_2 ⟨f2, c2, n2, d2, rfl, K2, hb2⟩; have hd2 : Below v3_1.heap.size v3_1 v3_2 := (by first | exact hb2 | exact bel_tr (bel_d1 v3_1) hb2 | exact bel_tr (bel_d0 v3_1 _) hb2); have hc2 := bel_tr hc1 hd2)
        | (go_at_call 11; go_fit (sameI _ _ _ (G8.below hc2) (K2.val (show x + (y + z) = x + y + z by omega)) (by omega)); rintro e v3_3 ⟨rfl, hb3⟩; have hd3 : Below v3_2.heap.size v3_2 v3_3 := (by first | exact hb3 | exact bel_tr (bel_d1 v3_2) hb3 | exact bel_tr (bel_d0 v3_2 _) hb3); have hc3 := bel_tr hc2 hd3)
        | (go_at_call 10; go_fit (addT _ (hb.below hc3) (ha.below hc3) (by omega) (by omega)); rintro e v3_4 ⟨f4, c4, n4, d4, rfl, K4, hb4⟩; have hd4 : Below v3_3.heap.size v3_3 v3_4 := (by first | exact hb4 | exact bel_tr (bel_d1 v3_3) hb4 | exact bel_tr (bel_d0 v3_3 _) hb4); have hc4 := bel_tr hc3 hd4)
        | (go_at_call 10; go_fit (addT _ (hc.below hc4) K4.ti (by omega) (by omega)); rintro e v3_5 ⟨f5, c5, n5, d5, rfl, K5, hb5⟩; have hd5 : Below v3_4.heap.size v3_4 v3_5 := (by first | exact hb5 | exact bel_tr (bel_d1 v3_4) hb5 | exact bel_tr (bel_d0 v3_4 _) hb5); have hc5 := bel_tr hc4 hd5)
        | (go_at_call 11; go_fit (sameI _ _ _ (G8.below hc5) (K5.val (show z + (y + x) = x + y + z by omega)) (by omega)); rintro e v3_6 ⟨rfl, hb6⟩; have hd6 : Below v3_5.heap.size v3_5 v3_6 := (by first | exact hb6 | exact bel_tr (bel_d1 v3_5) hb6 | exact bel_tr (bel_d0 v3_5 _) hb6); have hc6 := bel_tr hc5 hd6)
        | (go_at_call 12; go_fit (sumT _ 3 3 (fun i => [r, p, q].getD i false) (fun i => [c, a, b].getD i none) (fun i => [nc, na, nb].getD i 0) (fun i => [cc, ca, cb].getD i 0) (fun i => [z, x, y].getD i 0) 1048576 _ (by intro i hi; rcases (by omega : i = 0 ∨ i = 1 ∨ i = 2) with rfl | rfl | rfl <;> simp) (by intro i hi; rcases (by omega : i = 0 ∨ i = 1 ∨ i = 2) with rfl | rfl | rfl <;> first | exact hc.below (bel_tr hc6 (bel_d0 _ _)) | exact ha.below (bel_tr hc6 (bel_d0 _ _)) | exact hb.below (bel_tr hc6 (bel_d0 _ _))) (by omega) (by omega)); rintro e v3_7 ⟨f7, c7, n7, d7, rfl, K7, hb7⟩; have hd7 : Below v3_6.heap.size v3_6 v3_7 := (by first | exact hb7 | exact bel_tr (bel_d1 v3_6) hb7 | exact bel_tr (bel_d0 v3_6 _) hb7); have hc7 := bel_tr hc6 hd7)
        | (go_at_call 11; go_fit (sameI _ _ _ (G8.below hc7) (K7.val (show isum (fun i => [z, x, y].getD i 0) 3 = x + y + z by simp [isum]; omega)) (by omega)); rintro e v3_8 ⟨rfl, hb8⟩; have hd8 : Below v3_7.heap.size v3_7 v3_8 := (by first | exact hb8 | exact bel_tr (bel_d1 v3_7) hb8 | exact bel_tr (bel_d0 v3_7 _) hb8); have hc8 := bel_tr hc7 hd8)))
  have hx := hc8
  clear p0c0 p0c1 p0c2 p0c3 p1c0 p1c1 p1c2 p1c3 p2c0 p2c1 p2c2 p2c3 v8c0 v8c1 v8c2 v8c3
  replace P0 := P0.below hx
  replace P1 := P1.below hx
  replace P2 := P2.below hx
  replace ha := ha.below hx
  replace hb := hb.below hx
  replace hc := hc.below hx
  replace V8 := V8.below hx
  replace G8 := G8.below hx
  replace hb0 := bel_tr hb0 hx
  have hsv3_8 : w2.heap.size ≤ v3_8.heap.size := Below.size hx
  clear hx
  obtain ⟨p0c0, p0c1, p0c2, p0c3⟩ := id P0
  obtain ⟨p1c0, p1c1, p1c2, p1c3⟩ := id P1
  obtain ⟨p2c0, p2c1, p2c2, p2c3⟩ := id P2
  obtain ⟨v8c0, v8c1, v8c2, v8c3⟩ := id V8
  clear hb1 hc1 hd1 hb2 hc2 hd2 hb3 hc3 hd3 hb4 hc4 hd4 hb5 hc5 hd5 hb6 hc6 hd6 hb7 hc7 hd7 hb8 hc8 hd8
  clear K1 K2 K4 K5 K7
  go_wp2_with fail
  refine wp_cut (fun a0 a' w' => ∃ R f0 c0 n0 d0 f c1 n1 d1, a' = ((((((a0.put (some 48) (.agg #[.bool p, .slice a na ca])).put (some 49) (.agg #[.bool q, .slice b nb cb])).put (some 50) (.agg #[.bool f0, .slice c0 n0 d0])).put (some 51) (.agg #[.bool r, .slice c nc cc])).put (some 52) (.agg #[.bool f, .slice c1 n1 d1])).put (some 10) (.pointer (some ⟨R, 0, none⟩))) ∧ Var2 w' R (.bool f) (.slice c1 n1 d1) ∧ GI w' v3_8.heap.size (.agg #[.bool f, .slice c1 n1 d1]) (x * y * z) 4000000 ∧ v3_8.heap.size ≤ R ∧ Below v3_8.heap.size v3_8 w') ?_ ?_
  · go_region_held3 (fun w' => w'.cell? ⟨w.heap.size, 0, none⟩ = some (.bool p) ∧ w'.cell? ⟨w.heap.size, 1, none⟩ = some (.slice a na ca) ∧ w'.cell? ⟨w.heap.size + 1, 0, none⟩ = some (.bool q) ∧ w'.cell? ⟨w.heap.size + 1, 1, none⟩ = some (.slice b nb cb) ∧ w'.cell? ⟨w.heap.size + 2, 0, none⟩ = some (.bool r) ∧ w'.cell? ⟨w.heap.size + 2, 1, none⟩ = some (.slice c nc cc))
      (refine ⟨?_, ?_, ?_, ?_, ?_, ?_⟩ <;> first | with_reducible exact kept_c hc2 (by assumption) | with_reducible exact kept_c hc1 (by assumption) | with_reducible exact kept_c (bel_d1 _) (by assumption) | with_reducible exact kept_c (bel_d2 _ _) (by assumption) | with_reducible exact kept_c (bel_tr hc2 (bel_d0 _ _)) (by assumption) | with_reducible exact kept_c (bel_tr hc1 (bel_d0 _ _)) (by assumption) | with_reducible exact set2_far (kept_c hc2 (by assumption)) (by simp <;> omega))
      ((first
        | (go_at_call 13; go_fit (mulT _ (ha.below (by first | exact bel_d1 _ | exact bel_d2 _ _)) (hb.below (by first | exact bel_d1 _ | exact bel_d2 _ _)) (by omega) (by omega)); rintro e v1 ⟨f1, c1, n1, d1, rfl, G1, hb1⟩; have hc1 : Below v3_8.heap.size v3_8 v1 := (by first | exact bel_tr (bel_d1 _) hb1 | exact bel_tr (bel_d2 _ _) hb1); have hsv1 := Below.size hc1; try (have VA : Var2 v1 v3_8.heap.size (.bool false) (.slice none 0 0) := (var2_new v3_8.drew (.bool false) (.slice none 0 0) 25).below hb1))
        | (go_at_call 13; go_fit (mulT _ (G1.below (by first | exact Below.refl _ _ | exact bel_d0 _ _)).ti (hc.below (by first | exact hc1 | exact bel_tr hc1 (bel_d0 _ _))) (by omega) (by omega)); rintro e v2 ⟨f2, c2, n2, d2, rfl, G2, hb2⟩; have hc2 : Below v3_8.heap.size v3_8 v2 := (by first | exact bel_tr hc1 hb2 | exact bel_tr (bel_tr hc1 (bel_d0 _ _)) hb2); first | (have VB : Var2 v2 v3_8.heap.size _ _ := VA.below hb2; obtain ⟨y0, y1, y2, y3⟩ := id VB) | (have VB := (var2_new _ _ _ _).below hb2; obtain ⟨y0, y1, y2, y3⟩ := id VB) | skip)))
    · exact ⟨rfl, v2.heap.size, f1, c1, n1, d1, f2, c2, n2, d2, rfl, var2_new _ _ _ _, ((G2.below (bel_d0 _ _)).mono hsv1).le (by omega), by have := Below.size hc2; omega, bel_tr hc2 (bel_d0 _ _)⟩
    · obtain ⟨V, O⟩ := VB.set (.bool f2) (.slice c2 n2 d2)
      exact ⟨rfl, v1.heap.size, f1, c1, n1, d1, f2, c2, n2, d2, rfl, V, ((G2.off O (by simp)).mono (by simp; omega)).le (by omega), hsv1, hc2.trans (O.below hsv1)⟩
    · have hs0 := Below.size hb1
      have hs0' : v3_8.heap.size + 1 ≤ v1.heap.size := by simpa using hs0
      obtain ⟨V, O⟩ := VB.set (.bool f2) (.slice c2 n2 d2)
      exact ⟨rfl, v3_8.heap.size, f1, c1, n1, d1, f2, c2, n2, d2, rfl, V, ((G2.off O (by omega)).mono (by omega)).le (by omega), Nat.le_refl _, hc2.trans (O.below (Nat.le_refl _))⟩
  rintro a' w4 ⟨R10, f010, c010, n010, d010, f10, c10, n10, d10, rfl, V10, G10, hR10, hx⟩
  clear p0c0 p0c1 p0c2 p0c3 p1c0 p1c1 p1c2 p1c3 p2c0 p2c1 p2c2 p2c3 v8c0 v8c1 v8c2 v8c3
  replace P0 := P0.below hx
  replace P1 := P1.below hx
  replace P2 := P2.below hx
  replace ha := ha.below hx
  replace hb := hb.below hx
  replace hc := hc.below hx
  replace V8 := V8.below hx
  replace G8 := G8.below hx
  replace hb0 := bel_tr hb0 hx
  have hsw4 : v3_8.heap.size ≤ w4.heap.size := Below.size hx
  clear hx
  obtain ⟨p0c0, p0c1, p0c2, p0c3⟩ := id P0
  obtain ⟨p1c0, p1c1, p1c2, p1c3⟩ := id P1
  obtain ⟨p2c0, p2c1, p2c2, p2c3⟩ := id P2
  obtain ⟨v8c0, v8c1, v8c2, v8c3⟩ := id V8
  obtain ⟨v10c0, v10c1, v10c2, v10c3⟩ := id V10
  simp only [Act.put, List.setIfInBounds_toArray, List.set_cons_zero, List.set_cons_succ]
  go_wp2_with fail
  go_region_held3 (fun w' => w'.cell? ⟨R10, 0, none⟩ = some (.bool f10) ∧ w'.cell? ⟨R10, 1, none⟩ = some (.slice c10 n10 d10) ∧ w'.cell? ⟨w.heap.size, 0, none⟩ = some (.bool p) ∧ w'.cell? ⟨w.heap.size, 1, none⟩ = some (.slice a na ca) ∧ w'.cell? ⟨w.heap.size + 1, 0, none⟩ = some (.bool q) ∧ w'.cell? ⟨w.heap.size + 1, 1, none⟩ = some (.slice b nb cb) ∧ w'.cell? ⟨w.heap.size + 2, 0, none⟩ = some (.bool r) ∧ w'.cell? ⟨w.heap.size + 2, 1, none⟩ = some (.slice c nc cc))
      (refine ⟨?_, ?_, ?_, ?_, ?_, ?_, ?_, ?_⟩ <;> first | with_reducible exact kept_c hc6 (by assumption) | with_reducible exact kept_c hc5 (by assumption) | with_reducible exact kept_c hc4 (by assumption) | with_reducible exact kept_c hc3 (by assumption) | with_reducible exact kept_c hc2 (by assumption) | with_reducible exact kept_c hc1 (by assumption) | with_reducible exact kept_c (bel_d1 _) (by assumption))
      ((first
        | (go_at_call 13; go_fit (mulT _ (hb.below (bel_d1 _)) (hc.below (bel_d1 _)) (by omega) (by omega)); rintro e v5_1 ⟨f1, c1, n1, d1, rfl, K1, hb1⟩; have hd1 : Below w4.heap.size w4 v5_1 := (by first | exact hb1 | exact bel_tr (bel_d1 w4) hb1 | exact bel_tr (bel_d0 w4 _) hb1); have hc1 := hd1)
        | (go_at_call 13; go_fit (mulT _ (ha.below hc1) K1.ti (by omega) (by omega)); rintro e v5_2 ⟨f2, c2, n2, d2, rfl, K2, hb2⟩; have hd2 : Below v5_1.heap.size v5_1 v5_2 := (by first | exact hb2 | exact bel_tr (bel_d1 v5_1) hb2 | exact bel_tr (bel_d0 v5_1 _) hb2); have hc2 := bel_tr hc1 hd2)
        | (go_at_call 11; go_fit (sameI _ _ _ (G10.below hc2) (K2.val (Int.mul_assoc x y z).symm) (by omega)); rintro e v5_3 ⟨rfl, hb3⟩; have hd3 : Below v5_2.heap.size v5_2 v5_3 := (by first | exact hb3 | exact bel_tr (bel_d1 v5_2) hb3 | exact bel_tr (bel_d0 v5_2 _) hb3); have hc3 := bel_tr hc2 hd3)
        | (go_at_call 13; go_fit (mulT _ (hb.below hc3) (ha.below hc3) (by omega) (by omega)); rintro e v5_4 ⟨f4, c4, n4, d4, rfl, K4, hb4⟩; have hd4 : Below v5_3.heap.size v5_3 v5_4 := (by first | exact hb4 | exact bel_tr (bel_d1 v5_3) hb4 | exact bel_tr (bel_d0 v5_3 _) hb4); have hc4 := bel_tr hc3 hd4)
        | (go_at_call 13; go_fit (mulT _ (hc.below hc4) K4.ti (by omega) (by omega)); rintro e v5_5 ⟨f5, c5, n5, d5, rfl, K5, hb5⟩; have hd5 : Below v5_4.heap.size v5_4 v5_5 := (by first | exact hb5 | exact bel_tr (bel_d1 v5_4) hb5 | exact bel_tr (bel_d0 v5_4 _) hb5); have hc5 := bel_tr hc4 hd5)
        | (go_at_call 11; go_fit (sameI _ _ _ (G10.below hc5) (K5.val (show z * (y * x) = x * y * z by rw [Int.mul_comm y x, Int.mul_comm])) (by omega)); rintro e v5_6 ⟨rfl, hb6⟩; have hd6 : Below v5_5.heap.size v5_5 v5_6 := (by first | exact hb6 | exact bel_tr (bel_d1 v5_5) hb6 | exact bel_tr (bel_d0 v5_5 _) hb6); have hc6 := bel_tr hc5 hd6)))
  have hx := hc6
  clear p0c0 p0c1 p0c2 p0c3 p1c0 p1c1 p1c2 p1c3 p2c0 p2c1 p2c2 p2c3 v8c0 v8c1 v8c2 v8c3 v10c0 v10c1 v10c2 v10c3
  replace P0 := P0.below hx
  replace P1 := P1.below hx
  replace P2 := P2.below hx
  replace ha := ha.below hx
  replace hb := hb.below hx
  replace hc := hc.below hx
  replace V8 := V8.below hx
  replace G8 := G8.below hx
  replace V10 := V10.below hx
  replace G10 := G10.below hx
  replace hb0 := bel_tr hb0 hx
  have hsv5_6 : w4.heap.size ≤ v5_6.heap.size := Below.size hx
  clear hx
  obtain ⟨p0c0, p0c1, p0c2, p0c3⟩ := id P0
  obtain ⟨p1c0, p1c1, p1c2, p1c3⟩ := id P1
  obtain ⟨p2c0, p2c1, p2c2, p2c3⟩ := id P2
  obtain ⟨v8c0, v8c1, v8c2, v8c3⟩ := id V8
  obtain ⟨v10c0, v10c1, v10c2, v10c3⟩ := id V10
  clear hb1 hc1 hd1 hb2 hc2 hd2 hb3 hc3 hd3 hb4 hc4 hd4 hb5 hc5 hd5 hb6 hc6 hd6
  clear K1 K2 K4 K5
  go_wp2_with fail
  go_region_held3 (fun w' => w'.cell? ⟨w.heap.size, 0, none⟩ = some (.bool p) ∧ w'.cell? ⟨w.heap.size, 1, none⟩ = some (.slice a na ca) ∧ w'.cell? ⟨w.heap.size + 1, 0, none⟩ = some (.bool q) ∧ w'.cell? ⟨w.heap.size + 1, 1, none⟩ = some (.slice b nb cb) ∧ w'.cell? ⟨w.heap.size + 2, 0, none⟩ = some (.bool r) ∧ w'.cell? ⟨w.heap.size + 2, 1, none⟩ = some (.slice c nc cc))
      (refine ⟨?_, ?_, ?_, ?_, ?_, ?_⟩ <;> first | with_reducible exact kept_c hc6 (by assumption) | with_reducible exact kept_c hc5 (by assumption) | with_reducible exact kept_c hc4 (by assumption) | with_reducible exact kept_c hc3 (by assumption) | with_reducible exact kept_c hc2 (by assumption) | with_reducible exact kept_c hc1 (by assumption) | with_reducible exact kept_c (bel_d1 _) (by assumption))
      ((first
        | (go_at_call 10; go_fit (addT _ (hb.below (bel_d1 _)) (hc.below (bel_d1 _)) (by omega) (by omega)); rintro e v6_1 ⟨f1, c1, n1, d1, rfl, K1, hb1⟩; have hd1 : Below v5_6.heap.size v5_6 v6_1 := (by first | exact hb1 | exact bel_tr (bel_d1 v5_6) hb1 | exact bel_tr (bel_d0 v5_6 _) hb1); have hc1 := hd1)
        | (go_at_call 13; go_fit (mulT _ (ha.below hc1) K1.ti (by omega) (by omega)); rintro e v6_2 ⟨f2, c2, n2, d2, rfl, K2, hb2⟩; have hd2 : Below v6_1.heap.size v6_1 v6_2 := (by first | exact hb2 | exact bel_tr (bel_d1 v6_1) hb2 | exact bel_tr (bel_d0 v6_1 _) hb2); have hc2 := bel_tr hc1 hd2)
        | (go_at_call 13; go_fit (mulT _ (ha.below hc2) (hb.below hc2) (by omega) (by omega)); rintro e v6_3 ⟨f3, c3, n3, d3, rfl, K3, hb3⟩; have hd3 : Below v6_2.heap.size v6_2 v6_3 := (by first | exact hb3 | exact bel_tr (bel_d1 v6_2) hb3 | exact bel_tr (bel_d0 v6_2 _) hb3); have hc3 := bel_tr hc2 hd3)
        | (go_at_call 13; go_fit (mulT _ (ha.below hc3) (hc.below hc3) (by omega) (by omega)); rintro e v6_4 ⟨f4, c4, n4, d4, rfl, K4, hb4⟩; have hd4 : Below v6_3.heap.size v6_3 v6_4 := (by first | exact hb4 | exact bel_tr (bel_d1 v6_3) hb4 | exact bel_tr (bel_d0 v6_3 _) hb4); have hc4 := bel_tr hc3 hd4)
        | (go_at_call 10; go_fit (addT _ (K3.below hd4).ti K4.ti (by omega) (by omega)); rintro e v6_5 ⟨f5, c5, n5, d5, rfl, K5, hb5⟩; have hd5 : Below v6_4.heap.size v6_4 v6_5 := (by first | exact hb5 | exact bel_tr (bel_d1 v6_4) hb5 | exact bel_tr (bel_d0 v6_4 _) hb5); have hc5 := bel_tr hc4 hd5)
        | (go_at_call 11; go_fit (sameI _ _ _ (K2.below (bel_tr (bel_tr hd3 hd4) hd5)) (K5.val (Int.mul_add x y z).symm) (by omega)); rintro e v6_6 ⟨rfl, hb6⟩; have hd6 : Below v6_5.heap.size v6_5 v6_6 := (by first | exact hb6 | exact bel_tr (bel_d1 v6_5) hb6 | exact bel_tr (bel_d0 v6_5 _) hb6); have hc6 := bel_tr hc5 hd6)))
  have hx := hc6
  clear p0c0 p0c1 p0c2 p0c3 p1c0 p1c1 p1c2 p1c3 p2c0 p2c1 p2c2 p2c3 v8c0 v8c1 v8c2 v8c3 v10c0 v10c1 v10c2 v10c3
  replace P0 := P0.below hx
  replace P1 := P1.below hx
  replace P2 := P2.below hx
  replace ha := ha.below hx
  replace hb := hb.below hx
  replace hc := hc.below hx
  replace V8 := V8.below hx
  replace G8 := G8.below hx
  replace V10 := V10.below hx
  replace G10 := G10.below hx
  replace hb0 := bel_tr hb0 hx
  have hsv6_6 : v5_6.heap.size ≤ v6_6.heap.size := Below.size hx
  clear hx
  obtain ⟨p0c0, p0c1, p0c2, p0c3⟩ := id P0
  obtain ⟨p1c0, p1c1, p1c2, p1c3⟩ := id P1
  obtain ⟨p2c0, p2c1, p2c2, p2c3⟩ := id P2
  obtain ⟨v8c0, v8c1, v8c2, v8c3⟩ := id V8
  obtain ⟨v10c0, v10c1, v10c2, v10c3⟩ := id V10
  clear hb1 hc1 hd1 hb2 hc2 hd2 hb3 hc3 hd3 hb4 hc4 hd4 hb5 hc5 hd5 hb6 hc6 hd6
  clear K1 K2 K3 K4 K5
  go_wp2_with fail
  refine (ofT 0 _ (by omega) (by omega)).mono ?_
  rintro e w7 ⟨f13, c13, n13, d13, rfl, G13, hx⟩
  clear p0c0 p0c1 p0c2 p0c3 p1c0 p1c1 p1c2 p1c3 p2c0 p2c1 p2c2 p2c3 v8c0 v8c1 v8c2 v8c3 v10c0 v10c1 v10c2 v10c3
  replace P0 := P0.below hx
  replace P1 := P1.below hx
  replace P2 := P2.below hx
  replace ha := ha.below hx
  replace hb := hb.below hx
  replace hc := hc.below hx
  replace V8 := V8.below hx
  replace G8 := G8.below hx
  replace V10 := V10.below hx
  replace G10 := G10.below hx
  replace hb0 := bel_tr hb0 hx
  have hsw7 : v6_6.heap.size ≤ w7.heap.size := Below.size hx
  clear hx
  obtain ⟨p0c0, p0c1, p0c2, p0c3⟩ := id P0
  obtain ⟨p1c0, p1c1, p1c2, p1c3⟩ := id P1
  obtain ⟨p2c0, p2c1, p2c2, p2c3⟩ := id P2
  obtain ⟨v8c0, v8c1, v8c2, v8c3⟩ := id V8
  obtain ⟨v10c0, v10c1, v10c2, v10c3⟩ := id V10
  obtain ⟨V13, hx, hsx⟩ := box1 w7 (.bool f13) (.slice c13 n13 d13) 25
  clear p0c0 p0c1 p0c2 p0c3 p1c0 p1c1 p1c2 p1c3 p2c0 p2c1 p2c2 p2c3 v8c0 v8c1 v8c2 v8c3 v10c0 v10c1 v10c2 v10c3
  replace P0 := P0.below hx
  replace P1 := P1.below hx
  replace P2 := P2.below hx
  replace ha := ha.below hx
  replace hb := hb.below hx
  replace hc := hc.below hx
  replace V8 := V8.below hx
  replace G8 := G8.below hx
  replace V10 := V10.below hx
  replace G10 := G10.below hx
  replace G13 := G13.below hx
  replace hb0 := bel_tr hb0 hx
  have hsw8 : w7.heap.size ≤ (w7.alloc (.cells #[.bool f13, .slice c13 n13 d13] 25)).heap.size := Below.size hx
  clear hx
  obtain ⟨p0c0, p0c1, p0c2, p0c3⟩ := id P0
  obtain ⟨p1c0, p1c1, p1c2, p1c3⟩ := id P1
  obtain ⟨p2c0, p2c1, p2c2, p2c3⟩ := id P2
  obtain ⟨v8c0, v8c1, v8c2, v8c3⟩ := id V8
  obtain ⟨v10c0, v10c1, v10c2, v10c3⟩ := id V10
  obtain ⟨v13c0, v13c1, v13c2, v13c3⟩ := id V13
  go_wp2_with fail
  generalize w7.alloc (.cells #[.bool f13, .slice c13 n13 d13] 25) = w8 at *
  go_region_held3 (fun w' => w'.cell? ⟨w7.heap.size, 0, none⟩ = some (.bool f13) ∧ w'.cell? ⟨w7.heap.size, 1, none⟩ = some (.slice c13 n13 d13) ∧ w'.cell? ⟨w.heap.size, 0, none⟩ = some (.bool p) ∧ w'.cell? ⟨w.heap.size, 1, none⟩ = some (.slice a na ca))
      (refine ⟨?_, ?_, ?_, ?_⟩ <;> first | with_reducible exact kept_c hc8 (by assumption) | with_reducible exact kept_c hc7 (by assumption) | with_reducible exact kept_c hc6 (by assumption) | with_reducible exact kept_c hc5 (by assumption) | with_reducible exact kept_c hc4 (by assumption) | with_reducible exact kept_c hc3 (by assumption) | with_reducible exact kept_c hc2 (by assumption) | with_reducible exact kept_c hc1 (by assumption) | with_reducible exact kept_c (bel_d1 _) (by assumption))
      ((first
        | (go_at_call 15; go_fit (negT _ (ha.below (bel_d1 _)) (by omega)); rintro e v9_1 ⟨f1, c1, n1, d1, rfl, K1, hb1⟩; have hd1 : Below w8.heap.size w8 v9_1 := (by first | exact hb1 | exact bel_tr (bel_d1 w8) hb1 | exact bel_tr (bel_d0 w8 _) hb1); have hc1 := hd1)
        | (go_at_call 10; go_fit (addT _ (ha.below hc1) K1.ti (by omega) (by omega)); rintro e v9_2 ⟨f2, c2, n2, d2, rfl, K2, hb2⟩; have hd2 : Below v9_1.heap.size v9_1 v9_2 := (by first | exact hb2 | exact bel_tr (bel_d1 v9_1) hb2 | exact bel_tr (bel_d0 v9_1 _) hb2); have hc2 := bel_tr hc1 hd2)
        | (go_at_call 11; go_fit (sameI _ _ _ (K2.val (show x + -x = 0 by omega)) (G13.below hc2) (by omega)); rintro e v9_3 ⟨rfl, hb3⟩; have hd3 : Below v9_2.heap.size v9_2 v9_3 := (by first | exact hb3 | exact bel_tr (bel_d1 v9_2) hb3 | exact bel_tr (bel_d0 v9_2 _) hb3); have hc3 := bel_tr hc2 hd3)
        | (go_at_call 16; go_fit (subT _ (ha.below hc3) (ha.below hc3) (by omega) (by omega)); rintro e v9_4 ⟨f4, c4, n4, d4, rfl, K4, hb4⟩; have hd4 : Below v9_3.heap.size v9_3 v9_4 := (by first | exact hb4 | exact bel_tr (bel_d1 v9_3) hb4 | exact bel_tr (bel_d0 v9_3 _) hb4); have hc4 := bel_tr hc3 hd4)
        | (go_at_call 11; go_fit (sameI _ _ _ (K4.val (show x - x = 0 by omega)) (G13.below hc4) (by omega)); rintro e v9_5 ⟨rfl, hb5⟩; have hd5 : Below v9_4.heap.size v9_4 v9_5 := (by first | exact hb5 | exact bel_tr (bel_d1 v9_4) hb5 | exact bel_tr (bel_d0 v9_4 _) hb5); have hc5 := bel_tr hc4 hd5)
        | (go_at_call 10; go_fit (addT _ (ha.below hc5) (G13.below hc5).ti (by omega) (by omega)); rintro e v9_6 ⟨f6, c6, n6, d6, rfl, K6, hb6⟩; have hd6 : Below v9_5.heap.size v9_5 v9_6 := (by first | exact hb6 | exact bel_tr (bel_d1 v9_5) hb6 | exact bel_tr (bel_d0 v9_5 _) hb6); have hc6 := bel_tr hc5 hd6)
        | (go_at_call 17; go_fit (normT _ (ha.below hc6) (by omega)); rintro e v9_7 ⟨f7, c7, n7, d7, rfl, K7, hb7⟩; have hd7 : Below v9_6.heap.size v9_6 v9_7 := (by first | exact hb7 | exact bel_tr (bel_d1 v9_6) hb7 | exact bel_tr (bel_d0 v9_6 _) hb7); have hc7 := bel_tr hc6 hd7)
        | (go_at_call 11; go_fit (sameI _ _ _ ((K6.below hd7).val (show x + 0 = x by omega)) K7 (by omega)); rintro e v9_8 ⟨rfl, hb8⟩; have hd8 : Below v9_7.heap.size v9_7 v9_8 := (by first | exact hb8 | exact bel_tr (bel_d1 v9_7) hb8 | exact bel_tr (bel_d0 v9_7 _) hb8); have hc8 := bel_tr hc7 hd8)))
  have hx := hc8
  clear p0c0 p0c1 p0c2 p0c3 p1c0 p1c1 p1c2 p1c3 p2c0 p2c1 p2c2 p2c3 v8c0 v8c1 v8c2 v8c3 v10c0 v10c1 v10c2 v10c3 v13c0 v13c1 v13c2 v13c3
  replace P0 := P0.below hx
  replace P1 := P1.below hx
  replace P2 := P2.below hx
  replace ha := ha.below hx
  replace hb := hb.below hx
  replace hc := hc.below hx
  replace V8 := V8.below hx
  replace G8 := G8.below hx
  replace V10 := V10.below hx
  replace G10 := G10.below hx
  replace G13 := G13.below hx
  replace V13 := V13.below hx
  replace hb0 := bel_tr hb0 hx
  have hsv9_8 : w8.heap.size ≤ v9_8.heap.size := Below.size hx
  clear hx
  obtain ⟨p0c0, p0c1, p0c2, p0c3⟩ := id P0
  obtain ⟨p1c0, p1c1, p1c2, p1c3⟩ := id P1
  obtain ⟨p2c0, p2c1, p2c2, p2c3⟩ := id P2
  obtain ⟨v8c0, v8c1, v8c2, v8c3⟩ := id V8
  obtain ⟨v10c0, v10c1, v10c2, v10c3⟩ := id V10
  obtain ⟨v13c0, v13c1, v13c2, v13c3⟩ := id V13
  clear hb1 hc1 hd1 hb2 hc2 hd2 hb3 hc3 hd3 hb4 hc4 hd4 hb5 hc5 hd5 hb6 hc6 hd6 hb7 hc7 hd7 hb8 hc8 hd8
  clear K1 K2 K4 K6 K7
  go_wp2_with fail
  go_region_held3 (fun w' => w'.cell? ⟨w7.heap.size, 0, none⟩ = some (.bool f13) ∧ w'.cell? ⟨w7.heap.size, 1, none⟩ = some (.slice c13 n13 d13) ∧ w'.cell? ⟨w.heap.size, 0, none⟩ = some (.bool p) ∧ w'.cell? ⟨w.heap.size, 1, none⟩ = some (.slice a na ca) ∧ w'.cell? ⟨w.heap.size + 1, 0, none⟩ = some (.bool q) ∧ w'.cell? ⟨w.heap.size + 1, 1, none⟩ = some (.slice b nb cb))
      (refine ⟨?_, ?_, ?_, ?_, ?_, ?_⟩ <;> first | with_reducible exact kept_c hc10 (by assumption) | with_reducible exact kept_c hc9 (by assumption) | with_reducible exact kept_c hc8 (by assumption) | with_reducible exact kept_c hc7 (by assumption) | with_reducible exact kept_c hc6 (by assumption) | with_reducible exact kept_c hc5 (by assumption) | with_reducible exact kept_c hc4 (by assumption) | with_reducible exact kept_c hc3 (by assumption) | with_reducible exact kept_c hc2 (by assumption) | with_reducible exact kept_c hc1 (by assumption) | with_reducible exact kept_c (bel_d1 _) (by assumption))
      ((first
        | (go_at_call 14; go_fit (ofT 1 _ (by omega) (by omega)); rintro e v10_1 ⟨f1, c1, n1, d1, rfl, K1, hb1⟩; have hd1 : Below v9_8.heap.size v9_8 v10_1 := (by first | exact hb1 | exact bel_tr (bel_d1 v9_8) hb1 | exact bel_tr (bel_d0 v9_8 _) hb1); have hc1 := hd1)
        | (go_at_call 13; go_fit (mulT _ (ha.below hc1) K1.ti (by omega) (by omega)); rintro e v10_2 ⟨f2, c2, n2, d2, rfl, K2, hb2⟩; have hd2 : Below v10_1.heap.size v10_1 v10_2 := (by first | exact hb2 | exact bel_tr (bel_d1 v10_1) hb2 | exact bel_tr (bel_d0 v10_1 _) hb2); have hc2 := bel_tr hc1 hd2)
        | (go_at_call 17; go_fit (normT _ (ha.below hc2) (by omega)); rintro e v10_3 ⟨f3, c3, n3, d3, rfl, K3, hb3⟩; have hd3 : Below v10_2.heap.size v10_2 v10_3 := (by first | exact hb3 | exact bel_tr (bel_d1 v10_2) hb3 | exact bel_tr (bel_d0 v10_2 _) hb3); have hc3 := bel_tr hc2 hd3)
        | (go_at_call 11; go_fit (sameI _ _ _ ((K2.below hd3).val (show x * 1 = x by omega)) K3 (by omega)); rintro e v10_4 ⟨rfl, hb4⟩; have hd4 : Below v10_3.heap.size v10_3 v10_4 := (by first | exact hb4 | exact bel_tr (bel_d1 v10_3) hb4 | exact bel_tr (bel_d0 v10_3 _) hb4); have hc4 := bel_tr hc3 hd4)
        | (go_at_call 13; go_fit (mulT _ (ha.below hc4) (G13.below hc4).ti (by omega) (by omega)); rintro e v10_5 ⟨f5, c5, n5, d5, rfl, K5, hb5⟩; have hd5 : Below v10_4.heap.size v10_4 v10_5 := (by first | exact hb5 | exact bel_tr (bel_d1 v10_4) hb5 | exact bel_tr (bel_d0 v10_4 _) hb5); have hc5 := bel_tr hc4 hd5)
        | (go_at_call 11; go_fit (sameI _ _ _ (K5.val (show x * 0 = 0 by omega)) (G13.below hc5) (by omega)); rintro e v10_6 ⟨rfl, hb6⟩; have hd6 : Below v10_5.heap.size v10_5 v10_6 := (by first | exact hb6 | exact bel_tr (bel_d1 v10_5) hb6 | exact bel_tr (bel_d0 v10_5 _) hb6); have hc6 := bel_tr hc5 hd6)
        | (go_at_call 10; go_fit (addT _ (ha.below hc6) (hb.below hc6) (by omega) (by omega)); rintro e v10_7 ⟨f7, c7, n7, d7, rfl, K7, hb7⟩; have hd7 : Below v10_6.heap.size v10_6 v10_7 := (by first | exact hb7 | exact bel_tr (bel_d1 v10_6) hb7 | exact bel_tr (bel_d0 v10_6 _) hb7); have hc7 := bel_tr hc6 hd7)
        | (go_at_call 16; go_fit (subT _ K7.ti (hb.below hc7) (by omega) (by omega)); rintro e v10_8 ⟨f8, c8, n8, d8, rfl, K8, hb8⟩; have hd8 : Below v10_7.heap.size v10_7 v10_8 := (by first | exact hb8 | exact bel_tr (bel_d1 v10_7) hb8 | exact bel_tr (bel_d0 v10_7 _) hb8); have hc8 := bel_tr hc7 hd8)
        | (go_at_call 17; go_fit (normT _ (ha.below hc8) (by omega)); rintro e v10_9 ⟨f9, c9, n9, d9, rfl, K9, hb9⟩; have hd9 : Below v10_8.heap.size v10_8 v10_9 := (by first | exact hb9 | exact bel_tr (bel_d1 v10_8) hb9 | exact bel_tr (bel_d0 v10_8 _) hb9); have hc9 := bel_tr hc8 hd9)
        | (go_at_call 11; go_fit (sameI _ _ _ ((K8.below hd9).val (show x + y - y = x by omega)) K9 (by omega)); rintro e v10_10 ⟨rfl, hb10⟩; have hd10 : Below v10_9.heap.size v10_9 v10_10 := (by first | exact hb10 | exact bel_tr (bel_d1 v10_9) hb10 | exact bel_tr (bel_d0 v10_9 _) hb10); have hc10 := bel_tr hc9 hd10)))
  have hx := hc10
  clear p0c0 p0c1 p0c2 p0c3 p1c0 p1c1 p1c2 p1c3 p2c0 p2c1 p2c2 p2c3 v8c0 v8c1 v8c2 v8c3 v10c0 v10c1 v10c2 v10c3 v13c0 v13c1 v13c2 v13c3
  replace P0 := P0.below hx
  replace P1 := P1.below hx
  replace P2 := P2.below hx
  replace ha := ha.below hx
  replace hb := hb.below hx
  replace hc := hc.below hx
  replace V8 := V8.below hx
  replace G8 := G8.below hx
  replace V10 := V10.below hx
  replace G10 := G10.below hx
  replace G13 := G13.below hx
  replace V13 := V13.below hx
  replace hb0 := bel_tr hb0 hx
  have hsv10_10 : v9_8.heap.size ≤ v10_10.heap.size := Below.size hx
  clear hx
  obtain ⟨p0c0, p0c1, p0c2, p0c3⟩ := id P0
  obtain ⟨p1c0, p1c1, p1c2, p1c3⟩ := id P1
  obtain ⟨p2c0, p2c1, p2c2, p2c3⟩ := id P2
  obtain ⟨v8c0, v8c1, v8c2, v8c3⟩ := id V8
  obtain ⟨v10c0, v10c1, v10c2, v10c3⟩ := id V10
  obtain ⟨v13c0, v13c1, v13c2, v13c3⟩ := id V13
  clear hb1 hc1 hd1 hb2 hc2 hd2 hb3 hc3 hd3 hb4 hc4 hd4 hb5 hc5 hd5 hb6 hc6 hd6 hb7 hc7 hd7 hb8 hc8 hd8 hb9 hc9 hd9 hb10 hc10 hd10
  clear K1 K2 K3 K5 K7 K8 K9
  go_wp2_with fail
  refine (goodI _ _ G8 (by omega)).mono ?_
  rintro e w11 ⟨rfl, hx⟩
  clear p0c0 p0c1 p0c2 p0c3 p1c0 p1c1 p1c2 p1c3 p2c0 p2c1 p2c2 p2c3 v8c0 v8c1 v8c2 v8c3 v10c0 v10c1 v10c2 v10c3 v13c0 v13c1 v13c2 v13c3
  replace P0 := P0.below hx
  replace P1 := P1.below hx
  replace P2 := P2.below hx
  replace ha := ha.below hx
  replace hb := hb.below hx
  replace hc := hc.below hx
  replace V8 := V8.below hx
  replace G8 := G8.below hx
  replace V10 := V10.below hx
  replace G10 := G10.below hx
  replace G13 := G13.below hx
  replace V13 := V13.below hx
  replace hb0 := bel_tr hb0 hx
  have hsw11 : v10_10.heap.size ≤ w11.heap.size := Below.size hx
  clear hx
  obtain ⟨p0c0, p0c1, p0c2, p0c3⟩ := id P0
  obtain ⟨p1c0, p1c1, p1c2, p1c3⟩ := id P1
  obtain ⟨p2c0, p2c1, p2c2, p2c3⟩ := id P2
  obtain ⟨v8c0, v8c1, v8c2, v8c3⟩ := id V8
  obtain ⟨v10c0, v10c1, v10c2, v10c3⟩ := id V10
  obtain ⟨v13c0, v13c1, v13c2, v13c3⟩ := id V13
  go_wp2_with fail
  refine (goodI _ _ G10 (by omega)).mono ?_
  rintro e w12 ⟨rfl, hx⟩
  clear p0c0 p0c1 p0c2 p0c3 p1c0 p1c1 p1c2 p1c3 p2c0 p2c1 p2c2 p2c3 v8c0 v8c1 v8c2 v8c3 v10c0 v10c1 v10c2 v10c3 v13c0 v13c1 v13c2 v13c3
  replace P0 := P0.below hx
  replace P1 := P1.below hx
  replace P2 := P2.below hx
  replace ha := ha.below hx
  replace hb := hb.below hx
  replace hc := hc.below hx
  replace V8 := V8.below hx
  replace G8 := G8.below hx
  replace V10 := V10.below hx
  replace G10 := G10.below hx
  replace G13 := G13.below hx
  replace V13 := V13.below hx
  replace hb0 := bel_tr hb0 hx
  have hsw12 : w11.heap.size ≤ w12.heap.size := Below.size hx
  clear hx
  obtain ⟨p0c0, p0c1, p0c2, p0c3⟩ := id P0
  obtain ⟨p1c0, p1c1, p1c2, p1c3⟩ := id P1
  obtain ⟨p2c0, p2c1, p2c2, p2c3⟩ := id P2
  obtain ⟨v8c0, v8c1, v8c2, v8c3⟩ := id V8
  obtain ⟨v10c0, v10c1, v10c2, v10c3⟩ := id V10
  obtain ⟨v13c0, v13c1, v13c2, v13c3⟩ := id V13
  go_wp2_with fail
  refine (subT _ hb hc (by omega) (by omega)).mono ?_
  rintro e w13 ⟨f14, c14, n14, d14, rfl, G14, hx⟩
  clear p0c0 p0c1 p0c2 p0c3 p1c0 p1c1 p1c2 p1c3 p2c0 p2c1 p2c2 p2c3 v8c0 v8c1 v8c2 v8c3 v10c0 v10c1 v10c2 v10c3 v13c0 v13c1 v13c2 v13c3
  replace P0 := P0.below hx
  replace P1 := P1.below hx
  replace P2 := P2.below hx
  replace ha := ha.below hx
  replace hb := hb.below hx
  replace hc := hc.below hx
  replace V8 := V8.below hx
  replace G8 := G8.below hx
  replace V10 := V10.below hx
  replace G10 := G10.below hx
  replace G13 := G13.below hx
  replace V13 := V13.below hx
  replace hb0 := bel_tr hb0 hx
  have hsw13 : w12.heap.size ≤ w13.heap.size := Below.size hx
  clear hx
  obtain ⟨p0c0, p0c1, p0c2, p0c3⟩ := id P0
  obtain ⟨p1c0, p1c1, p1c2, p1c3⟩ := id P1
  obtain ⟨p2c0, p2c1, p2c2, p2c3⟩ := id P2
  obtain ⟨v8c0, v8c1, v8c2, v8c3⟩ := id V8
  obtain ⟨v10c0, v10c1, v10c2, v10c3⟩ := id V10
  obtain ⟨v13c0, v13c1, v13c2, v13c3⟩ := id V13
  go_wp2_with fail
  refine (goodI _ _ G14 (by omega)).mono ?_
  rintro e w14 ⟨rfl, hx⟩
  clear p0c0 p0c1 p0c2 p0c3 p1c0 p1c1 p1c2 p1c3 p2c0 p2c1 p2c2 p2c3 v8c0 v8c1 v8c2 v8c3 v10c0 v10c1 v10c2 v10c3 v13c0 v13c1 v13c2 v13c3
  replace P0 := P0.below hx
  replace P1 := P1.below hx
  replace P2 := P2.below hx
  replace ha := ha.below hx
  replace hb := hb.below hx
  replace hc := hc.below hx
  replace V8 := V8.below hx
  replace G8 := G8.below hx
  replace V10 := V10.below hx
  replace G10 := G10.below hx
  replace G13 := G13.below hx
  replace V13 := V13.below hx
  replace G14 := G14.below hx
  replace hb0 := bel_tr hb0 hx
  have hsw14 : w13.heap.size ≤ w14.heap.size := Below.size hx
  clear hx
  obtain ⟨p0c0, p0c1, p0c2, p0c3⟩ := id P0
  obtain ⟨p1c0, p1c1, p1c2, p1c3⟩ := id P1
  obtain ⟨p2c0, p2c1, p2c2, p2c3⟩ := id P2
  obtain ⟨v8c0, v8c1, v8c2, v8c3⟩ := id V8
  obtain ⟨v10c0, v10c1, v10c2, v10c3⟩ := id V10
  obtain ⟨v13c0, v13c1, v13c2, v13c3⟩ := id V13
  clear G8 G10 G13 G14 P0 P1 P2 V8 V10 V13 ha hb hc
  clear p0c0 p0c1 p0c2 p0c3 p1c0 p1c1 p1c2 p1c3 p2c0 p2c1 p2c2 p2c3 v8c0 v8c1 v8c2 v8c3 v10c0 v10c1 v10c2 v10c3 v13c0 v13c1 v13c2 v13c3
  go_wp2
  go_ret
  exact ⟨rfl, hb0⟩
end Go.Proofs.YtfelogbfijomiaaDoor

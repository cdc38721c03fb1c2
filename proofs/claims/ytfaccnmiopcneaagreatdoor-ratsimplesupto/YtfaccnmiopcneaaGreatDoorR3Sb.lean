import Derived.Test.YtfaccnmiopcneaaGreatDoorR3Sa
import Derived.Test.YtfaccnmiopcneaaGreatDoorR3M
import Derived.Test.YtfaccnmiopcneaaGreatDoorNumAll
namespace Go.Proofs.YtfaccnmiopcneaaGreatDoor
open Go.RowKit

/-- The variable of a chain, in block R. -/
structure Var4 (w : World) (R : Nat) (u v z y : Value) : Prop where
  c0 : w.cell? ⟨R, 0, none⟩ = some u
  c1 : w.cell? ⟨R, 1, none⟩ = some v
  c2 : w.cell? ⟨R, 2, none⟩ = some z
  c3 : w.cell? ⟨R, 3, none⟩ = some y
  f0 : w.frozen? ⟨R, 0, none⟩ = false
  f1 : w.frozen? ⟨R, 1, none⟩ = false
  f2 : w.frozen? ⟨R, 2, none⟩ = false
  f3 : w.frozen? ⟨R, 3, none⟩ = false
theorem var4_new (w : World) (u v z y : Value) (t : TypeId) : Var4 (w.alloc (.cells #[u, v, z, y] t)) w.heap.size u v z y := by
  have h : (w.alloc (.cells #[u, v, z, y] t)).heap[w.heap.size]? = some (.cells #[u, v, z, y] t) := heap_alloc_new _ _
  exact ⟨by unfold World.cell?; rw [h]; rfl, by unfold World.cell?; rw [h]; rfl, by unfold World.cell?; rw [h]; rfl, by unfold World.cell?; rw [h]; rfl, by unfold World.frozen?; rw [h]; simp, by unfold World.frozen?; rw [h]; simp, by unfold World.frozen?; rw [h]; simp, by unfold World.frozen?; rw [h]; simp⟩
theorem Var4.lt {w : World} {R : Nat} {u v z y : Value} (h : Var4 w R u v z y) : R < w.heap.size := World.block_lt_of_cell? _ _ h.c0
theorem Var4.of_block {w w' : World} {R : Nat} {u v z y : Value} (h : Var4 w R u v z y) (e : w'.heap[R]? = w.heap[R]?) : Var4 w' R u v z y :=
  ⟨(World.cell?_of_block (a := ⟨R, 0, none⟩) e).trans h.c0, (World.cell?_of_block (a := ⟨R, 1, none⟩) e).trans h.c1, (World.cell?_of_block (a := ⟨R, 2, none⟩) e).trans h.c2, (World.cell?_of_block (a := ⟨R, 3, none⟩) e).trans h.c3, (World.frozen?_of_block (a := ⟨R, 0, none⟩) e).trans h.f0, (World.frozen?_of_block (a := ⟨R, 1, none⟩) e).trans h.f1, (World.frozen?_of_block (a := ⟨R, 2, none⟩) e).trans h.f2, (World.frozen?_of_block (a := ⟨R, 3, none⟩) e).trans h.f3⟩
theorem Var4.below {w w' : World} {R : Nat} {u v z y : Value} (h : Var4 w R u v z y) (hb : Below w.heap.size w w') : Var4 w' R u v z y := h.of_block (hb.block R h.lt)
theorem Var4.off {w w' : World} {R g : Nat} {u v z y : Value} (h : Var4 w R u v z y) (o : Off g w w') (hg : R ≠ g) : Var4 w' R u v z y := h.of_block (o.block R hg)
theorem Var4.set {w : World} {R : Nat} {u v z y : Value} (h : Var4 w R u v z y) (u' v' z' y' : Value) : Var4 ((((w.setCell ⟨R, 0, none⟩ u').setCell ⟨R, 1, none⟩ v').setCell ⟨R, 2, none⟩ z').setCell ⟨R, 3, none⟩ y') R u' v' z' y' ∧ Off R w ((((w.setCell ⟨R, 0, none⟩ u').setCell ⟨R, 1, none⟩ v').setCell ⟨R, 2, none⟩ z').setCell ⟨R, 3, none⟩ y') := by
  refine ⟨⟨?_, ?_, ?_, ?_, ?_, ?_, ?_, ?_⟩, ((((Off.refl _ _).set 0 u').set 1 v').set 2 z').set 3 y'⟩
  · rw [World.cell?_setCell_other _ _ _ _ (by simp), World.cell?_setCell_other _ _ _ _ (by simp), World.cell?_setCell_other _ _ _ _ (by simp), World.cell?_setCell_same _ _ _ h.c0]
  · rw [World.cell?_setCell_other _ _ _ _ (by simp), World.cell?_setCell_other _ _ _ _ (by simp), World.cell?_setCell_same _ _ _ ((World.cell?_setCell_other _ _ _ _ (by simp)).trans h.c1)]
  · rw [World.cell?_setCell_other _ _ _ _ (by simp), World.cell?_setCell_same _ _ _ ((World.cell?_setCell_other _ _ _ _ (by simp)).trans ((World.cell?_setCell_other _ _ _ _ (by simp)).trans h.c2))]
  · rw [World.cell?_setCell_same _ _ _ ((World.cell?_setCell_other _ _ _ _ (by simp)).trans ((World.cell?_setCell_other _ _ _ _ (by simp)).trans ((World.cell?_setCell_other _ _ _ _ (by simp)).trans h.c3)))]
  · rw [World.frozen?_setCell, World.frozen?_setCell, World.frozen?_setCell, World.frozen?_setCell]; exact h.f0
  · rw [World.frozen?_setCell, World.frozen?_setCell, World.frozen?_setCell, World.frozen?_setCell]; exact h.f1
  · rw [World.frozen?_setCell, World.frozen?_setCell, World.frozen?_setCell, World.frozen?_setCell]; exact h.f2
  · rw [World.frozen?_setCell, World.frozen?_setCell, World.frozen?_setCell, World.frozen?_setCell]; exact h.f3
theorem belS3 {w w1 : World} {B R : Nat} {u v z : Value} (h : Below B w w1) (hR : B ≤ R) : Below B w (((w1.setCell ⟨R, 0, none⟩ u).setCell ⟨R, 1, none⟩ v).setCell ⟨R, 2, none⟩ z) := h.trans (((((Off.refl _ _).set 0 u).set 1 v).set 2 z).below hR)
theorem belS4 {w w1 : World} {B R : Nat} {u v z y : Value} (h : Below B w w1) (hR : B ≤ R) : Below B w ((((w1.setCell ⟨R, 0, none⟩ u).setCell ⟨R, 1, none⟩ v).setCell ⟨R, 2, none⟩ z).setCell ⟨R, 3, none⟩ y) := h.trans ((((((Off.refl _ _).set 0 u).set 1 v).set 2 z).set 3 y).below hR)
theorem belDr {w w1 : World} {B : Nat} (h : Below B w w1) : Below B w w1.drew := belN h 1
/-- rat.over -/
theorem overQ (a : Option Addr) (na ca : Nat) (d : Option Addr) (nd cd : Nat) (w : World) :
    Calls Tryz.prog 48 #[.slice a na ca, .slice d nd cd] w fun e w' => e = .returned (.agg #[.bool false, .slice a na ca, .slice d nd cd]) ∧ Below w.heap.size w w' := by
  have R0 := var3_new w (.bool false) (.slice a na ca) (.slice d nd cd) 27
  have hb0 := bel_d0 w (.cells #[.bool false, .slice a na ca, .slice d nd cd] 27)
  go_enter Tryz.func48, Tryz.ntmps48
  go_wp2
  exact bodyPost_ret (v := .agg #[.bool false, .slice a na ca, .slice d nd cd]) (by simp [results, Tryz.results48, go_sem, R0.c0, R0.c1, R0.c2]) rfl ⟨rfl, hb0⟩
set_option maxHeartbeats 4000000 in
/-- rat.emptyChain -/
theorem emptyQ (w : World) :
    Calls Tryz.prog 40 #[] w fun e w' => ∃ c n k c' n' k', e = .returned (.agg #[.slice c n k, .slice none 0 0, .slice none 0 0, .slice c' n' k']) ∧ Got w' w.heap.size (.slice c n k) 1 1 ∧ Got w' w.heap.size (.slice c' n' k') 1 1 ∧ Below w.heap.size w w' := by
  have R0 := var4_new w (.slice none 0 0) (.slice none 0 0) (.slice none 0 0) (.slice none 0 0) 64
  have hb0 := bel_d0 w (.cells #[.slice none 0 0, .slice none 0 0, .slice none 0 0, .slice none 0 0] 64)
  have hsw : (w.alloc (.cells #[.slice none 0 0, .slice none 0 0, .slice none 0 0, .slice none 0 0] 64)).heap.size = w.heap.size + 1 := by simp
  go_enter Tryz.func40, Tryz.ntmps40
  go_wp2_with fail
  generalize w.alloc (.cells #[.slice none 0 0, .slice none 0 0, .slice none 0 0, .slice none 0 0] 64) = W0 at *
  refine (ofG 1 _ (by decide) (by decide)).mono ?_
  rintro e w1 ⟨c, n, k, rfl, G1, hx⟩
  have hs1 := Below.size hx
  replace R0 := R0.below hx
  replace hb0 := bel_tr hb0 hx
  clear hx
  go_wp2_with fail
  refine (ofG 1 _ (by decide) (by decide)).mono ?_
  rintro e w2 ⟨c', n', k', rfl, G2, hx⟩
  have hs2 := Below.size hx
  replace R0 := R0.below hx
  replace G1 := G1.below hx
  replace hb0 := bel_tr hb0 hx
  clear hx
  obtain ⟨r0, r1, r2, r3, r4, r5, r6, r7⟩ := id R0
  obtain ⟨V, O⟩ := R0.set (.slice c n k) (.slice none 0 0) (.slice none 0 0) (.slice c' n' k')
  replace G1 := (G1.off O (by omega)).mono (B' := w.heap.size) (by omega)
  replace G2 := (G2.off O (by omega)).mono (B' := w.heap.size) (by omega)
  have hw := hb0.trans (O.below (Nat.le_refl _))
  clear R0 O hb0
  go_wp2
  exact bodyPost_ret (v := .agg #[.slice c n k, .slice none 0 0, .slice none 0 0, .slice c' n' k']) (by simp [results, Tryz.results40, go_sem, V.c0, V.c1, V.c2, V.c3]) rfl ⟨_, _, _, _, _, _, rfl, G1, G2, hw⟩
set_option maxHeartbeats 4000000 in
/-- (rat.chain).value -/
theorem valueQ (a : Option Addr) (na ca : Nat) (d : Option Addr) (nd cd : Nat) (u v : Value) (w : World) :
    Calls Tryz.prog 44 #[.agg #[.slice a na ca, .slice d nd cd, u, v]] w fun e w' => e = .returned (.agg #[.bool false, .slice a na ca, .slice d nd cd]) ∧ Below w.heap.size w w' := by
  have P0 := var4_new w (.slice a na ca) (.slice d nd cd) u v 64
  have hb0 := bel_d0 w (.cells #[.slice a na ca, .slice d nd cd, u, v] 64)
  have hsw : (w.alloc (.cells #[.slice a na ca, .slice d nd cd, u, v] 64)).heap.size = w.heap.size + 1 := by simp
  have R0 := var3_new (w.alloc (.cells #[.slice a na ca, .slice d nd cd, u, v] 64)) (.bool false) (.slice none 0 0) (.slice none 0 0) 27
  have hx := bel_d0 (w.alloc (.cells #[.slice a na ca, .slice d nd cd, u, v] 64)) (.cells #[.bool false, .slice none 0 0, .slice none 0 0] 27)
  rw [hsw] at R0
  replace P0 := P0.below hx
  replace hb0 := bel_tr hb0 hx
  clear hx hsw
  go_enter Tryz.func44, Tryz.ntmps44
  obtain ⟨p0, p1, p2, p3, p4, p5, p6, p7⟩ := id P0
  go_wp2_with fail
  generalize (w.alloc (.cells #[.slice a na ca, .slice d nd cd, u, v] 64)).alloc (.cells #[.bool false, .slice none 0 0, .slice none 0 0] 27) = W0 at *
  clear p0 p1 p2 p3 p4 p5 p6 p7 P0
  refine (overQ _ _ _ _ _ _ _).mono ?_
  rintro e w1 ⟨rfl, hx⟩
  replace R0 := R0.below hx
  replace hb0 := bel_tr hb0 hx
  clear hx
  obtain ⟨r0, r1, r2, r3, r4, r5⟩ := id R0
  obtain ⟨V, O⟩ := R0.set (.bool false) (.slice a na ca) (.slice d nd cd)
  have hw := hb0.trans (O.below (by omega))
  clear R0 O hb0
  go_wp2
  exact bodyPost_ret (v := .agg #[.bool false, .slice a na ca, .slice d nd cd]) (by simp [results, Tryz.results44, go_sem, V.c0, V.c1, V.c2]) rfl ⟨rfl, hw⟩
set_option maxHeartbeats 4000000 in
/-- (rat.chain).with -/
theorem withQ {a1 a2 a3 a4 at' : Option Addr} {n1 c1 n2 c2 n3 c3 n4 c4 nt ct : Nat} {y1 y2 y3 y4 x : Int} {S : Nat} (w : World) (h1 : Num w a1 n1 c1 y1 S) (h2 : Num w a2 n2 c2 y2 S) (h3 : Num w a3 n3 c3 y3 S) (h4 : Num w a4 n4 c4 y4 S) (ht : Num w at' nt ct x S) (hS : S ≤ 10000000) :
    Calls Tryz.prog 43 #[.agg #[.slice a1 n1 c1, .slice a2 n2 c2, .slice a3 n3 c3, .slice a4 n4 c4], .slice at' nt ct] w fun e w' => ∃ c n k c' n' k', e = .returned (.agg #[.slice c n k, .slice c' n' k', .slice a1 n1 c1, .slice a2 n2 c2]) ∧ Got w' w.heap.size (.slice c n k) (x * y1 + y3) (S + S + S + 1) ∧ Got w' w.heap.size (.slice c' n' k') (x * y2 + y4) (S + S + S + 1) ∧ Below w.heap.size w w' := by
  have P0 := var4_new w (.slice a1 n1 c1) (.slice a2 n2 c2) (.slice a3 n3 c3) (.slice a4 n4 c4) 64
  have hb0 := bel_d0 w (.cells #[.slice a1 n1 c1, .slice a2 n2 c2, .slice a3 n3 c3, .slice a4 n4 c4] 64)
  have hsw : (w.alloc (.cells #[.slice a1 n1 c1, .slice a2 n2 c2, .slice a3 n3 c3, .slice a4 n4 c4] 64)).heap.size = w.heap.size + 1 := by simp
  have R0 := var4_new (w.alloc (.cells #[.slice a1 n1 c1, .slice a2 n2 c2, .slice a3 n3 c3, .slice a4 n4 c4] 64)) (.slice none 0 0) (.slice none 0 0) (.slice none 0 0) (.slice none 0 0) 64
  have hx := bel_d0 (w.alloc (.cells #[.slice a1 n1 c1, .slice a2 n2 c2, .slice a3 n3 c3, .slice a4 n4 c4] 64)) (.cells #[.slice none 0 0, .slice none 0 0, .slice none 0 0, .slice none 0 0] 64)
  rw [hsw] at R0
  replace P0 := P0.below hx
  replace hb0 := bel_tr hb0 hx
  clear hx hsw
  replace h1 := h1.below hb0
  replace h2 := h2.below hb0
  replace h3 := h3.below hb0
  replace h4 := h4.below hb0
  replace ht := ht.below hb0
  go_enter Tryz.func43, Tryz.ntmps43
  go_wp2_with fail
  generalize (w.alloc (.cells #[.slice a1 n1 c1, .slice a2 n2 c2, .slice a3 n3 c3, .slice a4 n4 c4] 64)).alloc (.cells #[.slice none 0 0, .slice none 0 0, .slice none 0 0, .slice none 0 0] 64) = W0 at *
  obtain ⟨p0, p1, p2, p3, p4, p5, p6, p7⟩ := id P0
  have hsz := R0.lt
  have HB : ∀ w', Below (w.heap.size + 1) W0 w' → w'.cell? ⟨w.heap.size, 0, none⟩ = some (.slice a1 n1 c1) ∧ w'.cell? ⟨w.heap.size, 1, none⟩ = some (.slice a2 n2 c2) ∧ w'.cell? ⟨w.heap.size, 2, none⟩ = some (.slice a3 n3 c3) ∧ w'.cell? ⟨w.heap.size, 3, none⟩ = some (.slice a4 n4 c4) := fun w' h => by
    have V := P0.of_block (h.block w.heap.size (Nat.lt_succ_self _))
    exact ⟨V.c0, V.c1, V.c2, V.c3⟩
  go_region_held3 (fun w' => w'.cell? ⟨w.heap.size, 0, none⟩ = some (.slice a1 n1 c1) ∧ w'.cell? ⟨w.heap.size, 1, none⟩ = some (.slice a2 n2 c2) ∧ w'.cell? ⟨w.heap.size, 2, none⟩ = some (.slice a3 n3 c3) ∧ w'.cell? ⟨w.heap.size, 3, none⟩ = some (.slice a4 n4 c4))
    (with_reducible refine HB _ ?_; repeat' (first | with_reducible exact hm4 | with_reducible exact hm3 | with_reducible exact hm2 | with_reducible exact hm1 | with_reducible exact Below.refl _ _ | with_reducible refine belDr ?_ | with_reducible refine belS4 ?_ ?_ | omega))
    ((first
      | (go_at_call 65; go_fit (mulG _ (ht.below (bel_d1 _)) (h1.below (bel_d1 _)) (by omega) (by omega)); rintro e v1 ⟨u1, m1, l1, rfl, K1, hb1⟩; have hc1 : Below W0.heap.size W0 v1 := bel_tr (bel_d1 W0) hb1; have hm1 : Below (w.heap.size + 1) W0 v1 := hc1.mono (by omega))
      | (go_at_call 46; go_fit (addG _ K1.num (h3.below hc1) (by omega) (by omega)); rintro e v2 ⟨u2, m2, l2, rfl, K2, hb2⟩; have hc2 : Below W0.heap.size W0 v2 := bel_tr hc1 hb2; have hm2 : Below (w.heap.size + 1) W0 v2 := hc2.mono (by omega))
      | (go_at_call 65; go_fit (mulG _ (ht.below hc2) (h2.below hc2) (by omega) (by omega)); rintro e v3 ⟨u3, m3, l3, rfl, K3, hb3⟩; have hc3 : Below W0.heap.size W0 v3 := bel_tr hc2 hb3; have hm3 : Below (w.heap.size + 1) W0 v3 := hc3.mono (by omega))
      | (go_at_call 46; go_fit (addG _ K3.num (h4.below hc3) (by omega) (by omega)); rintro e v4 ⟨u4, m4, l4, rfl, K4, hb4⟩; have hc4 : Below W0.heap.size W0 v4 := bel_tr hc3 hb4; have hm4 : Below (w.heap.size + 1) W0 v4 := hc4.mono (by omega); have RZ := R0.below hc4; obtain ⟨z0, z1, z2, z3, z4, z5, z6, z7⟩ := id RZ)))
  have hs1 := Below.size hc1
  have hs2 := Below.size hb2
  have hs3 := Below.size hb3
  obtain ⟨V, O⟩ := RZ.set (.slice u2 m2 l2) (.slice u4 m4 l4) (.slice a1 n1 c1) (.slice a2 n2 c2)
  have E1 := ((((K2.below hb3).below hb4).off O (by omega)).mono (B' := w.heap.size) (by omega))
  have E2 := ((K4.off O (by omega)).mono (B' := w.heap.size) (by omega))
  have hw := (bel_tr hb0 hc4).trans (O.below (by omega))
  clear K1 K2 K3 K4 O RZ R0 hb0 h1 h2 h3 h4 ht HB hb1 hb2 hb3 hb4 hc1 hc2 hc3 hc4 hm1 hm2 hm3 hm4 p0 p1 p2 p3 p4 p5 p6 p7 P0 z0 z1 z2 z3 z4 z5 z6 z7
  go_wp2
  exact bodyPost_ret (v := .agg #[.slice u2 m2 l2, .slice u4 m4 l4, .slice a1 n1 c1, .slice a2 n2 c2]) (by simp [results, Tryz.results43, go_sem, V.c0, V.c1, V.c2, V.c3]) rfl ⟨_, _, _, _, _, _, rfl, E1, E2, hw⟩
end Go.Proofs.YtfaccnmiopcneaaGreatDoor

import Derived.Test.YtfelogbfijomiabGreatDoorWhA
import Derived.Deep.RegionHeld3
namespace Go.Proofs.YtfelogbfijomiabGreatDoor
open Go.RowKit

theorem box1 (w : World) (u0 v0 : Value) (t : TypeId) : Var2 (w.alloc (.cells #[u0, v0] t)) w.heap.size u0 v0 ∧ Below w.heap.size w (w.alloc (.cells #[u0, v0] t)) ∧ (w.alloc (.cells #[u0, v0] t)).heap.size = w.heap.size + 1 :=
  ⟨var2_new _ _ _ _, (Below.refl _ _).alloc (Nat.le_refl _) _, by simp⟩
theorem Var2.alloc {w : World} {R : Nat} {u v : Value} (h : Var2 w R u v) (o : Obj) : Var2 (w.alloc o) R u v := h.below ((Below.refl _ _).alloc (Nat.le_refl _) _)
theorem box2 (w : World) (u0 v0 u1 v1 : Value) (t : TypeId) : Var2 ((w.alloc (.cells #[u0, v0] t)).alloc (.cells #[u1, v1] t)) w.heap.size u0 v0 ∧ Var2 ((w.alloc (.cells #[u0, v0] t)).alloc (.cells #[u1, v1] t)) (w.heap.size + 1) u1 v1 ∧
    Below w.heap.size w ((w.alloc (.cells #[u0, v0] t)).alloc (.cells #[u1, v1] t)) ∧ ((w.alloc (.cells #[u0, v0] t)).alloc (.cells #[u1, v1] t)).heap.size = w.heap.size + 2 := by
  obtain ⟨a1, a2, a3⟩ := box1 w u0 v0 t
  have h := var2_new (w.alloc (.cells #[u0, v0] t)) u1 v1 t
  rw [World.size_alloc] at h
  exact ⟨a1.alloc _, h, a2.alloc (by simp) _, by simp⟩
theorem box3 (w : World) (u0 v0 u1 v1 u2 v2 : Value) (t : TypeId) : Var2 (((w.alloc (.cells #[u0, v0] t)).alloc (.cells #[u1, v1] t)).alloc (.cells #[u2, v2] t)) w.heap.size u0 v0 ∧ Var2 (((w.alloc (.cells #[u0, v0] t)).alloc (.cells #[u1, v1] t)).alloc (.cells #[u2, v2] t)) (w.heap.size + 1) u1 v1 ∧
    Var2 (((w.alloc (.cells #[u0, v0] t)).alloc (.cells #[u1, v1] t)).alloc (.cells #[u2, v2] t)) (w.heap.size + 2) u2 v2 ∧
    Below w.heap.size w (((w.alloc (.cells #[u0, v0] t)).alloc (.cells #[u1, v1] t)).alloc (.cells #[u2, v2] t)) ∧ (((w.alloc (.cells #[u0, v0] t)).alloc (.cells #[u1, v1] t)).alloc (.cells #[u2, v2] t)).heap.size = w.heap.size + 3 := by
  obtain ⟨a1, a2, a3, a4⟩ := box2 w u0 v0 u1 v1 t
  have h := var2_new ((w.alloc (.cells #[u0, v0] t)).alloc (.cells #[u1, v1] t)) u2 v2 t
  rw [a4] at h
  exact ⟨a1.alloc _, a2.alloc _, h, a3.alloc (by simp; omega) _, by simp⟩
theorem box4 (w : World) (u0 v0 u1 v1 u2 v2 u3 v3 : Value) (t : TypeId) : Var2 ((((w.alloc (.cells #[u0, v0] t)).alloc (.cells #[u1, v1] t)).alloc (.cells #[u2, v2] t)).alloc (.cells #[u3, v3] t)) w.heap.size u0 v0 ∧ Var2 ((((w.alloc (.cells #[u0, v0] t)).alloc (.cells #[u1, v1] t)).alloc (.cells #[u2, v2] t)).alloc (.cells #[u3, v3] t)) (w.heap.size + 1) u1 v1 ∧
    Var2 ((((w.alloc (.cells #[u0, v0] t)).alloc (.cells #[u1, v1] t)).alloc (.cells #[u2, v2] t)).alloc (.cells #[u3, v3] t)) (w.heap.size + 2) u2 v2 ∧ Var2 ((((w.alloc (.cells #[u0, v0] t)).alloc (.cells #[u1, v1] t)).alloc (.cells #[u2, v2] t)).alloc (.cells #[u3, v3] t)) (w.heap.size + 3) u3 v3 ∧
    Below w.heap.size w ((((w.alloc (.cells #[u0, v0] t)).alloc (.cells #[u1, v1] t)).alloc (.cells #[u2, v2] t)).alloc (.cells #[u3, v3] t)) ∧ ((((w.alloc (.cells #[u0, v0] t)).alloc (.cells #[u1, v1] t)).alloc (.cells #[u2, v2] t)).alloc (.cells #[u3, v3] t)).heap.size = w.heap.size + 4 := by
  obtain ⟨a1, a2, a3, a4, a5⟩ := box3 w u0 v0 u1 v1 u2 v2 t
  have h := var2_new (((w.alloc (.cells #[u0, v0] t)).alloc (.cells #[u1, v1] t)).alloc (.cells #[u2, v2] t)) u3 v3 t
  rw [a5] at h
  exact ⟨a1.alloc _, a2.alloc _, a3.alloc _, h, a4.alloc (by simp; omega) _, by simp⟩

theorem kept_c {w w' : World} {p : Addr} {u : Value} (hb : Below w.heap.size w w') (h : w.cell? p = some u) : w'.cell? p = some u := (hb.cell (World.block_lt_of_cell? _ _ h)).trans h
theorem kept_f {w w' : World} {p : Addr} {u : Value} {b : Bool} (hb : Below w.heap.size w w') (h : w.cell? p = some u) (hf : w.frozen? p = b) : w'.frozen? p = b := (World.frozen?_of_block (hb.block _ (World.block_lt_of_cell? _ _ h))).trans hf
theorem set2_far {w : World} {R j : Nat} {p : Addr} {u v x : Value} (h : w.cell? p = some x) (hp : p.block ≠ R) : ((w.setCell ⟨R, 0, none⟩ u).setCell ⟨R, j, none⟩ v).cell? p = some x := by
  rw [World.cell?_setCell_far _ _ _ _ (Ne.symm hp), World.cell?_setCell_far _ _ _ _ (Ne.symm hp)]; exact h
theorem Var2.off {w w' : World} {R g : Nat} {u v : Value} (h : Var2 w R u v) (o : Off g w w') (hg : R ≠ g) : Var2 w' R u v := by
  have e := o.block R hg
  exact ⟨(World.cell?_of_block (a := ⟨R, 0, none⟩) e).trans h.c0, (World.cell?_of_block (a := ⟨R, 1, none⟩) e).trans h.c1, (World.frozen?_of_block (a := ⟨R, 0, none⟩) e).trans h.f0, (World.frozen?_of_block (a := ⟨R, 1, none⟩) e).trans h.f1⟩
set_option maxHeartbeats 1000000 in
/-- whole.Mul -/
theorem mulI {a b : Option Addr} {na nb ca cb : Nat} {m k : Int} {S R : Nat} (p q : Bool) (w : World) (ha : Num w a na ca m S) (hb : Num w b nb cb k R) (hS : S ≤ 10000000000) (hR : R ≤ 10000000000) :
    Calls Tryz.prog 41 #[.agg #[.bool p, .slice a na ca], .agg #[.bool q, .slice b nb cb]] w fun e w' => ∃ v, e = .returned v ∧ GI w' w.heap.size v (ws p m * ws q k) (S + R) ∧ Below w.heap.size w w' := by
  obtain ⟨P0, P1, R0, hb0, hsz⟩ := box3 w (.bool p) (.slice a na ca) (.bool q) (.slice b nb cb) (.bool false) (.slice none 0 0) 28
  replace ha := ha.below hb0
  replace hb := hb.below hb0
  go_enter Tryz.func41, Tryz.ntmps41
  go_wp2_with fail
  generalize ((w.alloc (.cells #[.bool p, .slice a na ca] 28)).alloc (.cells #[.bool q, .slice b nb cb] 28)).alloc (.cells #[.bool false, .slice none 0 0] 28) = W0 at *
  obtain ⟨p0, p1, p2, p3⟩ := id P0
  obtain ⟨q0, q1, q2, q3⟩ := id P1
  go_region_held3 (fun w' => w'.cell? ⟨w.heap.size, 0, none⟩ = some (.bool p) ∧ w'.cell? ⟨w.heap.size, 1, none⟩ = some (.slice a na ca) ∧ w'.cell? ⟨w.heap.size + 1, 0, none⟩ = some (.bool q) ∧ w'.cell? ⟨w.heap.size + 1, 1, none⟩ = some (.slice b nb cb))
    (first | (go_keep; done) | (refine ⟨?_, ?_, ?_, ?_⟩ <;> first | exact kept_c hb2 (by go_keep) | exact kept_c hb1 (by go_keep)) | (refine ⟨?_, ?_, ?_, ?_⟩ <;> first | exact set2_far (by go_keep) (by simp <;> omega) | exact kept_c (by assumption) (by assumption)))
    ((first
      | (go_at_call 69; go_fit (mulG _ (ha.drewN _) (hb.drewN _) (by omega) (by omega)); rintro e w1 ⟨c1, n1, d1, rfl, G1, hb1⟩; have hc1 := bel_tr (belN (Below.refl _ W0) _) hb1; have R1 := R0.below hc1)
      | (go_at_call 65; go_fit (signed_any _ _ _ _ _); rintro e w2 ⟨rfl, hb2⟩; have hc2 : Below w1.heap.size w1 w2 := (by first | exact hb2 | exact bel_tr (belN (Below.refl _ w1) 1) hb2); have R2 := R1.below hc2; obtain ⟨r0, r1, r2, r3⟩ := id R2)))
  have GF : GI w2 W0.heap.size (.agg #[.bool (!(p == q) && decide (0 < n1)), .slice c1 n1 d1]) (ws p m * ws q k) (S + R) := by rw [ws_mul]; exact (G1.gi (p != q)).below hc2
  have hw2 : Below w.heap.size w w2 := bel_tr hb0 (bel_tr hc1 hc2)
  obtain ⟨V, O⟩ := R2.set (.bool (!(p == q) && decide (0 < n1))) (.slice c1 n1 d1)
  clear hb1 hb2 hc1 hc2 ha hb P0 P1 R0 R1 p0 p1 p2 p3 q0 q1 q2 q3
  go_wp2
  refine bodyPost_ret (v := .agg #[.bool (!(p == q) && decide (0 < n1)), .slice c1 n1 d1]) (by simp [results, Tryz.results41, go_sem, V.c0, V.c1]) rfl ⟨_, rfl, ((GF.off O (by omega)).mono (by omega)), hw2.trans (O.below (by omega))⟩
end Go.Proofs.YtfelogbfijomiabGreatDoor

import Derived.Test.YtmegocjmfcmhlaaDoorNumAll
import Derived.Deep.RegionHeld3
namespace Go.Proofs.YtmegocjmfcmhlaaDoor
open Go.RowKit

/-- The whole number of a sign and how far it is from nought. -/
def ws (b : Bool) (m : Int) : Int := if b then -m else m
theorem ws_lt {b : Bool} {m : Int} (hm : 0 ≤ m) : (b && decide (0 < m)) = decide (ws b m < 0) := by
  unfold ws
  cases b with
  | false => simp; omega
  | true => simp
theorem ws_abs {b : Bool} {m : Int} (hm : 0 ≤ m) : ((ws b m).natAbs : Int) = m := by unfold ws; cases b <;> simp <;> omega
theorem ws_not (b : Bool) (m : Int) : ws (!b) m = -ws b m := by unfold ws; cases b <;> simp
theorem ws_zero (b : Bool) : ws b 0 = 0 := by unfold ws; cases b <;> simp
theorem ws_mul (b c : Bool) (m k : Int) : ws b m * ws c k = ws (b != c) (m * k) := by unfold ws; cases b <;> cases c <;> simp [Int.neg_mul, Int.mul_neg]
theorem ws_sign (x : Int) : ws (decide (x < 0)) (x.natAbs : Int) = x := by unfold ws; by_cases h : x < 0 <;> simp [h] <;> omega
theorem Got.pos {w : World} {B : Nat} {a : Option Addr} {n c : Nat} {m : Int} {S : Nat} (h : Got w B (.slice a n c) m S) : 0 ≤ m ∧ (0 < n ↔ 0 < m) := by
  obtain ⟨xs, h1, h2, h3, h4⟩ := h
  obtain ⟨r1, r2, r3⟩ := h1.reads
  have h0 := val_nn h2.1
  have hz := tlen_zero h2.1
  rw [h2.2] at hz
  omega

/-- A whole number's value that tells x in the one form, in memory of its own from block B on. -/
def GI (w : World) (B : Nat) (v : Value) (x : Int) (S : Nat) : Prop := ∃ a n c, v = .agg #[.bool (decide (x < 0)), .slice a n c] ∧ Got w B (.slice a n c) (x.natAbs : Int) S
/-- A whole number's value that tells x, in whatever way. -/
def NI (w : World) (v : Value) (x : Int) (S : Nat) : Prop := ∃ b a n c m, v = .agg #[.bool b, .slice a n c] ∧ Num w a n c m S ∧ x = ws b m
theorem GI.below {w w' : World} {B : Nat} {v : Value} {x : Int} {S : Nat} (h : GI w B v x S) (hb : Below w.heap.size w w') : GI w' B v x S := by
  obtain ⟨a, n, c, h1, h2⟩ := h; exact ⟨a, n, c, h1, h2.below hb⟩
theorem GI.mono {w : World} {B B' : Nat} {v : Value} {x : Int} {S : Nat} (h : GI w B v x S) (hB : B' ≤ B) : GI w B' v x S := by
  obtain ⟨a, n, c, h1, h2⟩ := h; exact ⟨a, n, c, h1, h2.mono hB⟩
theorem GI.le {w : World} {B : Nat} {v : Value} {x : Int} {S S' : Nat} (h : GI w B v x S) (hS : S ≤ S') : GI w B v x S' := by
  obtain ⟨a, n, c, h1, h2⟩ := h; exact ⟨a, n, c, h1, h2.le hS⟩
theorem GI.val {w : World} {B : Nat} {v : Value} {x y : Int} {S : Nat} (h : GI w B v x S) (e : x = y) : GI w B v y S := e ▸ h
theorem GI.ni {w : World} {B : Nat} {v : Value} {x : Int} {S : Nat} (h : GI w B v x S) : NI w v x S := by
  obtain ⟨a, n, c, h1, h2⟩ := h; exact ⟨_, a, n, c, _, h1, h2.num, (ws_sign x).symm⟩
theorem NI.below {w w' : World} {v : Value} {x : Int} {S : Nat} (h : NI w v x S) (hb : Below w.heap.size w w') : NI w' v x S := by
  obtain ⟨b, a, n, c, m, h1, h2, h3⟩ := h; exact ⟨b, a, n, c, m, h1, h2.below hb, h3⟩
theorem NI.val {w : World} {v : Value} {x y : Int} {S : Nat} (h : NI w v x S) (e : x = y) : NI w v y S := e ▸ h
theorem Got.gi {w : World} {B : Nat} {a : Option Addr} {n c : Nat} {m : Int} {S : Nat} (b : Bool) (h : Got w B (.slice a n c) m S) : GI w B (.agg #[.bool (b && decide (0 < n)), .slice a n c]) (ws b m) S := by
  obtain ⟨h0, h1⟩ := h.pos
  refine ⟨a, n, c, ?_, by rw [ws_abs h0]; exact h⟩
  rw [← ws_lt h0]
  congr 4
  simp only [h1]

theorem normG {a : Option Addr} {n c : Nat} {m : Int} {S : Nat} (w : World) (h : Num w a n c m S) (hS : S ≤ 100000000000) :
    Calls Tryd.prog 14 #[.slice a n c] w fun e w' => ∃ a1 n1 c1, e = .returned (.slice a1 n1 c1) ∧ Got w' w.heap.size (.slice a1 n1 c1) m S ∧ Below w.heap.size w w' := by
  obtain ⟨xs, h1, h2, h3, h4, h5, h6⟩ := h
  refine (norm_any a n c xs w h1 h2 (by omega) h3).mono ?_
  rintro e w' ⟨g, rfl, hg, hb, hbel⟩
  have ht := tl_le xs xs.length
  have hl := length_trimL xs
  have := got_of_blk hb h4.trim hg _ rfl (S := S) (by rw [hl]; unfold tlen; omega) (by rw [hl]; unfold tlen; omega)
  rw [tlen_trimL, val_trimL, h5, hl] at this
  exact ⟨_, _, _, rfl, this, hbel⟩
theorem Got.off {w w' : World} {B R : Nat} {v : Value} {x : Int} {S : Nat} (h : Got w B v x S) (ho : Off R w w') (hR : R < B) : Got w' B v x S := by
  obtain ⟨xs, h1, h2⟩ := h
  refine ⟨xs, ?_, h2⟩
  refine ⟨h1.1, ?_⟩
  rcases h1.2 with hn | ⟨g, cap, cur, e1, e2, hgb, rest⟩
  · exact .inl hn
  · exact .inr ⟨g, cap, cur, e1, e2, (ho.block g (by omega)).trans hgb, rest⟩
theorem GI.off {w w' : World} {B R : Nat} {v : Value} {x : Int} {S : Nat} (h : GI w B v x S) (ho : Off R w w') (hR : R < B) : GI w' B v x S := by
  obtain ⟨a, n, c, h1, h2⟩ := h; exact ⟨a, n, c, h1, h2.off ho hR⟩
/-- The variable of a whole number's answer, in block R. -/
structure Var2 (w : World) (R : Nat) (u v : Value) : Prop where
  c0 : w.cell? ⟨R, 0, none⟩ = some u
  c1 : w.cell? ⟨R, 1, none⟩ = some v
  f0 : w.frozen? ⟨R, 0, none⟩ = false
  f1 : w.frozen? ⟨R, 1, none⟩ = false
theorem var2_new (w : World) (u v : Value) (t : TypeId) : Var2 (w.alloc (.cells #[u, v] t)) w.heap.size u v := by
  have h : (w.alloc (.cells #[u, v] t)).heap[w.heap.size]? = some (.cells #[u, v] t) := heap_alloc_new _ _
  exact ⟨by unfold World.cell?; rw [h]; rfl, by unfold World.cell?; rw [h]; rfl, by unfold World.frozen?; rw [h]; simp, by unfold World.frozen?; rw [h]; simp⟩
theorem Var2.lt {w : World} {R : Nat} {u v : Value} (h : Var2 w R u v) : R < w.heap.size := World.block_lt_of_cell? _ _ h.c0
theorem Var2.below {w w' : World} {R : Nat} {u v : Value} (h : Var2 w R u v) (hb : Below w.heap.size w w') : Var2 w' R u v := by
  have e := hb.block R h.lt
  exact ⟨(World.cell?_of_block (a := ⟨R, 0, none⟩) e).trans h.c0, (World.cell?_of_block (a := ⟨R, 1, none⟩) e).trans h.c1, (World.frozen?_of_block (a := ⟨R, 0, none⟩) e).trans h.f0, (World.frozen?_of_block (a := ⟨R, 1, none⟩) e).trans h.f1⟩
/-- What lies behind an answer's writing into its variable. -/
theorem Var2.set {w : World} {R : Nat} {u v : Value} (h : Var2 w R u v) (u' v' : Value) : Var2 ((w.setCell ⟨R, 0, none⟩ u').setCell ⟨R, 1, none⟩ v') R u' v' ∧ Off R w ((w.setCell ⟨R, 0, none⟩ u').setCell ⟨R, 1, none⟩ v') := by
  refine ⟨⟨?_, ?_, ?_, ?_⟩, ((Off.refl _ _).set 0 u').set 1 v'⟩
  · rw [World.cell?_setCell_other _ _ _ _ (by simp), World.cell?_setCell_same _ _ _ h.c0]
  · rw [World.cell?_setCell_same _ _ _ ((World.cell?_setCell_other _ _ _ _ (by simp)).trans h.c1)]
  · rw [World.frozen?_setCell, World.frozen?_setCell]; exact h.f0
  · rw [World.frozen?_setCell, World.frozen?_setCell]; exact h.f1

end Go.Proofs.YtmegocjmfcmhlaaDoor

namespace Go.Proofs.YtmegocjmfcmhlaaDoor
open Go.RowKit

theorem box1 (w : World) (u0 v0 : Value) (t : TypeId) : Var2 (w.alloc (.cells #[u0, v0] t)) w.heap.size u0 v0 ∧ Below w.heap.size w (w.alloc (.cells #[u0, v0] t)) ∧ (w.alloc (.cells #[u0, v0] t)).heap.size = w.heap.size + 1 :=
  ⟨var2_new _ _ _ _, (Below.refl _ _).alloc (Nat.le_refl _) _, by simp⟩
theorem Var2.alloc {w : World} {R : Nat} {u v : Value} (h : Var2 w R u v) (o : Obj) : Var2 (w.alloc o) R u v := h.below ((Below.refl _ _).alloc (Nat.le_refl _) _)
theorem box2 (w : World) (u0 v0 u1 v1 : Value) (t : TypeId) : Var2 ((w.alloc (.cells #[u0, v0] t)).alloc (.cells #[u1, v1] t)) w.heap.size u0 v0 ∧ Var2 ((w.alloc (.cells #[u0, v0] t)).alloc (.cells #[u1, v1] t)) (w.heap.size + 1) u1 v1 ∧
    Below w.heap.size w ((w.alloc (.cells #[u0, v0] t)).alloc (.cells #[u1, v1] t)) ∧ ((w.alloc (.cells #[u0, v0] t)).alloc (.cells #[u1, v1] t)).heap.size = w.heap.size + 2 := by
  obtain ⟨a1, a2, a3⟩ := box1 w u0 v0 t
  have h := var2_new (w.alloc (.cells #[u0, v0] t)) u1 v1 t
  rw [World.size_alloc] at h
  exact ⟨a1.alloc _, h, a2.alloc (by simp) _, by simp⟩
theorem box3 (w : World) (u0 v0 u1 v1 u2 v2 : Value) (t : TypeId) : Var2 (((w.alloc (.cells #[u0, v0] t)).alloc (.cells #[u1, v1] t)).alloc (.cells #[u2, v2] t)) w.heap.size u0 v0 ∧ Var2 (((w.alloc (.cells #[u0, v0] t)).alloc (.cells #[u1, v1] t)).alloc (.cells #[u2, v2] t)) (w.heap.size + 1) u1 v1 ∧
    Var2 (((w.alloc (.cells #[u0, v0] t)).alloc (.cells #[u1, v1] t)).alloc (.cells #[u2, v2] t)) (w.heap.size + 2) u2 v2 ∧
    Below w.heap.size w (((w.alloc (.cells #[u0, v0] t)).alloc (.cells #[u1, v1] t)).alloc (.cells #[u2, v2] t)) ∧ (((w.alloc (.cells #[u0, v0] t)).alloc (.cells #[u1, v1] t)).alloc (.cells #[u2, v2] t)).heap.size = w.heap.size + 3 := by
  obtain ⟨a1, a2, a3, a4⟩ := box2 w u0 v0 u1 v1 t
  have h := var2_new ((w.alloc (.cells #[u0, v0] t)).alloc (.cells #[u1, v1] t)) u2 v2 t
  rw [a4] at h
  exact ⟨a1.alloc _, a2.alloc _, h, a3.alloc (by simp; omega) _, by simp⟩
theorem box4 (w : World) (u0 v0 u1 v1 u2 v2 u3 v3 : Value) (t : TypeId) : Var2 ((((w.alloc (.cells #[u0, v0] t)).alloc (.cells #[u1, v1] t)).alloc (.cells #[u2, v2] t)).alloc (.cells #[u3, v3] t)) w.heap.size u0 v0 ∧ Var2 ((((w.alloc (.cells #[u0, v0] t)).alloc (.cells #[u1, v1] t)).alloc (.cells #[u2, v2] t)).alloc (.cells #[u3, v3] t)) (w.heap.size + 1) u1 v1 ∧
    Var2 ((((w.alloc (.cells #[u0, v0] t)).alloc (.cells #[u1, v1] t)).alloc (.cells #[u2, v2] t)).alloc (.cells #[u3, v3] t)) (w.heap.size + 2) u2 v2 ∧ Var2 ((((w.alloc (.cells #[u0, v0] t)).alloc (.cells #[u1, v1] t)).alloc (.cells #[u2, v2] t)).alloc (.cells #[u3, v3] t)) (w.heap.size + 3) u3 v3 ∧
    Below w.heap.size w ((((w.alloc (.cells #[u0, v0] t)).alloc (.cells #[u1, v1] t)).alloc (.cells #[u2, v2] t)).alloc (.cells #[u3, v3] t)) ∧ ((((w.alloc (.cells #[u0, v0] t)).alloc (.cells #[u1, v1] t)).alloc (.cells #[u2, v2] t)).alloc (.cells #[u3, v3] t)).heap.size = w.heap.size + 4 := by
  obtain ⟨a1, a2, a3, a4, a5⟩ := box3 w u0 v0 u1 v1 u2 v2 t
  have h := var2_new (((w.alloc (.cells #[u0, v0] t)).alloc (.cells #[u1, v1] t)).alloc (.cells #[u2, v2] t)) u3 v3 t
  rw [a5] at h
  exact ⟨a1.alloc _, a2.alloc _, a3.alloc _, h, a4.alloc (by simp; omega) _, by simp⟩

theorem kept_c {w w' : World} {p : Addr} {u : Value} (hb : Below w.heap.size w w') (h : w.cell? p = some u) : w'.cell? p = some u := (hb.cell (World.block_lt_of_cell? _ _ h)).trans h
theorem kept_f {w w' : World} {p : Addr} {u : Value} {b : Bool} (hb : Below w.heap.size w w') (h : w.cell? p = some u) (hf : w.frozen? p = b) : w'.frozen? p = b := (World.frozen?_of_block (hb.block _ (World.block_lt_of_cell? _ _ h))).trans hf
theorem set2_far {w : World} {R j : Nat} {p : Addr} {u v x : Value} (h : w.cell? p = some x) (hp : p.block ≠ R) : ((w.setCell ⟨R, 0, none⟩ u).setCell ⟨R, j, none⟩ v).cell? p = some x := by
  rw [World.cell?_setCell_far _ _ _ _ (Ne.symm hp), World.cell?_setCell_far _ _ _ _ (Ne.symm hp)]; exact h
theorem Var2.off {w w' : World} {R g : Nat} {u v : Value} (h : Var2 w R u v) (o : Off g w w') (hg : R ≠ g) : Var2 w' R u v := by
  have e := o.block R hg
  exact ⟨(World.cell?_of_block (a := ⟨R, 0, none⟩) e).trans h.c0, (World.cell?_of_block (a := ⟨R, 1, none⟩) e).trans h.c1, (World.frozen?_of_block (a := ⟨R, 0, none⟩) e).trans h.f0, (World.frozen?_of_block (a := ⟨R, 1, none⟩) e).trans h.f1⟩
end Go.Proofs.YtmegocjmfcmhlaaDoor

import Derived.Test.YtjlmboakeigmpaaDoorEnds
namespace Go.Proofs.YtjlmboakeigmpaaDoor
open Go.RowKit

theorem Lnt.low {w w' : World} {r gf cf gw cw n T : Nat} {fs ws : List Int} (h : Lnt w r gf cf gw cw n fs ws) (hb : Below T w w') (hf : gf < T) (hw : gw < T) : Lnt w' r gf cf gw cw n fs ws := by
  have hr : r < T := by have := h.lf; omega
  exact ⟨by rw [hb.cell (by exact hr)]; exact h.c0, by rw [hb.cell (by exact hr)]; exact h.c1, by rw [hb.cell (by exact hr)]; exact h.c2, h.rf.below hb hf, h.rw.below hb hw, h.ne, h.lf, h.lw, h.le, by have := hb.size; have := h.lr; omega, h.eq⟩
/-- 't.l = append(t.l, v1, v2)' has been carried out. -/
theorem outs_add2 {w w1 : World} {B T : Nat} {x y : LB} {xs ys : List Int} {lv nv : Value} {l : List (Value × List Int)} {blk : Obj} {v1 v2 : Value} {us1 us2 : List Int} (H : Two w B T x y xs ys lv) (O : Outs w T lv l) (o1 : OwnV w (T + 1) v1 us1) (o2 : OwnV w (T + 1) v2 us2)
    (d1 : ∀ p ∈ l, ∀ g, p.1.ownBlock = some g → v1.ownBlock ≠ some g) (d2 : ∀ p ∈ l, ∀ g, p.1.ownBlock = some g → v2.ownBlock ≠ some g) (d12 : ∀ g, v1.ownBlock = some g → v2.ownBlock ≠ some g) (s1 : us1.length ≤ 1000000000) (s2 : us2.length ≤ 1000000000)
    (hown : TL w1 (T + 1) nv (l.map (·.1) ++ [v1, v2])) (hgrow : (w.alloc blk).grownBy w1 lv.ownBlock) :
    Two (w1.setCell ⟨T, 2, none⟩ nv) B T x y xs ys nv ∧ Outs (w1.setCell ⟨T, 2, none⟩ nv) T nv (l ++ [(v1, us1), (v2, us2)]) ∧ Below T w (w1.setCell ⟨T, 2, none⟩ nv) ∧ w1.cell? ⟨T, 2, none⟩ = some lv ∧ w1.frozen? ⟨T, 2, none⟩ = false := by
  have hlt := H.lt
  have hbA : Below w.heap.size w (w.alloc blk) := (Below.refl _ _).alloc (Nat.le_refl _) _
  have hszA : (w.alloc blk).heap.size = w.heap.size + 1 := by simp
  have hrow : ∀ q, lv.ownBlock = some q → T + 1 ≤ q := fun q hq => (O.tl.lt q hq).1
  have hb1 : Below (T + 1) w w1 := (hbA.mono (by omega)).trans (grown_below hgrow (by omega) hrow)
  have hb1' : Below T w w1 := hb1.mono (by omega)
  have hb2 : Below T w (w1.setCell ⟨T, 2, none⟩ nv) := hb1'.setCell (Nat.le_refl _) _
  have hc : ∀ i, w1.cell? ⟨T, i, none⟩ = w.cell? ⟨T, i, none⟩ := fun i => hb1.cell (p := ⟨T, i, none⟩) (Nat.lt_succ_self T)
  have hfz : w1.frozen? ⟨T, 2, none⟩ = w.frozen? ⟨T, 2, none⟩ := World.frozen?_of_block (w := w) (hb1.block T (Nat.lt_succ_self T))
  have keep : ∀ {v : Value} {us : List Int}, OwnV w (T + 1) v us → OwnV (w1.setCell ⟨T, 2, none⟩ nv) (T + 1) v us := fun {v us} h =>
    ((h.alloc blk).grown hgrow ((O.tl.alloc blk).ne (h.alloc blk))).set_below (by simp) _
  refine ⟨⟨?_, ?_, ?_, ?_, H.lx.low hb2 (H.lo.2.2.2.1) (by have := H.xy'; have := H.ly.lf; have := H.yT; omega), H.ly.low hb2 H.yT H.yT', H.bx, H.xy, H.xy', H.yT, H.yT', by have := hb2.size; omega⟩, ⟨?_, ?_, ?_, ?_⟩, hb2, by rw [hc]; exact H.c2, by rw [hfz]; exact H.fz⟩
  · rw [World.cell?_setCell_other _ _ _ _ (by simp), hc]; exact H.c0
  · rw [World.cell?_setCell_other _ _ _ _ (by simp), hc]; exact H.c1
  · exact World.cell?_setCell_same _ _ _ (by rw [hc]; exact H.c2)
  · rw [World.frozen?_setCell, hfz]; exact H.fz
  · rw [List.map_append]
    exact hown.set_below (by simp) _
  · intro p hp
    rcases List.mem_append.1 hp with hp | hp
    · exact keep (O.ov p hp)
    · simp only [List.mem_cons, List.not_mem_nil, or_false] at hp
      rcases hp with rfl | rfl
      · exact keep o1
      · exact keep o2
  · rw [List.pairwise_append]
    refine ⟨O.dj, ?_, ?_⟩
    · simp only [List.pairwise_cons, List.mem_cons, List.not_mem_nil, or_false, forall_eq, List.Pairwise.nil, and_true, false_implies, implies_true]
      exact d12
    · intro p hp q hq
      simp only [List.mem_cons, List.not_mem_nil, or_false] at hq
      rcases hq with rfl | rfl
      · exact d1 p hp
      · exact d2 p hp
  · intro p hp
    rcases List.mem_append.1 hp with hp | hp
    · exact O.sz p hp
    · simp only [List.mem_cons, List.not_mem_nil, or_false] at hp
      rcases hp with rfl | rfl <;> assumption
theorem keep_bel {w w' : World} (hb : Below w.heap.size w w') {p : Addr} {v : Value} (hc : w.cell? p = some v) : w'.cell? p = some v := by
  rw [hb.cell (World.block_lt_of_cell? _ _ hc)]; exact hc
theorem LB.num {w : World} {b : LB} {xs : List Int} (h : b.is w xs) (hn : b.n = xs.length) (hx : AllW xs) {S : Nat} (hS : xs.length ≤ S) : Num w (some ⟨b.gf, 0, none⟩) b.n b.cf (val xs) S := by
  have o := LB.own h hn (Nat.le_refl _)
  obtain ⟨r1, r2, r3⟩ := o.reads
  exact ⟨xs, r1, r2, r3, hx, rfl, by omega⟩
theorem Num.hd {w : World} {a : Option Addr} {n cap : Nat} {x : Int} {S : Nat} (h : Num w a n cap x S) (m : Nat) : Num (w.drewN m) a n cap x S := h.drewN m
/-- What is fresh shares nothing with what was. -/
theorem fresh_ne {w : World} {T H : Nat} {lv v : Value} {l : List (Value × List Int)} {w' : World} {x : Int} {S : Nat} (O : Outs w T lv l) (hH : w.heap.size ≤ H) (h : Got w' H v x S) : ∀ p ∈ l, ∀ g, p.1.ownBlock = some g → v.ownBlock ≠ some g := fun p hp g hg e => by
  have := ((O.ov p hp).lt g hg).2; have := (h.lt g e).1; omega
end Go.Proofs.YtjlmboakeigmpaaDoor

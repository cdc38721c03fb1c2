import Derived.Test.YtbkkepbmaadomaaGreatDoorLentAll
import Derived.Test.YtbkkepbmaadomaaGreatDoorFmAll
import Derived.Deep.RegionHeld3
import Derived.Deep.DrawnRows
import Derived.Deep.DeepFit
import Derived.Test.YtbkkepbmaadomaaGreatDoorNumAll
import Derived.LaidEql
namespace Go.Proofs.YtbkkepbmaadomaaGreatDoor
open Go.RowKit

/-- A list of numbers that the call owns, in memory from block B on. -/
def TL (w : World) (B : Nat) (lv : Value) (vs : List Value) : Prop := w.ownsRow B 31 1 lv vs.length vs
theorem TL.nil (w : World) (B : Nat) : TL w B (.slice none 0 0) [] := World.ownsRow_nil _ _ _ _
theorem TL.row {w : World} {B : Nat} {lv : Value} {vs : List Value} (h : TL w B lv vs) : (lv = .slice none 0 0 ∧ vs = []) ∨ ∃ g cap, lv = .slice (some ⟨g, 0, none⟩) vs.length cap ∧ B ≤ g ∧ g < w.heap.size ∧ TRow w g vs.length (fun i => vs.getD i (.slice none 0 0)) := by
  rcases h.2 with ⟨h1, h2⟩ | ⟨g, cap, cur, h1, h2, h3, h4, h5, h6, h7⟩
  · exact .inl ⟨h1, List.eq_nil_of_length_eq_zero h2⟩
  · refine .inr ⟨g, cap, h1, h2, (Array.getElem?_eq_some_iff.1 h3).1, cur, h3, fun i hi => ?_⟩
    have := congrArg (fun l => l[i]?) h7
    simp only [Nat.mul_one, List.getElem?_take_of_lt hi] at this
    show cur[i]? = some (vs.getD i (.slice none 0 0))
    rw [List.getD_eq_getElem?_getD, List.getElem?_eq_getElem hi]
    simpa [List.getElem?_eq_getElem hi] using this
theorem TL.lt {w : World} {B : Nat} {lv : Value} {vs : List Value} (h : TL w B lv vs) : ∀ k, lv.ownBlock = some k → B ≤ k ∧ k < w.heap.size := World.ownsRow.lt h
theorem TL.slice {w : World} {B : Nat} {lv : Value} {vs : List Value} (h : TL w B lv vs) : ∃ a cap, lv = .slice a vs.length cap := by
  rcases h.row with ⟨h1, h2⟩ | ⟨g, cap, h1, _⟩
  · subst h2; exact ⟨none, 0, h1⟩
  · exact ⟨_, _, h1⟩
theorem TL.alloc {w : World} {B : Nat} {lv : Value} {vs : List Value} (h : TL w B lv vs) (o : Obj) : TL (w.alloc o) B lv vs := World.ownsRow.alloc h o
theorem TL.drew {w : World} {B : Nat} {lv : Value} {vs : List Value} (h : TL w B lv vs) : TL w.drew B lv vs := h
theorem TL.below {w w' : World} {B : Nat} {lv : Value} {vs : List Value} (h : TL w B lv vs) (hb : Below w.heap.size w w') : TL w' B lv vs := by
  refine ⟨h.1, ?_⟩
  rcases h.2 with ⟨h1, h2⟩ | ⟨g, cap, cur, h1, h2, h3, h4⟩
  · exact .inl ⟨h1, h2⟩
  · exact .inr ⟨g, cap, cur, h1, h2, by rw [hb.block g (Array.getElem?_eq_some_iff.1 h3).1]; exact h3, h4⟩
theorem TL.set_below {w : World} {B : Nat} {lv : Value} {vs : List Value} (h : TL w B lv vs) {p : Addr} (hp : p.block < B) (u : Value) : TL (w.setCell p u) B lv vs := ownsRow_setCell_below h hp u
theorem TL.ne {w : World} {B B' : Nat} {lv u : Value} {vs : List Value} {xs : List Int} (h : TL w B lv vs) (ho : OwnV w B' u xs) : u.ownBlock = none ∨ u.ownBlock ≠ lv.ownBlock := by
  rcases h.2 with ⟨h1, _⟩ | ⟨g, cap, cur, h1, h2, h3, _⟩
  · subst h1
    cases e : u.ownBlock with
    | none => exact .inl rfl
    | some k => exact .inr (by simp [Value.ownBlock])
  · right
    subst h1
    intro e
    rcases ho.row with ⟨rfl, _⟩ | ⟨k, cap2, rfl, _, cur2, h4, _⟩
    · simp [Value.ownBlock] at e
    · simp only [Value.ownBlock, Option.some.injEq] at e
      subst e
      rw [h3] at h4
      simp at h4
/-- 'append(l, y, z)' at a plain region. -/
theorem wpList_appendT2 (w : World) {ops : Array Oper} {rest : List Oper} {o : Oper} {a : Act} {Q : Exit → Act → World → Prop} (hgd : o.guard = none) (s x : Operand)
    (ho : o.op = .call { callee := .builtin .append, args := #[s, x], argTypes := #[145, 145] }) (B : Nat) (v : Value) (vs : List Value) (n : Nat) (hn : Hid (vs.length = n)) (hs : a.eval s = v) (hown : TL w B v vs) (h : Nat) (c : Nat) (y z : Value) (hx : a.eval x = .slice (some ⟨h, 0, none⟩) 2 c)
    (hc : w.cell? ⟨h, 0, none⟩ = some y) (hc1 : w.cell? ⟨h, 1, none⟩ = some z) (hy : y.oneCell' = true) (hz : z.oneCell' = true) (hlen : n ≤ 1000000000) (hB : B ≤ w.heap.size) (H : Nat) (hH : w.heap.size = H)
    (hK : ∀ g cap w', TL w' B (.slice (some ⟨g, 0, none⟩) (n + 2) cap) (vs ++ [y, z]) → w.grownBy w' v.ownBlock → (v.ownBlock = some g ∨ g = H) → g < w'.heap.size → wpList Tryz.prog ops Q rest (a.put o.dst (.slice (some ⟨g, 0, none⟩) (n + 2) cap)) w') :
    wpList Tryz.prog ops Q (o :: rest) a w := by
  obtain rfl := hn.out
  obtain ⟨i0, hi, hz0, hz1, hz2⟩ := info_parts Tryz.infoNat
  refine wpList_append_lies w hgd s x 145 ho B 31 i0 (.slice none 0 0) 1 24 Tryz.underlying145 hi hz0 hz1 hz2 rfl (by decide) v vs.length vs hs hown ⟨h, 0, none⟩ 2 c [y, z] hx rfl ?_ (fun u hu => by simp at hu; rcases hu with rfl | rfl <;> assumption) (by decide) (by unfold maxLen; omega) (by omega) hB H hH ?_
  · intro j u hj
    match j, hj with
    | 0, hj => simp at hj; subst hj; simpa [Addr.add] using hc
    | 1, hj => simp at hj; subst hj; simpa [Addr.add] using hc1
  · intro g cap w' h1 h2 h3 h4
    refine hK g cap w' ?_ h2 h3 h4
    unfold TL
    simpa using h1
/-- .. at a step of a region that draws its order. -/
theorem step_appendT2 (w : World) {ops : Array Oper} {o : Oper} {a : Act} {K : Act → World → Prop} {Q : Exit → Act → World → Prop} {E : Prop} (hgd : o.guard = none) (s x : Operand)
    (ho : o.op = .call { callee := .builtin .append, args := #[s, x], argTypes := #[145, 145] }) (B : Nat) (v : Value) (vs : List Value) (n : Nat) (hn : Hid (vs.length = n)) (hs : a.eval s = v) (hown : TL w B v vs) (h : Nat) (c : Nat) (y z : Value) (hx : a.eval x = .slice (some ⟨h, 0, none⟩) 2 c)
    (hc : w.cell? ⟨h, 0, none⟩ = some y) (hc1 : w.cell? ⟨h, 1, none⟩ = some z) (hy : y.oneCell' = true) (hz : z.oneCell' = true) (hlen : n ≤ 1000000000) (hB : B ≤ w.heap.size) (H : Nat) (hH : w.heap.size = H)
    (hK : ∀ g cap w', TL w' B (.slice (some ⟨g, 0, none⟩) (n + 2) cap) (vs ++ [y, z]) → w.grownBy w' v.ownBlock → (v.ownBlock = some g ∨ g = H) → g < w'.heap.size → K (a.put o.dst (.slice (some ⟨g, 0, none⟩) (n + 2) cap)) w') :
    if Region.wanted o (yielded ops a.tmps) = true then Oper.wp Tryz.prog o a w K Q else E := by
  obtain rfl := hn.out
  obtain ⟨i0, hi, hz0, hz1, hz2⟩ := info_parts Tryz.infoNat
  refine step_append_lies w hgd s x 145 ho B 31 i0 (.slice none 0 0) 1 24 Tryz.underlying145 hi hz0 hz1 hz2 rfl (by decide) v vs.length vs hs hown ⟨h, 0, none⟩ 2 c [y, z] hx rfl ?_ (fun u hu => by simp at hu; rcases hu with rfl | rfl <;> assumption) (by decide) (by unfold maxLen; omega) (by omega) hB H hH ?_
  · intro j u hj
    match j, hj with
    | 0, hj => simp at hj; subst hj; simpa [Addr.add] using hc
    | 1, hj => simp at hj; subst hj; simpa [Addr.add] using hc1
  · intro g cap w' h1 h2 h3 h4
    refine hK g cap w' ?_ h2 h3 h4
    unfold TL
    simpa using h1

/-! ### two numbers that are lent -/
/-- What was lent: the struct at r, its lists at gf and gw; it tells fs. -/
structure LB where
  r : Nat
  gf : Nat
  cf : Nat
  gw : Nat
  cw : Nat
  n : Nat
def LB.is (b : LB) (w : World) (xs : List Int) : Prop := Lnt w b.r b.gf b.cf b.gw b.cw b.n (lendL xs) (lendL xs)
/-- The struct 'two' at block T: both lent numbers lie below it, from block B on. -/
structure Two (w : World) (B T : Nat) (x y : LB) (xs ys : List Int) (lv : Value) : Prop where
  c0 : w.cell? ⟨T, 0, none⟩ = some (.pointer (some ⟨x.r, 0, none⟩))
  c1 : w.cell? ⟨T, 1, none⟩ = some (.pointer (some ⟨y.r, 0, none⟩))
  c2 : w.cell? ⟨T, 2, none⟩ = some lv
  fz : w.frozen? ⟨T, 2, none⟩ = false
  lx : x.is w xs
  ly : y.is w ys
  bx : B ≤ x.r
  xy : x.gf < y.r
  xy' : x.gw < y.r
  yT : y.gf < T
  yT' : y.gw < T
  lt : T < w.heap.size
theorem Two.below {w w' : World} {B T : Nat} {x y : LB} {xs ys : List Int} {lv : Value} (h : Two w B T x y xs ys lv) (hb : Below w.heap.size w w') : Two w' B T x y xs ys lv :=
  ⟨by rw [hb.cell (by exact h.lt)]; exact h.c0, by rw [hb.cell (by exact h.lt)]; exact h.c1, by rw [hb.cell (by exact h.lt)]; exact h.c2, by rw [World.frozen?_of_block (w := w) (hb.block T h.lt)]; exact h.fz, h.lx.below hb, h.ly.below hb, h.bx, h.xy, h.xy', h.yT, h.yT', by have := hb.size; have := h.lt; omega⟩
theorem Two.lo {w : World} {B T : Nat} {x y : LB} {xs ys : List Int} {lv : Value} (h : Two w B T x y xs ys lv) : B < T ∧ B ≤ x.gf ∧ B ≤ y.gf ∧ x.gf < T ∧ x.gf ≠ y.gf := by
  have := h.bx; have := h.xy; have := h.yT; have h1 := h.lx.lf; have h2 := h.ly.lf
  refine ⟨by omega, by omega, by omega, by omega, by omega⟩

end Go.Proofs.YtbkkepbmaadomaaGreatDoor

namespace Go.Proofs.YtbkkepbmaadomaaGreatDoor
open Go.RowKit
attribute [local go_sem ↓] Go.wp_at_zero Go.wp_at_succ

/-- What came out of the calls: the list lv holds it; each has memory of its own above block T. -/
structure Outs (w : World) (T : Nat) (lv : Value) (l : List (Value × List Int)) : Prop where
  tl : TL w (T + 1) lv (l.map (·.1))
  ov : ∀ p ∈ l, OwnV w (T + 1) p.1 p.2
  dj : l.Pairwise fun p q => ∀ g, p.1.ownBlock = some g → q.1.ownBlock ≠ some g
  sz : ∀ p ∈ l, p.2.length ≤ 1000000000
theorem Outs.nil (w : World) (T : Nat) : Outs w T (.slice none 0 0) [] := ⟨TL.nil _ _, fun _ hp => absurd hp (List.not_mem_nil), List.Pairwise.nil, fun _ hp => absurd hp (List.not_mem_nil)⟩
theorem Outs.below {w w' : World} {T : Nat} {lv : Value} {l : List (Value × List Int)} (h : Outs w T lv l) (hb : Below w.heap.size w w') : Outs w' T lv l :=
  ⟨h.tl.below hb, fun p hp => (h.ov p hp).below hb, h.dj, h.sz⟩

theorem keep_grown {w w1 : World} {row : Option Nat} {p : Addr} {v : Value} {B : Nat} (hg : w.grownBy w1 row) (hr : ∀ q, row = some q → B ≤ q) (hp : p.block < B) (hc : w.cell? p = some v) : w1.cell? p = some v := by
  have hlt := World.block_lt_of_cell? _ _ hc
  rw [grown_cell hg (p := p) hlt (fun e => by have := hr _ e.symm; omega)]; exact hc
theorem cell_two {w : World} {h : Nat} {u v : Value} {t : TypeId} (hh : h = w.heap.size) : (w.alloc (.cells #[u, v] t)).cell? ⟨h, 0, none⟩ = some u ∧ (w.alloc (.cells #[u, v] t)).cell? ⟨h, 1, none⟩ = some v := by subst hh; simp
theorem TL.trow {w : World} {B g n cap : Nat} {l : List (Value × List Int)} (h : TL w B (.slice (some ⟨g, 0, none⟩) n cap) (l.map (·.1))) (hl : 0 < l.length) : n = l.length ∧ TRow w g l.length (fun i => (l.getD i (.slice none 0 0, [])).1) := by
  rcases h.row with ⟨h1, h2⟩ | ⟨g', cap', h1, _, _, h4⟩
  · simp at h2; subst h2; simp at hl
  · simp only [Value.slice.injEq, Option.some.injEq, Addr.mk.injEq, List.length_map, and_true] at h1
    obtain ⟨rfl, rfl, rfl⟩ := h1
    refine ⟨rfl, ?_⟩
    rw [List.length_map] at h4
    obtain ⟨cur, c1, c2⟩ := h4
    refine ⟨cur, c1, fun i hi => ?_⟩
    rw [c2 i hi]
    simp [List.getD_eq_getElem?_getD, List.getElem?_eq_getElem hi]
theorem LB.own {w : World} {b : LB} {xs : List Int} (h : b.is w xs) (hn : b.n = xs.length) {B : Nat} (hB : B ≤ b.gf) : OwnV w B (.slice (some ⟨b.gf, 0, none⟩) b.n b.cf) xs := by
  have := h.rf.take xs.length
  have e : (lendL xs).take xs.length = xs := by unfold lendL; rw [List.take_append_of_le_length (Nat.le_refl _), List.take_length]
  rw [e] at this
  have := this.own hB
  rwa [← hn] at this

end Go.Proofs.YtbkkepbmaadomaaGreatDoor

namespace Go.Proofs.YtbkkepbmaadomaaGreatDoor
open Go.RowKit

theorem Tryz.errComp : (Tryz.prog.info? 197).map (·.comparable) = some true := by kernel_rfl
theorem Tryz.errSize : (Tryz.prog.info? 211).map (·.size) = some 1 := by kernel_rfl
end Go.Proofs.YtbkkepbmaadomaaGreatDoor

namespace Go.Proofs.YtbkkepbmaadomaaGreatDoor
open Go.RowKit

theorem Lnt.low {w w' : World} {r gf cf gw cw n T : Nat} {fs ws : List Int} (h : Lnt w r gf cf gw cw n fs ws) (hb : Below T w w') (hf : gf < T) (hw : gw < T) : Lnt w' r gf cf gw cw n fs ws := by
  have hr : r < T := by have := h.lf; omega
  exact ⟨by rw [hb.cell (by exact hr)]; exact h.c0, by rw [hb.cell (by exact hr)]; exact h.c1, by rw [hb.cell (by exact hr)]; exact h.c2, h.rf.below hb hf, h.rw.below hb hw, h.ne, h.lf, h.lw, h.le, by have := hb.size; have := h.lr; omega, h.eq⟩
/-- 't.l = append(t.l, v1, v2)' has been carried out. -/
theorem outs_add2 {w w1 : World} {B T : Nat} {x y : LB} {xs ys : List Int} {lv nv : Value} {l : List (Value × List Int)} {blk : Obj} {v1 v2 : Value} {us1 us2 : List Int} (H : Two w B T x y xs ys lv) (O : Outs w T lv l) (o1 : OwnV w (T + 1) v1 us1) (o2 : OwnV w (T + 1) v2 us2)
    (d1 : ∀ p ∈ l, ∀ g, p.1.ownBlock = some g → v1.ownBlock ≠ some g) (d2 : ∀ p ∈ l, ∀ g, p.1.ownBlock = some g → v2.ownBlock ≠ some g) (d12 : ∀ g, v1.ownBlock = some g → v2.ownBlock ≠ some g) (s1 : us1.length ≤ 1000000000) (s2 : us2.length ≤ 1000000000)
    (hown : TL w1 (T + 1) nv (l.map (·.1) ++ [v1, v2])) (hgrow : (w.alloc blk).grownBy w1 lv.ownBlock) :
    Two (w1.setCell ⟨T, 2, none⟩ nv) B T x y xs ys nv ∧ Outs (w1.setCell ⟨T, 2, none⟩ nv) T nv (l ++ [(v1, us1), (v2, us2)]) ∧ Below T w (w1.setCell ⟨T, 2, none⟩ nv) ∧ w1.cell? ⟨T, 2, none⟩ = some lv ∧ w1.frozen? ⟨T, 2, none⟩ = false := by
  have hlt := H.lt
  have hbA : Below w.heap.size w (w.alloc blk) := (Below.refl _ _).alloc (Nat.le_refl _) _
  have hszA : (w.alloc blk).heap.size = w.heap.size + 1 := by simp
  have hrow : ∀ q, lv.ownBlock = some q → T + 1 ≤ q := fun q hq => (O.tl.lt q hq).1
  have hb1 : Below (T + 1) w w1 := (hbA.mono (by omega)).trans (grown_below hgrow (by omega) hrow)
  have hb1' : Below T w w1 := hb1.mono (by omega)
  have hb2 : Below T w (w1.setCell ⟨T, 2, none⟩ nv) := hb1'.setCell (Nat.le_refl _) _
  have hc : ∀ i, w1.cell? ⟨T, i, none⟩ = w.cell? ⟨T, i, none⟩ := fun i => hb1.cell (p := ⟨T, i, none⟩) (Nat.lt_succ_self T)
  have hfz : w1.frozen? ⟨T, 2, none⟩ = w.frozen? ⟨T, 2, none⟩ := World.frozen?_of_block (w := w) (hb1.block T (Nat.lt_succ_self T))
  have keep : ∀ {v : Value} {us : List Int}, OwnV w (T + 1) v us → OwnV (w1.setCell ⟨T, 2, none⟩ nv) (T + 1) v us := fun {v us} h =>
    ((h.alloc blk).grown hgrow ((O.tl.alloc blk).ne (h.alloc blk))).set_below (by simp) _
  refine ⟨⟨?_, ?_, ?_, ?_, H.lx.low hb2 (H.lo.2.2.2.1) (by have := H.xy'; have := H.ly.lf; have := H.yT; omega), H.ly.low hb2 H.yT H.yT', H.bx, H.xy, H.xy', H.yT, H.yT', by have := hb2.size; omega⟩, ⟨?_, ?_, ?_, ?_⟩, hb2, by rw [hc]; exact H.c2, by rw [hfz]; exact H.fz⟩
  · rw [World.cell?_setCell_other _ _ _ _ (by simp), hc]; exact H.c0
  · rw [World.cell?_setCell_other _ _ _ _ (by simp), hc]; exact H.c1
  · exact World.cell?_setCell_same _ _ _ (by rw [hc]; exact H.c2)
  · rw [World.frozen?_setCell, hfz]; exact H.fz
  · rw [List.map_append]
    exact hown.set_below (by simp) _
  · intro p hp
    rcases List.mem_append.1 hp with hp | hp
    · exact keep (O.ov p hp)
    · simp only [List.mem_cons, List.not_mem_nil, or_false] at hp
      rcases hp with rfl | rfl
      · exact keep o1
      · exact keep o2
  · rw [List.pairwise_append]
    refine ⟨O.dj, ?_, ?_⟩
    · simp only [List.pairwise_cons, List.mem_cons, List.not_mem_nil, or_false, forall_eq, List.Pairwise.nil, and_true, false_implies, implies_true]
      exact d12
    · intro p hp q hq
      simp only [List.mem_cons, List.not_mem_nil, or_false] at hq
      rcases hq with rfl | rfl
      · exact d1 p hp
      · exact d2 p hp
  · intro p hp
    rcases List.mem_append.1 hp with hp | hp
    · exact O.sz p hp
    · simp only [List.mem_cons, List.not_mem_nil, or_false] at hp
      rcases hp with rfl | rfl <;> assumption
theorem keep_bel {w w' : World} (hb : Below w.heap.size w w') {p : Addr} {v : Value} (hc : w.cell? p = some v) : w'.cell? p = some v := by
  rw [hb.cell (World.block_lt_of_cell? _ _ hc)]; exact hc
theorem LB.num {w : World} {b : LB} {xs : List Int} (h : b.is w xs) (hn : b.n = xs.length) (hx : AllW xs) {S : Nat} (hS : xs.length ≤ S) : Num w (some ⟨b.gf, 0, none⟩) b.n b.cf (val xs) S := by
  have o := LB.own h hn (Nat.le_refl _)
  obtain ⟨r1, r2, r3⟩ := o.reads
  exact ⟨xs, r1, r2, r3, hx, rfl, by omega⟩
theorem Num.hd {w : World} {a : Option Addr} {n cap : Nat} {x : Int} {S : Nat} (h : Num w a n cap x S) (m : Nat) : Num (w.drewN m) a n cap x S := h.drewN m
/-- What is fresh shares nothing with what was. -/
theorem fresh_ne {w : World} {T H : Nat} {lv v : Value} {l : List (Value × List Int)} {w' : World} {x : Int} {S : Nat} (O : Outs w T lv l) (hH : w.heap.size ≤ H) (h : Got w' H v x S) : ∀ p ∈ l, ∀ g, p.1.ownBlock = some g → v.ownBlock ≠ some g := fun p hp g hg e => by
  have := ((O.ov p hp).lt g hg).2; have := (h.lt g e).1; omega
end Go.Proofs.YtbkkepbmaadomaaGreatDoor

namespace Go.Proofs.YtbkkepbmaadomaaGreatDoor
open Go.RowKit

set_option maxRecDepth 100000 in
/-- 'append(l, y)' at a plain region. -/
theorem wpList_appendT1 (w : World) {ops : Array Oper} {rest : List Oper} {o : Oper} {a : Act} {Q : Exit → Act → World → Prop} (hgd : o.guard = none) (s x : Operand)
    (ho : o.op = .call { callee := .builtin .append, args := #[s, x], argTypes := #[145, 145] }) (B : Nat) (v : Value) (vs : List Value) (n : Nat) (hn : Hid (vs.length = n)) (hs : a.eval s = v) (hown : TL w B v vs) (h : Nat) (c : Nat) (y : Value) (hx : a.eval x = .slice (some ⟨h, 0, none⟩) 1 c)
    (hc : w.cell? ⟨h, 0, none⟩ = some y) (hy : y.oneCell' = true) (hlen : n ≤ 1000000000) (hB : B ≤ w.heap.size) (H : Nat) (hH : w.heap.size = H)
    (hK : ∀ g cap w', TL w' B (.slice (some ⟨g, 0, none⟩) (n + 1) cap) (vs ++ [y]) → w.grownBy w' v.ownBlock → (v.ownBlock = some g ∨ g = H) → g < w'.heap.size → wpList Tryz.prog ops Q rest (a.put o.dst (.slice (some ⟨g, 0, none⟩) (n + 1) cap)) w') :
    wpList Tryz.prog ops Q (o :: rest) a w := by
  obtain rfl := hn.out
  obtain ⟨i0, hi, hz0, hz1, hz2⟩ := info_parts Tryz.infoNat
  refine wpList_append_lies w hgd s x 145 ho B 31 i0 (.slice none 0 0) 1 24 Tryz.underlying145 hi hz0 hz1 hz2 rfl (by decide) v vs.length vs hs hown ⟨h, 0, none⟩ 1 c [y] hx rfl ?_ (fun u hu => by simp at hu; subst hu; exact hy) (by decide) (by unfold maxLen; omega) (by omega) hB H hH ?_
  · intro j u hj
    match j, hj with
    | 0, hj => simp at hj; subst hj; simpa [Addr.add] using hc
  · intro g cap w' h1 h2 h3 h4
    refine hK g cap w' ?_ h2 h3 h4
    unfold TL
    simpa using h1
/-- 't.l = append(t.l, v1)' has been carried out. -/
theorem outs_add1 {w w1 : World} {B T : Nat} {x y : LB} {xs ys : List Int} {lv nv : Value} {l : List (Value × List Int)} {blk : Obj} {v1 : Value} {us1 : List Int} (H : Two w B T x y xs ys lv) (O : Outs w T lv l) (o1 : OwnV w (T + 1) v1 us1)
    (d1 : ∀ p ∈ l, ∀ g, p.1.ownBlock = some g → v1.ownBlock ≠ some g) (s1 : us1.length ≤ 1000000000)
    (hown : TL w1 (T + 1) nv (l.map (·.1) ++ [v1])) (hgrow : (w.alloc blk).grownBy w1 lv.ownBlock) :
    Two (w1.setCell ⟨T, 2, none⟩ nv) B T x y xs ys nv ∧ Outs (w1.setCell ⟨T, 2, none⟩ nv) T nv (l ++ [(v1, us1)]) ∧ Below T w (w1.setCell ⟨T, 2, none⟩ nv) ∧ w1.cell? ⟨T, 2, none⟩ = some lv ∧ w1.frozen? ⟨T, 2, none⟩ = false := by
  have hlt := H.lt
  have hbA : Below w.heap.size w (w.alloc blk) := (Below.refl _ _).alloc (Nat.le_refl _) _
  have hszA : (w.alloc blk).heap.size = w.heap.size + 1 := by simp
  have hrow : ∀ q, lv.ownBlock = some q → T + 1 ≤ q := fun q hq => (O.tl.lt q hq).1
  have hb1 : Below (T + 1) w w1 := (hbA.mono (by omega)).trans (grown_below hgrow (by omega) hrow)
  have hb1' : Below T w w1 := hb1.mono (by omega)
  have hb2 : Below T w (w1.setCell ⟨T, 2, none⟩ nv) := hb1'.setCell (Nat.le_refl _) _
  have hc : ∀ i, w1.cell? ⟨T, i, none⟩ = w.cell? ⟨T, i, none⟩ := fun i => hb1.cell (p := ⟨T, i, none⟩) (Nat.lt_succ_self T)
  have hfz : w1.frozen? ⟨T, 2, none⟩ = w.frozen? ⟨T, 2, none⟩ := World.frozen?_of_block (w := w) (hb1.block T (Nat.lt_succ_self T))
  have keep : ∀ {v : Value} {us : List Int}, OwnV w (T + 1) v us → OwnV (w1.setCell ⟨T, 2, none⟩ nv) (T + 1) v us := fun {v us} h =>
    ((h.alloc blk).grown hgrow ((O.tl.alloc blk).ne (h.alloc blk))).set_below (by simp) _
  refine ⟨⟨?_, ?_, ?_, ?_, H.lx.low hb2 (H.lo.2.2.2.1) (by have := H.xy'; have := H.ly.lf; have := H.yT; omega), H.ly.low hb2 H.yT H.yT', H.bx, H.xy, H.xy', H.yT, H.yT', by have := hb2.size; omega⟩, ⟨?_, ?_, ?_, ?_⟩, hb2, by rw [hc]; exact H.c2, by rw [hfz]; exact H.fz⟩
  · rw [World.cell?_setCell_other _ _ _ _ (by simp), hc]; exact H.c0
  · rw [World.cell?_setCell_other _ _ _ _ (by simp), hc]; exact H.c1
  · exact World.cell?_setCell_same _ _ _ (by rw [hc]; exact H.c2)
  · rw [World.frozen?_setCell, hfz]; exact H.fz
  · rw [List.map_append]
    exact hown.set_below (by simp) _
  · intro p hp
    rcases List.mem_append.1 hp with hp | hp
    · exact keep (O.ov p hp)
    · simp only [List.mem_cons, List.not_mem_nil, or_false] at hp
      subst hp
      exact keep o1
  · rw [List.pairwise_append]
    refine ⟨O.dj, ?_, ?_⟩
    · simp
    · intro p hp q hq
      simp only [List.mem_cons, List.not_mem_nil, or_false] at hq
      subst hq
      exact d1 p hp
  · intro p hp
    rcases List.mem_append.1 hp with hp | hp
    · exact O.sz p hp
    · simp only [List.mem_cons, List.not_mem_nil, or_false] at hp
      subst hp
      exact s1
end Go.Proofs.YtbkkepbmaadomaaGreatDoor

import Derived.Test.YtjlmboakeigmpaaDoorLentAll
import Derived.Test.YtjlmboakeigmpaaDoorGotL
import Derived.Test.YtjlmboakeigmpaaDoorForms
import Derived.Deep.RegionHeld3
namespace Go.Proofs.YtjlmboakeigmpaaDoor
open Go.RowKit

/-- A list of numbers that the call owns, in memory from block B on. -/
def TL (w : World) (B : Nat) (lv : Value) (vs : List Value) : Prop := w.ownsRow B 23 1 lv vs.length vs
theorem TL.nil (w : World) (B : Nat) : TL w B (.slice none 0 0) [] := World.ownsRow_nil _ _ _ _
theorem TL.row {w : World} {B : Nat} {lv : Value} {vs : List Value} (h : TL w B lv vs) : (lv = .slice none 0 0 ∧ vs = []) ∨ ∃ g cap, lv = .slice (some ⟨g, 0, none⟩) vs.length cap ∧ B ≤ g ∧ g < w.heap.size ∧ TRow w g vs.length (fun i => vs.getD i (.slice none 0 0)) := by
  rcases h.2 with ⟨h1, h2⟩ | ⟨g, cap, cur, h1, h2, h3, h4, h5, h6, h7⟩
  · exact .inl ⟨h1, List.eq_nil_of_length_eq_zero h2⟩
  · refine .inr ⟨g, cap, h1, h2, (Array.getElem?_eq_some_iff.1 h3).1, cur, h3, fun i hi => ?_⟩
    have := congrArg (fun l => l[i]?) h7
    simp only [Nat.mul_one, List.getElem?_take_of_lt hi] at this
    show cur[i]? = some (vs.getD i (.slice none 0 0))
    rw [List.getD_eq_getElem?_getD, List.getElem?_eq_getElem hi]
    simpa [List.getElem?_eq_getElem hi] using this
theorem TL.lt {w : World} {B : Nat} {lv : Value} {vs : List Value} (h : TL w B lv vs) : ∀ k, lv.ownBlock = some k → B ≤ k ∧ k < w.heap.size := World.ownsRow.lt h
theorem TL.slice {w : World} {B : Nat} {lv : Value} {vs : List Value} (h : TL w B lv vs) : ∃ a cap, lv = .slice a vs.length cap := by
  rcases h.row with ⟨h1, h2⟩ | ⟨g, cap, h1, _⟩
  · subst h2; exact ⟨none, 0, h1⟩
  · exact ⟨_, _, h1⟩
theorem TL.alloc {w : World} {B : Nat} {lv : Value} {vs : List Value} (h : TL w B lv vs) (o : Obj) : TL (w.alloc o) B lv vs := World.ownsRow.alloc h o
theorem TL.drew {w : World} {B : Nat} {lv : Value} {vs : List Value} (h : TL w B lv vs) : TL w.drew B lv vs := h
theorem TL.below {w w' : World} {B : Nat} {lv : Value} {vs : List Value} (h : TL w B lv vs) (hb : Below w.heap.size w w') : TL w' B lv vs := by
  refine ⟨h.1, ?_⟩
  rcases h.2 with ⟨h1, h2⟩ | ⟨g, cap, cur, h1, h2, h3, h4⟩
  · exact .inl ⟨h1, h2⟩
  · exact .inr ⟨g, cap, cur, h1, h2, by rw [hb.block g (Array.getElem?_eq_some_iff.1 h3).1]; exact h3, h4⟩
theorem TL.set_below {w : World} {B : Nat} {lv : Value} {vs : List Value} (h : TL w B lv vs) {p : Addr} (hp : p.block < B) (u : Value) : TL (w.setCell p u) B lv vs := ownsRow_setCell_below h hp u
theorem TL.ne {w : World} {B B' : Nat} {lv u : Value} {vs : List Value} {xs : List Int} (h : TL w B lv vs) (ho : OwnV w B' u xs) : u.ownBlock = none ∨ u.ownBlock ≠ lv.ownBlock := by
  rcases h.2 with ⟨h1, _⟩ | ⟨g, cap, cur, h1, h2, h3, _⟩
  · subst h1
    cases e : u.ownBlock with
    | none => exact .inl rfl
    | some k => exact .inr (by simp [Value.ownBlock])
  · right
    subst h1
    intro e
    rcases ho.row with ⟨rfl, _⟩ | ⟨k, cap2, rfl, _, cur2, h4, _⟩
    · simp [Value.ownBlock] at e
    · simp only [Value.ownBlock, Option.some.injEq] at e
      subst e
      rw [h3] at h4
      simp at h4
/-- 'append(l, y, z)' at a plain region. -/
theorem wpList_appendT2 (w : World) {ops : Array Oper} {rest : List Oper} {o : Oper} {a : Act} {Q : Exit → Act → World → Prop} (hgd : o.guard = none) (s x : Operand)
    (ho : o.op = .call { callee := .builtin .append, args := #[s, x], argTypes := #[109, 109] }) (B : Nat) (v : Value) (vs : List Value) (n : Nat) (hn : Hid (vs.length = n)) (hs : a.eval s = v) (hown : TL w B v vs) (h : Nat) (c : Nat) (y z : Value) (hx : a.eval x = .slice (some ⟨h, 0, none⟩) 2 c)
    (hc : w.cell? ⟨h, 0, none⟩ = some y) (hc1 : w.cell? ⟨h, 1, none⟩ = some z) (hy : y.oneCell' = true) (hz : z.oneCell' = true) (hlen : n ≤ 1000000000) (hB : B ≤ w.heap.size) (H : Nat) (hH : w.heap.size = H)
    (hK : ∀ g cap w', TL w' B (.slice (some ⟨g, 0, none⟩) (n + 2) cap) (vs ++ [y, z]) → w.grownBy w' v.ownBlock → (v.ownBlock = some g ∨ g = H) → g < w'.heap.size → wpList Tryd.prog ops Q rest (a.put o.dst (.slice (some ⟨g, 0, none⟩) (n + 2) cap)) w') :
    wpList Tryd.prog ops Q (o :: rest) a w := by
  obtain rfl := hn.out
  obtain ⟨i0, hi, hz0, hz1, hz2⟩ := info_parts Tryd.infoNat
  refine wpList_append_lies w hgd s x 109 ho B 23 i0 (.slice none 0 0) 1 24 Tryd.underlying109 hi hz0 hz1 hz2 rfl (by decide) v vs.length vs hs hown ⟨h, 0, none⟩ 2 c [y, z] hx rfl ?_ (fun u hu => by simp at hu; rcases hu with rfl | rfl <;> assumption) (by decide) (by unfold maxLen; omega) (by omega) hB H hH ?_
  · intro j u hj
    match j, hj with
    | 0, hj => simp at hj; subst hj; simpa [Addr.add] using hc
    | 1, hj => simp at hj; subst hj; simpa [Addr.add] using hc1
  · intro g cap w' h1 h2 h3 h4
    refine hK g cap w' ?_ h2 h3 h4
    unfold TL
    simpa using h1
/-- .. at a step of a region that draws its order. -/
theorem step_appendT2 (w : World) {ops : Array Oper} {o : Oper} {a : Act} {K : Act → World → Prop} {Q : Exit → Act → World → Prop} {E : Prop} (hgd : o.guard = none) (s x : Operand)
    (ho : o.op = .call { callee := .builtin .append, args := #[s, x], argTypes := #[109, 109] }) (B : Nat) (v : Value) (vs : List Value) (n : Nat) (hn : Hid (vs.length = n)) (hs : a.eval s = v) (hown : TL w B v vs) (h : Nat) (c : Nat) (y z : Value) (hx : a.eval x = .slice (some ⟨h, 0, none⟩) 2 c)
    (hc : w.cell? ⟨h, 0, none⟩ = some y) (hc1 : w.cell? ⟨h, 1, none⟩ = some z) (hy : y.oneCell' = true) (hz : z.oneCell' = true) (hlen : n ≤ 1000000000) (hB : B ≤ w.heap.size) (H : Nat) (hH : w.heap.size = H)
    (hK : ∀ g cap w', TL w' B (.slice (some ⟨g, 0, none⟩) (n + 2) cap) (vs ++ [y, z]) → w.grownBy w' v.ownBlock → (v.ownBlock = some g ∨ g = H) → g < w'.heap.size → K (a.put o.dst (.slice (some ⟨g, 0, none⟩) (n + 2) cap)) w') :
    if Region.wanted o (yielded ops a.tmps) = true then Oper.wp Tryd.prog o a w K Q else E := by
  obtain rfl := hn.out
  obtain ⟨i0, hi, hz0, hz1, hz2⟩ := info_parts Tryd.infoNat
  refine step_append_lies w hgd s x 109 ho B 23 i0 (.slice none 0 0) 1 24 Tryd.underlying109 hi hz0 hz1 hz2 rfl (by decide) v vs.length vs hs hown ⟨h, 0, none⟩ 2 c [y, z] hx rfl ?_ (fun u hu => by simp at hu; rcases hu with rfl | rfl <;> assumption) (by decide) (by unfold maxLen; omega) (by omega) hB H hH ?_
  · intro j u hj
    match j, hj with
    | 0, hj => simp at hj; subst hj; simpa [Addr.add] using hc
    | 1, hj => simp at hj; subst hj; simpa [Addr.add] using hc1
  · intro g cap w' h1 h2 h3 h4
    refine hK g cap w' ?_ h2 h3 h4
    unfold TL
    simpa using h1

/-! ### two numbers that are lent -/
/-- What was lent: the struct at r, its lists at gf and gw; it tells fs. -/
structure LB where
  r : Nat
  gf : Nat
  cf : Nat
  gw : Nat
  cw : Nat
  n : Nat
def LB.is (b : LB) (w : World) (xs : List Int) : Prop := Lnt w b.r b.gf b.cf b.gw b.cw b.n (lendL xs) (lendL xs)
/-- The struct 'two' at block T: both lent numbers lie below it, from block B on. -/
structure Two (w : World) (B T : Nat) (x y : LB) (xs ys : List Int) (lv : Value) : Prop where
  c0 : w.cell? ⟨T, 0, none⟩ = some (.pointer (some ⟨x.r, 0, none⟩))
  c1 : w.cell? ⟨T, 1, none⟩ = some (.pointer (some ⟨y.r, 0, none⟩))
  c2 : w.cell? ⟨T, 2, none⟩ = some lv
  fz : w.frozen? ⟨T, 2, none⟩ = false
  lx : x.is w xs
  ly : y.is w ys
  bx : B ≤ x.r
  xy : x.gf < y.r
  xy' : x.gw < y.r
  yT : y.gf < T
  yT' : y.gw < T
  lt : T < w.heap.size
theorem Two.below {w w' : World} {B T : Nat} {x y : LB} {xs ys : List Int} {lv : Value} (h : Two w B T x y xs ys lv) (hb : Below w.heap.size w w') : Two w' B T x y xs ys lv :=
  ⟨by rw [hb.cell (by exact h.lt)]; exact h.c0, by rw [hb.cell (by exact h.lt)]; exact h.c1, by rw [hb.cell (by exact h.lt)]; exact h.c2, by rw [World.frozen?_of_block (w := w) (hb.block T h.lt)]; exact h.fz, h.lx.below hb, h.ly.below hb, h.bx, h.xy, h.xy', h.yT, h.yT', by have := hb.size; have := h.lt; omega⟩
theorem Two.lo {w : World} {B T : Nat} {x y : LB} {xs ys : List Int} {lv : Value} (h : Two w B T x y xs ys lv) : B < T ∧ B ≤ x.gf ∧ B ≤ y.gf ∧ x.gf < T ∧ x.gf ≠ y.gf := by
  have := h.bx; have := h.xy; have := h.yT; have h1 := h.lx.lf; have h2 := h.ly.lf
  refine ⟨by omega, by omega, by omega, by omega, by omega⟩

end Go.Proofs.YtjlmboakeigmpaaDoor

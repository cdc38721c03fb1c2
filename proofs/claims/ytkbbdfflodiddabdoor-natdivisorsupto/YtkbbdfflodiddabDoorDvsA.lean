import Derived.Test.YtkbbdfflodiddabDoorTwoAdd1
import Derived.Test.YtkbbdfflodiddabDoorRefNAll
import Derived.Test.YtkbbdfflodiddabDoorGcdAll
namespace Go.Proofs.YtkbbdfflodiddabDoor
open Go.RowKit

theorem Tryd.infoPtr : (Tryd.prog.info? 39).map (fun i => (i.zero, i.size, i.bytes)) = some (some (.pointer none), 1, 8) := by kernel_rfl
/-- A list of pointers in memory of one's own. -/
def PL (w : World) (B : Nat) (lv : Value) (vs : List Value) : Prop := w.ownsRow B 39 1 lv vs.length vs
theorem PL.nil (w : World) (B : Nat) : PL w B (.slice none 0 0) [] := World.ownsRow_nil _ _ _ _
theorem PL.lt {w : World} {B : Nat} {lv : Value} {vs : List Value} (h : PL w B lv vs) : ∀ k, lv.ownBlock = some k → B ≤ k ∧ k < w.heap.size := World.ownsRow.lt h
theorem PL.alloc {w : World} {B : Nat} {lv : Value} {vs : List Value} (h : PL w B lv vs) (o : Obj) : PL (w.alloc o) B lv vs := World.ownsRow.alloc h o
theorem PL.below {w w' : World} {B : Nat} {lv : Value} {vs : List Value} (h : PL w B lv vs) (hb : Below w.heap.size w w') : PL w' B lv vs := by
  refine ⟨h.1, ?_⟩
  rcases h.2 with ⟨h1, h2⟩ | ⟨g, cap, cur, h1, h2, h3, h4⟩
  · exact .inl ⟨h1, h2⟩
  · exact .inr ⟨g, cap, cur, h1, h2, by rw [hb.block g (Array.getElem?_eq_some_iff.1 h3).1]; exact h3, h4⟩
/-- 'append(v, y)' of a list of pointers. -/
theorem wpList_appendP1 (w : World) {ops : Array Oper} {rest : List Oper} {o : Oper} {a : Act} {Q : Exit → Act → World → Prop} (hgd : o.guard = none) (s x : Operand)
    (ho : o.op = .call { callee := .builtin .append, args := #[s, x], argTypes := #[38, 38] }) (B : Nat) (v : Value) (vs : List Value) (n : Nat) (hn : Hid (vs.length = n)) (hs : a.eval s = v) (hown : PL w B v vs) (h : Nat) (c : Nat) (y : Value) (hx : a.eval x = .slice (some ⟨h, 0, none⟩) 1 c)
    (hc : w.cell? ⟨h, 0, none⟩ = some y) (hy : y.oneCell' = true) (hlen : n ≤ 1000000000) (hB : B ≤ w.heap.size) (H : Nat) (hH : w.heap.size = H)
    (hK : ∀ g cap w', PL w' B (.slice (some ⟨g, 0, none⟩) (n + 1) cap) (vs ++ [y]) → w.grownBy w' v.ownBlock → (v.ownBlock = some g ∨ g = H) → g < w'.heap.size → wpList Tryd.prog ops Q rest (a.put o.dst (.slice (some ⟨g, 0, none⟩) (n + 1) cap)) w') :
    wpList Tryd.prog ops Q (o :: rest) a w := by
  obtain rfl := hn.out
  obtain ⟨i0, hi, hz0, hz1, hz2⟩ := info_parts Tryd.infoPtr
  refine wpList_append_lies w hgd s x 38 ho B 39 i0 (.pointer none) 1 8 Tryd.underlying38 hi hz0 hz1 hz2 rfl (by decide) v vs.length vs hs hown ⟨h, 0, none⟩ 1 c [y] hx rfl ?_ (fun u hu => by simp at hu; subst hu; exact hy) (by decide) (by unfold maxLen; omega) (by omega) hB H hH ?_
  · intro j u hj
    match j, hj with
    | 0, hj => simp at hj; subst hj; simpa [Addr.add] using hc
  · intro g cap w' h1 h2 h3 h4
    refine hK g cap w' ?_ h2 h3 h4
    unfold PL
    simpa using h1
/-- A loan, where its three blocks are as they were. -/
theorem Lnt.kept {w w' : World} {r gf cf gw cw n : Nat} {fs ws : List Int} (h : Lnt w r gf cf gw cw n fs ws) (hr : w'.heap[r]? = w.heap[r]?) (hf : w'.heap[gf]? = w.heap[gf]?) (hw : w'.heap[gw]? = w.heap[gw]?) (hs : w.heap.size ≤ w'.heap.size) : Lnt w' r gf cf gw cw n fs ws :=
  { h with
    c0 := by rw [World.cell?_of_block (w := w) hr]; exact h.c0
    c1 := by rw [World.cell?_of_block (w := w) hr]; exact h.c1
    c2 := by rw [World.cell?_of_block (w := w) hr]; exact h.c2
    rf := h.rf.of_block hf
    rw := h.rw.of_block hw
    lr := Nat.lt_of_lt_of_le h.lr hs }
theorem grown_block {w w' : World} {row : Option Nat} (hg : w.grownBy w' row) {b : Nat} (hb : b < w.heap.size) (hne : row ≠ some b) : w'.heap[b]? = w.heap[b]? := hg.block b hb (fun e => hne e.symm)
/-- Blocks of different elements are different blocks. -/
theorem row_ne {w : World} {B B' : Nat} {e e' : TypeId} {v u : Value} {n m : Nat} {xs ys : List Value} (h : w.ownsRow B e 1 v n xs) (k : w.ownsRow B' e' 1 u m ys) (hne : e ≠ e') : ∀ g, v.ownBlock = some g → u.ownBlock ≠ some g := by
  intro g h1 h2
  rcases h.2 with ⟨e1, _⟩ | ⟨g1, c1, cur1, e1, _, f1, _⟩
  · subst e1; simp [Value.ownBlock] at h1
  · rcases k.2 with ⟨e2, _⟩ | ⟨g2, c2, cur2, e2, _, f2, _⟩
    · subst e2; simp [Value.ownBlock] at h2
    · subst e1 e2
      simp [Value.ownBlock] at h1 h2
      subst h1 h2
      rw [f1] at f2
      simp at f2
      exact hne f2.2
end Go.Proofs.YtkbbdfflodiddabDoor

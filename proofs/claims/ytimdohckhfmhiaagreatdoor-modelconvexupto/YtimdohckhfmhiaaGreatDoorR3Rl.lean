import Derived.Test.YtimdohckhfmhiaaGreatDoorR3Su
import Derived.Test.YtimdohckhfmhiaaGreatDoorBelX
import Derived.Deep.AppendLies
namespace Go.Proofs.YtimdohckhfmhiaaGreatDoor
open Go.RowKit

/-- v owns a list of n fractions in the one form, the i-th of which is X i, all in memory from block B on. -/
def RL (w : World) (B : Nat) (v : Value) (n : Nat) (X : Nat → Rat) (S : Nat) : Prop :=
  ∃ vs : List Value, w.ownsRow B 27 3 v n vs ∧ ∀ i, i < n → ∃ p a na ca d nd cd, vs[i * 3]? = some (.bool p) ∧ vs[i * 3 + 1]? = some (.slice a na ca) ∧ vs[i * 3 + 2]? = some (.slice d nd cd) ∧ GR w B p a na ca d nd cd (X i) S
theorem RL.nil (w : World) (B : Nat) (X : Nat → Rat) (S : Nat) : RL w B (.slice none 0 0) 0 X S := ⟨[], World.ownsRow_nil _ _ _ _, fun i hi => by omega⟩
theorem RL.below {w w' : World} {B : Nat} {v : Value} {n : Nat} {X : Nat → Rat} {S : Nat} (h : RL w B v n X S) (hb : Below w.heap.size w w') : RL w' B v n X S := by
  obtain ⟨vs, h1, h2⟩ := h
  refine ⟨vs, ⟨h1.1, ?_⟩, fun i hi => ?_⟩
  · rcases h1.2 with hn | ⟨g, cap, cur, e1, e2, hgb, rest⟩
    · exact .inl hn
    · exact .inr ⟨g, cap, cur, e1, e2, (hb.block g (Array.getElem?_eq_some_iff.1 hgb).1).trans hgb, rest⟩
  · obtain ⟨p, a, na, ca, d, nd, cd, g1, g2, g3, g4⟩ := h2 i hi
    exact ⟨p, a, na, ca, d, nd, cd, g1, g2, g3, g4.below hb⟩
theorem RL.form {w : World} {B : Nat} {v : Value} {n : Nat} {X : Nat → Rat} {S : Nat} (h : RL w B v n X S) : ∃ a cap, v = .slice a n cap := by
  obtain ⟨vs, h1, h2⟩ := h
  rcases h1.2 with ⟨rfl, rfl⟩ | ⟨g, cap, cur, e1, _⟩
  · exact ⟨_, _, rfl⟩
  · exact ⟨_, _, e1⟩
theorem RL.lt {w : World} {B : Nat} {v : Value} {n : Nat} {X : Nat → Rat} {S : Nat} (h : RL w B v n X S) : ∀ k, v.ownBlock = some k → B ≤ k ∧ k < w.heap.size := by
  obtain ⟨vs, h1, h2⟩ := h
  exact World.ownsRow.lt h1
theorem RL.le {w : World} {B : Nat} {v : Value} {n : Nat} {X : Nat → Rat} {S R : Nat} (h : RL w B v n X S) (hR : S ≤ R) : RL w B v n X R := by
  obtain ⟨vs, h1, h2⟩ := h
  refine ⟨vs, h1, fun i hi => ?_⟩
  obtain ⟨p, a, na, ca, d, nd, cd, g1, g2, g3, g4⟩ := h2 i hi
  exact ⟨p, a, na, ca, d, nd, cd, g1, g2, g3, g4.le hR⟩
/-- Such a list, to be read. -/
theorem RL.lq {w : World} {B : Nat} {a : Option Addr} {m n cap : Nat} {X : Nat → Rat} {S : Nat} (h : RL w B (.slice a m cap) n X S) : LQ w a n X (fun _ => S) := by
  obtain ⟨vs, h1, h2⟩ := h
  rcases h1.2 with ⟨e1, e2⟩ | ⟨g, cap, cur, e1, _, hg, _, _, _, ht⟩
  · exact .inl e2
  · simp only [Value.slice.injEq] at e1
    obtain ⟨rfl, _, _⟩ := e1
    refine .inr ⟨g, 0, rfl, fun i hi => ?_⟩
    obtain ⟨p, a, na, ca, d, nd, cd, g1, g2, g3, g4⟩ := h2 i hi
    refine ⟨p, a, na, ca, d, nd, cd, ?_, ?_, ?_, g4.tr⟩
    · rw [Nat.zero_add]; exact row_cell hg ht g1
    · rw [Nat.zero_add]; exact row_cell hg ht g2
    · rw [Nat.zero_add]; exact row_cell hg ht g3
theorem row_ne3 {w : World} {B B' : Nat} {v u : Value} {n m : Nat} {xs ys : List Value} (h : w.ownsRow B 65 1 v n xs) (k : w.ownsRow B' 27 3 u m ys) : ∀ g, v.ownBlock = some g → u.ownBlock ≠ some g := by
  intro g h1 h2
  rcases h.2 with ⟨e1, _⟩ | ⟨g1, c1, cur1, e1, _, f1, _⟩
  · subst e1; simp [Value.ownBlock] at h1
  · rcases k.2 with ⟨e2, _⟩ | ⟨g2, c2, cur2, e2, _, f2, _⟩
    · subst e2; simp [Value.ownBlock] at h2
    · subst e1 e2
      simp [Value.ownBlock] at h1 h2
      subst h1 h2
      rw [f1] at f2
      simp at f2
theorem row_or {v u : Value} (h : ∀ g, v.ownBlock = some g → u.ownBlock ≠ some g) : v.ownBlock = none ∨ v.ownBlock ≠ u.ownBlock := by
  cases e : v.ownBlock with
  | none => exact .inl rfl
  | some g => exact .inr fun e2 => h g e e2.symm
theorem Got.grow3 {w w' : World} {B : Nat} {v : Value} {x : Int} {S : Nat} (h : Got w B v x S) {B' : Nat} {lv : Value} {n : Nat} {ys : List Value} (k : w.ownsRow B' 27 3 lv n ys) (hg : w.grownBy w' lv.ownBlock) : Got w' B v x S := by
  obtain ⟨xs, h1, h2⟩ := h
  exact ⟨xs, World.ownsRow.kept h1 hg (row_or (row_ne3 h1 k)), h2⟩
theorem GR.grow3 {w w' : World} {B : Nat} {f : Bool} {c : Option Addr} {n k : Nat} {c' : Option Addr} {n' k' : Nat} {r : Rat} {S : Nat} (h : GR w B f c n k c' n' k' r S) {B' : Nat} {lv : Value} {m : Nat} {ys : List Value} (q : w.ownsRow B' 27 3 lv m ys) (hg : w.grownBy w' lv.ownBlock) : GR w' B f c n k c' n' k' r S := by
  refine ⟨?_, h.2.grow3 q hg⟩
  obtain ⟨a, n2, c2, h1, h2⟩ := h.1
  exact ⟨a, n2, c2, h1, h2.grow3 q hg⟩
/-- A list stays, where another one has grown. -/
theorem RL.grow {w w' : World} {B : Nat} {v : Value} {n : Nat} {X : Nat → Rat} {S : Nat} (h : RL w B v n X S) {B' : Nat} {lv : Value} {m : Nat} {Y : Nat → Rat} {R : Nat} (k : RL w B' lv m Y R) (hne : ∀ g, v.ownBlock = some g → lv.ownBlock ≠ some g) (hg : w.grownBy w' lv.ownBlock) : RL w' B v n X S := by
  obtain ⟨vs, h1, h2⟩ := h
  obtain ⟨us, k1, k2⟩ := k
  refine ⟨vs, World.ownsRow.kept h1 hg (row_or hne), fun i hi => ?_⟩
  obtain ⟨p, a, na, ca, d, nd, cd, g1, g2, g3, g4⟩ := h2 i hi
  exact ⟨p, a, na, ca, d, nd, cd, g1, g2, g3, g4.grow3 k1 hg⟩
theorem GR.growL {w w' : World} {B : Nat} {f : Bool} {c : Option Addr} {n k : Nat} {c' : Option Addr} {n' k' : Nat} {r : Rat} {S : Nat} (h : GR w B f c n k c' n' k' r S) {B' : Nat} {lv : Value} {m : Nat} {Y : Nat → Rat} {R : Nat} (q : RL w B' lv m Y R) (hg : w.grownBy w' lv.ownBlock) : GR w' B f c n k c' n' k' r S := by
  obtain ⟨us, k1, k2⟩ := q
  exact h.grow3 k1 hg
theorem Var3.grown {w w' : World} {R : Nat} {u v z : Value} (h : Var3 w R u v z) {row : Option Nat} (hg : w.grownBy w' row) (hne : row ≠ some R) : Var3 w' R u v z := h.of_block (hg.block R h.lt (fun e => hne e.symm))
theorem cell_new3 {w : World} {h : Nat} {u v z : Value} {t : TypeId} (hh : h = w.heap.size) : (w.alloc (.cells #[u, v, z] t)).cell? ⟨h, 0, none⟩ = some u ∧ (w.alloc (.cells #[u, v, z] t)).cell? ⟨h, 1, none⟩ = some v ∧ (w.alloc (.cells #[u, v, z] t)).cell? ⟨h, 2, none⟩ = some z := by
  subst hh
  have V := var3_new w u v z t
  exact ⟨V.c0, V.c1, V.c2⟩
theorem Tryz.infoRat : (Tryz.prog.info? 27).map (fun i => (i.zero.map (fun z => z.cells.size), i.size, i.bytes)) = some (some 3, 3, 56) := by kernel_rfl
theorem info3 : ∃ i z, Tryz.prog.info? 27 = some i ∧ i.zero = some z ∧ i.size = 3 ∧ i.bytes = 56 ∧ z.cells.size = 3 := by
  obtain ⟨i, hi, h⟩ := Option.map_eq_some_iff.1 Tryz.infoRat
  simp only [Prod.mk.injEq] at h
  obtain ⟨h1, h2, h3⟩ := h
  obtain ⟨z, hz, h4⟩ := Option.map_eq_some_iff.1 h1
  exact ⟨i, z, hi, hz, h2, h3, h4⟩
theorem vs_snoc {vs : List Value} {n : Nat} {x y z : Value} (h : vs.length = n * 3) : (vs ++ [x, y, z])[n * 3]? = some x ∧ (vs ++ [x, y, z])[n * 3 + 1]? = some y ∧ (vs ++ [x, y, z])[n * 3 + 2]? = some z := by
  refine ⟨?_, ?_, ?_⟩
  · rw [List.getElem?_append_right (by omega), h, Nat.sub_self]; rfl
  · rw [List.getElem?_append_right (by omega), h, Nat.add_sub_cancel_left]; rfl
  · rw [List.getElem?_append_right (by omega), h, Nat.add_sub_cancel_left]; rfl
/-- 'append(v, x)' at a plain region: x lies in a block of its own already. -/
theorem wpList_appendR (w : World) {ops : Array Oper} {rest : List Oper} {o : Oper} {a : Act} {Q : Exit → Act → World → Prop} (hgd : o.guard = none) (s x : Operand)
    (ho : o.op = .call { callee := .builtin .append, args := #[s, x], argTypes := #[43, 43] }) (B : Nat) (v : Value) (n : Nat) (X : Nat → Rat) (S : Nat) (hs : a.eval s = v) (hown : RL w B v n X S) (h c : Nat) (hx : a.eval x = .slice (some ⟨h, 0, none⟩) 1 c)
    (f : Bool) (c1 : Option Addr) (n1 k1 : Nat) (c2 : Option Addr) (n2 k2 : Nat) (hc : w.cell? ⟨h, 0, none⟩ = some (.bool f) ∧ w.cell? ⟨h, 1, none⟩ = some (.slice c1 n1 k1) ∧ w.cell? ⟨h, 2, none⟩ = some (.slice c2 n2 k2)) (hG : GR w B f c1 n1 k1 c2 n2 k2 (X n) S)
    (hlen : n ≤ 1000000000000) (hB : B ≤ w.heap.size) (H : Nat) (hH : w.heap.size = H)
    (hK : ∀ g cap w', RL w' B (.slice (some ⟨g, 0, none⟩) (n + 1) cap) (n + 1) X S → w.grownBy w' v.ownBlock → (v.ownBlock = some g ∨ g = H) → g < w'.heap.size → wpList Tryz.prog ops Q rest (a.put o.dst (.slice (some ⟨g, 0, none⟩) (n + 1) cap)) w') :
    wpList Tryz.prog ops Q (o :: rest) a w := by
  obtain ⟨vs, h1, h2⟩ := hown
  obtain ⟨i0, z, hi, hz, hs3, hb56, hz3⟩ := info3
  refine wpList_append_lies w hgd s x 43 ho B 27 i0 z 3 56 Tryz.underlying43 hi hz hs3 hb56 hz3 (by decide) v n vs hs h1 ⟨h, 0, none⟩ 1 c [.bool f, .slice c1 n1 k1, .slice c2 n2 k2] hx rfl ?_ (fun u hu => by simp at hu; rcases hu with rfl | rfl | rfl <;> rfl) (by decide) (by unfold maxLen; omega) (by omega) hB H hH ?_
  · intro j u hj
    match j, hj with
    | 0, hj => simp at hj; subst hj; simpa [Addr.add] using hc.1
    | 1, hj => simp at hj; subst hj; simpa [Addr.add] using hc.2.1
    | 2, hj => simp at hj; subst hj; simpa [Addr.add] using hc.2.2
  · intro g cap w' r1 r2 r3 r4
    refine hK g cap w' ⟨_, r1, fun i hi => ?_⟩ r2 r3 r4
    rcases (by omega : i < n ∨ i = n) with hi | rfl
    · obtain ⟨p, a, na, ca, d, nd, cd, g1, g2, g3, g4⟩ := h2 i hi
      have e : vs.length = n * 3 := h1.1
      refine ⟨p, a, na, ca, d, nd, cd, ?_, ?_, ?_, g4.grow3 h1 r2⟩
      · rw [List.getElem?_append_left (by omega)]; exact g1
      · rw [List.getElem?_append_left (by omega)]; exact g2
      · rw [List.getElem?_append_left (by omega)]; exact g3
    · obtain ⟨e1, e2, e3⟩ := vs_snoc (x := .bool f) (y := .slice c1 n1 k1) (z := .slice c2 n2 k2) h1.1
      exact ⟨f, c1, n1, k1, c2, n2, k2, e1, e2, e3, hG.grow3 h1 r2⟩
end Go.Proofs.YtimdohckhfmhiaaGreatDoor

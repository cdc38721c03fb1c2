import Derived.Test.YtkbbdfflodiddabDoorR2C
import Derived.Deep.AppendLies
namespace Go.Proofs.YtkbbdfflodiddabDoor
open Go.RowKit

/-- f, but z at k. -/
def updF {α : Type} (f : Nat → α) (k : Nat) (z : α) (i : Nat) : α := if i = k then z else f i
theorem updF_same {α : Type} (f : Nat → α) (k : Nat) (z : α) : updF f k z k = z := by simp [updF]
theorem updF_lt {α : Type} {f : Nat → α} {k : Nat} {z : α} {i : Nat} (h : i < k) : updF f k z i = f i := by unfold updF; rw [if_neg (by omega)]
theorem Len2.kept {w w' : World} {r : Nat} {p : Bool} {b : LB} {xs : List Int} (h : Len2 w r p b xs) (h1 : w'.heap[r]? = w.heap[r]?) (h2 : w'.heap[b.r]? = w.heap[b.r]?) (h3 : w'.heap[b.gf]? = w.heap[b.gf]?) (h4 : w'.heap[b.gw]? = w.heap[b.gw]?) (hs : w.heap.size ≤ w'.heap.size) : Len2 w' r p b xs := by
  have hR : ∀ i, w'.cell? ⟨r, i, none⟩ = w.cell? ⟨r, i, none⟩ := fun i => World.cell?_of_block (a := ⟨r, i, none⟩) h1
  have hY : ∀ i, w'.cell? ⟨b.r, i, none⟩ = w.cell? ⟨b.r, i, none⟩ := fun i => World.cell?_of_block (a := ⟨b.r, i, none⟩) h2
  refine ⟨by rw [hR]; exact h.c0, by rw [hR]; exact h.c1, ?_, h.hn, h.lf, h.lw, Nat.lt_of_lt_of_le h.lt hs⟩
  exact ⟨by rw [hY]; exact h.ls.c0, by rw [hY]; exact h.ls.c1, by rw [hY]; exact h.ls.c2, h.ls.rf.of_block h3, h.ls.rw.of_block h4, h.ls.ne, h.ls.lf, h.ls.lw, h.ls.le, Nat.lt_of_lt_of_le h.ls.lr hs, h.ls.eq⟩
theorem row_neT {w : World} {B : Nat} {e : TypeId} {z : Nat} {v : Value} {n : Nat} {ys : List Value} (k : w.ownsRow B e z v n ys) {g cap : Nat} {xs : List Int} (h : Row w g cap xs) (hne : e ≠ 43) : v.ownBlock ≠ some g := by
  intro h2
  obtain ⟨cur, f1, _⟩ := h
  rcases k.2 with ⟨e2, _⟩ | ⟨g2, c2, cur2, e2, _, f2, _⟩
  · subst e2; simp [Value.ownBlock] at h2
  · subst e2
    simp [Value.ownBlock] at h2
    subst h2
    rw [f1] at f2
    simp at f2
    exact hne f2.2.symm
theorem row_neR {w : World} {B B' : Nat} {e e' : TypeId} {z z' : Nat} {v u : Value} {n m : Nat} {xs ys : List Value} (h : w.ownsRow B e z v n xs) (k : w.ownsRow B' e' z' u m ys) (hne : e ≠ e') : v.ownBlock = none ∨ v.ownBlock ≠ u.ownBlock := by
  rcases h.2 with ⟨e1, _⟩ | ⟨g1, c1, cur1, e1, _, f1, _⟩
  · subst e1; exact .inl rfl
  · refine .inr fun h2 => ?_
    rcases k.2 with ⟨e2, _⟩ | ⟨g2, c2, cur2, e2, _, f2, _⟩
    · subst e1 e2; simp [Value.ownBlock] at h2
    · subst e1 e2
      simp [Value.ownBlock] at h2
      subst h2
      rw [f1] at f2
      simp at f2
      exact hne f2.2
theorem ownsRow_below {w w' : World} {B : Nat} {e : TypeId} {z : Nat} {v : Value} {n : Nat} {vs : List Value} (h : w.ownsRow B e z v n vs) (hb : Below w.heap.size w w') : w'.ownsRow B e z v n vs := by
  refine ⟨h.1, ?_⟩
  rcases h.2 with hn | ⟨g, cap, cur, e1, e2, hgb, rest⟩
  · exact .inl hn
  · exact .inr ⟨g, cap, cur, e1, e2, (hb.block g (Array.getElem?_eq_some_iff.1 hgb).1).trans hgb, rest⟩
/-- A list of whole numbers, told by P and V, in memory of one's own. -/
def IL (w : World) (B : Nat) (v : Value) (n : Nat) (P : Nat → Bool) (V : Nat → Value) : Prop := ∃ vs : List Value, w.ownsRow B 30 2 v n vs ∧ ∀ i, i < n → vs[i * 2]? = some (.bool (P i)) ∧ vs[i * 2 + 1]? = some (V i)
theorem IL.nil (w : World) (B : Nat) (P : Nat → Bool) (V : Nat → Value) : IL w B (.slice none 0 0) 0 P V := ⟨[], World.ownsRow_nil _ _ _ _, fun i hi => by omega⟩
theorem IL.below {w w' : World} {B : Nat} {v : Value} {n : Nat} {P : Nat → Bool} {V : Nat → Value} (h : IL w B v n P V) (hb : Below w.heap.size w w') : IL w' B v n P V := by
  obtain ⟨vs, h1, h2⟩ := h; exact ⟨vs, ownsRow_below h1 hb, h2⟩
theorem IL.lt {w : World} {B : Nat} {v : Value} {n : Nat} {P : Nat → Bool} {V : Nat → Value} (h : IL w B v n P V) : ∀ k, v.ownBlock = some k → B ≤ k ∧ k < w.heap.size := by
  obtain ⟨vs, h1, h2⟩ := h; exact World.ownsRow.lt h1
theorem IL.form {w : World} {B : Nat} {v : Value} {n : Nat} {P : Nat → Bool} {V : Nat → Value} (h : IL w B v n P V) : ∃ a cap, v = .slice a n cap := by
  obtain ⟨vs, h1, h2⟩ := h
  rcases h1.2 with ⟨rfl, rfl⟩ | ⟨g, cap, cur, e1, _⟩
  · exact ⟨_, _, rfl⟩
  · exact ⟨_, _, e1⟩
theorem IL.cells {w : World} {B : Nat} {g m cap n : Nat} {P : Nat → Bool} {V : Nat → Value} (h : IL w B (.slice (some ⟨g, 0, none⟩) m cap) n P V) : ∀ i, i < n → w.cell? ⟨g, i * 2, none⟩ = some (.bool (P i)) ∧ w.cell? ⟨g, i * 2 + 1, none⟩ = some (V i) := by
  obtain ⟨vs, h1, h2⟩ := h
  intro i hi
  rcases h1.2 with ⟨e1, _⟩ | ⟨g', cap', cur, e1, _, hg, _, _, _, ht⟩
  · cases e1
  · have eg : g = g' := by simp only [Value.slice.injEq, Option.some.injEq, Addr.mk.injEq] at e1; exact e1.1.1
    subst eg
    have key : ∀ j u, vs[j]? = some u → w.cell? ⟨g, j, none⟩ = some u := fun j u hj => by
      have hlt : j < n * 2 := by
        have h := (List.getElem?_eq_some_iff.1 hj).1
        rw [← ht, List.length_take] at h
        omega
      have e1 : cur[j]? = some u := by
        rw [← ht, List.getElem?_take_of_lt hlt] at hj
        rw [← Array.getElem?_toList]; exact hj
      simp [World.cell?, hg, e1]
    exact ⟨key _ _ (h2 i hi).1, key _ _ (h2 i hi).2⟩
theorem Tryd.infoIntL : (Tryd.prog.info? 30).map (fun i => (i.zero.map (fun z => z.cells.size), i.size, i.bytes)) = some (some 2, 2, 32) := by kernel_rfl
theorem info2L : ∃ i z, Tryd.prog.info? 30 = some i ∧ i.zero = some z ∧ i.size = 2 ∧ i.bytes = 32 ∧ z.cells.size = 2 := by
  obtain ⟨i, hi, h⟩ := Option.map_eq_some_iff.1 Tryd.infoIntL
  simp only [Prod.mk.injEq] at h
  obtain ⟨h1, h2, h3⟩ := h
  obtain ⟨z, hz, h4⟩ := Option.map_eq_some_iff.1 h1
  exact ⟨i, z, hi, hz, h2, h3, h4⟩
/-- 'append(v, x)' of a list of whole numbers. -/
theorem wpList_appendI (w : World) {ops : Array Oper} {rest : List Oper} {o : Oper} {a : Act} {Q : Exit → Act → World → Prop} (hgd : o.guard = none) (s x : Operand)
    (ho : o.op = .call { callee := .builtin .append, args := #[s, x], argTypes := #[22, 22] }) (B : Nat) (v : Value) (n : Nat) (P : Nat → Bool) (V : Nat → Value) (hs : a.eval s = v) (hown : IL w B v n P V) (h c : Nat) (hx : a.eval x = .slice (some ⟨h, 0, none⟩) 1 c)
    (hc : w.cell? ⟨h, 0, none⟩ = some (.bool (P n)) ∧ w.cell? ⟨h, 1, none⟩ = some (V n)) (hV : (V n).oneCell' = true) (hlen : n ≤ 1000000000000) (hB : B ≤ w.heap.size) (H : Nat) (hH : w.heap.size = H)
    (hK : ∀ g cap w', IL w' B (.slice (some ⟨g, 0, none⟩) (n + 1) cap) (n + 1) P V → w.grownBy w' v.ownBlock → (v.ownBlock = some g ∨ g = H) → g < w'.heap.size → wpList Tryd.prog ops Q rest (a.put o.dst (.slice (some ⟨g, 0, none⟩) (n + 1) cap)) w') :
    wpList Tryd.prog ops Q (o :: rest) a w := by
  obtain ⟨vs, h1, h2⟩ := hown
  obtain ⟨i0, z, hi, hz, hs3, hb56, hz3⟩ := info2L
  refine wpList_append_lies w hgd s x 22 ho B 30 i0 z 2 32 Tryd.underlying22 hi hz hs3 hb56 hz3 (by decide) v n vs hs h1 ⟨h, 0, none⟩ 1 c [.bool (P n), V n] hx rfl ?_ (fun u hu => by simp at hu; rcases hu with rfl | rfl <;> first | rfl | exact hV) (by decide) (by unfold maxLen; omega) (by omega) hB H hH ?_
  · intro j u hj
    match j, hj with
    | 0, hj => simp at hj; subst hj; simpa [Addr.add] using hc.1
    | 1, hj => simp at hj; subst hj; simpa [Addr.add] using hc.2
  · intro g cap w' r1 r2 r3 r4
    refine hK g cap w' ⟨_, r1, fun i hi => ?_⟩ r2 r3 r4
    have e : vs.length = n * 2 := h1.1
    rcases (by omega : i < n ∨ i = n) with hi | rfl
    · exact ⟨by rw [List.getElem?_append_left (by omega)]; exact (h2 i hi).1, by rw [List.getElem?_append_left (by omega)]; exact (h2 i hi).2⟩
    · exact ⟨by rw [List.getElem?_append_right (by omega), e, Nat.sub_self]; rfl, by rw [List.getElem?_append_right (by omega), e, Nat.add_sub_cancel_left]; rfl⟩
theorem Tryd.infoPt2 : (Tryd.prog.info? 25).map (fun i => (i.zero, i.size, i.bytes)) = some (some (.pointer none), 1, 8) := by kernel_rfl
/-- A list of pointers to lent whole numbers. -/
def QL (w : World) (B : Nat) (v : Value) (n : Nat) (R : Nat → Nat) : Prop := ∃ vs : List Value, w.ownsRow B 25 1 v n vs ∧ ∀ i, i < n → vs[i]? = some (.pointer (some ⟨R i, 0, none⟩))
theorem QL.nil (w : World) (B : Nat) (R : Nat → Nat) : QL w B (.slice none 0 0) 0 R := ⟨[], World.ownsRow_nil _ _ _ _, fun i hi => by omega⟩
theorem QL.below {w w' : World} {B : Nat} {v : Value} {n : Nat} {R : Nat → Nat} (h : QL w B v n R) (hb : Below w.heap.size w w') : QL w' B v n R := by
  obtain ⟨vs, h1, h2⟩ := h; exact ⟨vs, ownsRow_below h1 hb, h2⟩
theorem QL.lt {w : World} {B : Nat} {v : Value} {n : Nat} {R : Nat → Nat} (h : QL w B v n R) : ∀ k, v.ownBlock = some k → B ≤ k ∧ k < w.heap.size := by
  obtain ⟨vs, h1, h2⟩ := h; exact World.ownsRow.lt h1
theorem QL.form {w : World} {B : Nat} {v : Value} {n : Nat} {R : Nat → Nat} (h : QL w B v n R) : ∃ a cap, v = .slice a n cap := by
  obtain ⟨vs, h1, h2⟩ := h
  rcases h1.2 with ⟨rfl, rfl⟩ | ⟨g, cap, cur, e1, _⟩
  · exact ⟨_, _, rfl⟩
  · exact ⟨_, _, e1⟩
theorem QL.congr {w : World} {B : Nat} {v : Value} {n : Nat} {R R' : Nat → Nat} (h : QL w B v n R) (he : ∀ i, i < n → R' i = R i) : QL w B v n R' := by
  obtain ⟨vs, h1, h2⟩ := h
  exact ⟨vs, h1, fun i hi => by rw [he i hi]; exact h2 i hi⟩
theorem IL.congr {w : World} {B : Nat} {v : Value} {n : Nat} {P : Nat → Bool} {V V' : Nat → Value} (h : IL w B v n P V) (he : ∀ i, i < n → V' i = V i) : IL w B v n P V' := by
  obtain ⟨vs, h1, h2⟩ := h
  exact ⟨vs, h1, fun i hi => by rw [he i hi]; exact h2 i hi⟩
theorem QL.cells {w : World} {B : Nat} {v : Value} {n : Nat} {R : Nat → Nat} (h : QL w B v n R) (hn : 0 < n) : ∃ g cap, v = .slice (some ⟨g, 0, none⟩) n cap ∧ n ≤ cap ∧ ∀ i, i < n → w.cell? ⟨g, i, none⟩ = some (.pointer (some ⟨R i, 0, none⟩)) := by
  obtain ⟨vs, h1, h2⟩ := h
  rcases h1.2 with ⟨_, h0⟩ | ⟨g, cap, cur, e1, _, hg, hcap, _, _, ht⟩
  · omega
  · refine ⟨g, cap, e1, hcap, fun i hi => ?_⟩
    have hj := h2 i hi
    have e1 : cur[i]? = some (.pointer (some ⟨R i, 0, none⟩)) := by
      rw [← ht, List.getElem?_take_of_lt (by omega)] at hj
      rw [← Array.getElem?_toList]; exact hj
    simp [World.cell?, hg, e1]
/-- 'append(v, x)' of a list of pointers. -/
theorem wpList_appendQ (w : World) {ops : Array Oper} {rest : List Oper} {o : Oper} {a : Act} {Q : Exit → Act → World → Prop} (hgd : o.guard = none) (s x : Operand)
    (ho : o.op = .call { callee := .builtin .append, args := #[s, x], argTypes := #[24, 24] }) (B : Nat) (v : Value) (n : Nat) (R : Nat → Nat) (hs : a.eval s = v) (hown : QL w B v n R) (h c : Nat) (hx : a.eval x = .slice (some ⟨h, 0, none⟩) 1 c)
    (hc : w.cell? ⟨h, 0, none⟩ = some (.pointer (some ⟨R n, 0, none⟩))) (hlen : n ≤ 1000000000000) (hB : B ≤ w.heap.size) (H : Nat) (hH : w.heap.size = H)
    (hK : ∀ g cap w', QL w' B (.slice (some ⟨g, 0, none⟩) (n + 1) cap) (n + 1) R → w.grownBy w' v.ownBlock → (v.ownBlock = some g ∨ g = H) → g < w'.heap.size → wpList Tryd.prog ops Q rest (a.put o.dst (.slice (some ⟨g, 0, none⟩) (n + 1) cap)) w') :
    wpList Tryd.prog ops Q (o :: rest) a w := by
  obtain ⟨vs, h1, h2⟩ := hown
  obtain ⟨i0, hi, hz0, hz1, hz2⟩ := info_parts Tryd.infoPt2
  refine wpList_append_lies w hgd s x 24 ho B 25 i0 (.pointer none) 1 8 Tryd.underlying24 hi hz0 hz1 hz2 rfl (by decide) v n vs hs h1 ⟨h, 0, none⟩ 1 c [.pointer (some ⟨R n, 0, none⟩)] hx rfl ?_ (fun u hu => by simp at hu; subst hu; rfl) (by decide) (by unfold maxLen; omega) (by omega) hB H hH ?_
  · intro j u hj
    match j, hj with
    | 0, hj => simp at hj; subst hj; simpa [Addr.add] using hc
  · intro g cap w' r1 r2 r3 r4
    refine hK g cap w' ⟨_, r1, fun i hi => ?_⟩ r2 r3 r4
    have e : vs.length = n * 1 := h1.1
    rcases (by omega : i < n ∨ i = n) with hi | rfl
    · rw [List.getElem?_append_left (by omega)]; exact h2 i hi
    · rw [List.getElem?_append_right (by omega), e, Nat.mul_one, Nat.sub_self]; rfl
/-- What of a lent number is told in the list. -/
def inV (Bf : Nat → LB) (i : Nat) : Value := .slice (some ⟨(Bf i).gf, 0, none⟩) (Bf i).n (Bf i).cf
/-- What was lent, and the two lists that tell of it. -/
structure LO (w : World) (B k kp ki : Nat) (R : Nat → Nat) (P : Nat → Bool) (Bf : Nat → LB) (X : Nat → List Int) (lp li : Value) : Prop where
  pl : QL w B lp kp R
  il : IL w B li ki P (inV Bf)
  ln : ∀ i, i < k → Len2 w (R i) (P i) (Bf i) (X i)
  lo : ∀ i, i < k → B ≤ (Bf i).r
  sep : ∀ i j, i < j → j < k → R i < (Bf j).r
  np : ∀ i, i < k → lp.ownBlock ≠ some (R i) ∧ lp.ownBlock ≠ some (Bf i).r
  ni : ∀ i, i < k → li.ownBlock ≠ some (R i) ∧ li.ownBlock ≠ some (Bf i).r
theorem LO.nil (w : World) (B : Nat) (R : Nat → Nat) (P : Nat → Bool) (Bf : Nat → LB) (X : Nat → List Int) : LO w B 0 0 0 R P Bf X (.slice none 0 0) (.slice none 0 0) :=
  ⟨QL.nil _ _ _, IL.nil _ _ _ _, fun i hi => by omega, fun i hi => by omega, fun i j _ hj => by omega, fun i hi => by omega, fun i hi => by omega⟩
theorem LO.below {w w' : World} {B k kp ki : Nat} {R : Nat → Nat} {P : Nat → Bool} {Bf : Nat → LB} {X : Nat → List Int} {lp li : Value} (h : LO w B k kp ki R P Bf X lp li) (hb : Below w.heap.size w w') : LO w' B k kp ki R P Bf X lp li :=
  { h with pl := h.pl.below hb, il := h.il.below hb, ln := fun i hi => (h.ln i hi).below hb }
theorem LO.lend {w w' : World} {B k : Nat} {R : Nat → Nat} {P : Nat → Bool} {Bf : Nat → LB} {X : Nat → List Int} {lp li : Value} (h : LO w B k k k R P Bf X lp li) (hB : B ≤ w.heap.size) {r : Nat} {b : LB} (hb : Below w.heap.size w w') (hl : Len2 w' r (P k) b (X k)) (hr : w.heap.size ≤ b.r) :
    LO w' B (k + 1) k k (updF R k r) P (updF Bf k b) X lp li := by
  have h' := h.below hb
  have hbr := hl.ls.lf
  have hgr := hl.lf
  refine ⟨h'.pl.congr fun i hi => updF_lt hi, h'.il.congr fun i hi => by unfold inV; rw [updF_lt hi], fun i hi => ?_, fun i hi => ?_, fun i j hij hj => ?_, fun i hi => ?_, fun i hi => ?_⟩
  · rcases (by omega : i = k ∨ i < k) with e | e
    · subst e; rw [updF_same, updF_same]; exact hl
    · rw [updF_lt e, updF_lt e]; exact h'.ln i e
  · rcases (by omega : i = k ∨ i < k) with e | e
    · subst e; rw [updF_same]; omega
    · rw [updF_lt e]; exact h.lo i e
  · rcases (by omega : j = k ∨ j < k) with e | e
    · subst e; rw [updF_same, updF_lt hij]; have := (h.ln i hij).lt; omega
    · rw [updF_lt e, updF_lt (by omega)]; exact h.sep i j hij e
  · rcases (by omega : i = k ∨ i < k) with e | e
    · subst e; rw [updF_same, updF_same]
      exact ⟨fun e2 => by have := (h.pl.lt _ e2).2; omega, fun e2 => by have := (h.pl.lt _ e2).2; omega⟩
    · rw [updF_lt e, updF_lt e]; exact h.np i e
  · rcases (by omega : i = k ∨ i < k) with e | e
    · subst e; rw [updF_same, updF_same]
      exact ⟨fun e2 => by have := (h.il.lt _ e2).2; omega, fun e2 => by have := (h.il.lt _ e2).2; omega⟩
    · rw [updF_lt e, updF_lt e]; exact h.ni i e
theorem Len2.grown {w w' : World} {r : Nat} {p : Bool} {b : LB} {xs : List Int} (h : Len2 w r p b xs) {row : Option Nat} (hg : w.grownBy w' row) (h1 : row ≠ some r) (h2 : row ≠ some b.r) (h3 : row ≠ some b.gf) (h4 : row ≠ some b.gw) : Len2 w' r p b xs :=
  h.kept (hg.block _ h.lt (fun e => h1 e.symm)) (hg.block _ h.ls.lr (fun e => h2 e.symm)) (hg.block _ h.ls.rf.lt (fun e => h3 e.symm)) (hg.block _ h.ls.rw.lt (fun e => h4 e.symm)) hg.size
/-- The pointers' list has grown. -/
theorem LO.growP {w w' : World} {B k ki g cap : Nat} {R : Nat → Nat} {P : Nat → Bool} {Bf : Nat → LB} {X : Nat → List Int} {lp li : Value} (h : LO w B (k + 1) k ki R P Bf X lp li) (hp : QL w' B (.slice (some ⟨g, 0, none⟩) (k + 1) cap) (k + 1) R) (hg : w.grownBy w' lp.ownBlock) (hat : lp.ownBlock = some g ∨ g = w.heap.size) :
    LO w' B (k + 1) (k + 1) ki R P Bf X (.slice (some ⟨g, 0, none⟩) (k + 1) cap) li := by
  obtain ⟨vp, p1, p2⟩ := h.pl
  obtain ⟨vi, i1, i2⟩ := h.il
  refine ⟨hp, ⟨vi, World.ownsRow.kept i1 hg (row_neR i1 p1 (by decide)), i2⟩, fun i hi => ?_, h.lo, h.sep, fun i hi => ?_, h.ni⟩
  · have hl := h.ln i hi
    exact hl.grown hg (h.np i hi).1 (h.np i hi).2 (row_neT p1 hl.ls.rf (by decide)) (row_neT p1 hl.ls.rw (by decide))
  · have hl := h.ln i hi
    have a1 := hl.lt
    have a2 := hl.ls.lr
    have n := h.np i hi
    refine ⟨fun e => ?_, fun e => ?_⟩
    · have e3 : g = R i := by simpa [Value.ownBlock] using e
      rcases hat with e4 | e4
      · exact n.1 (by rw [e4, e3])
      · omega
    · have e3 : g = (Bf i).r := by simpa [Value.ownBlock] using e
      rcases hat with e4 | e4
      · exact n.2 (by rw [e4, e3])
      · omega
/-- The numbers' list has grown. -/
theorem LO.growI {w w' : World} {B k kp ki m g cap : Nat} {R : Nat → Nat} {P : Nat → Bool} {Bf : Nat → LB} {X : Nat → List Int} {lp li : Value} (h : LO w B k kp ki R P Bf X lp li) (hp : IL w' B (.slice (some ⟨g, 0, none⟩) m cap) m P (inV Bf)) (hg : w.grownBy w' li.ownBlock) (hat : li.ownBlock = some g ∨ g = w.heap.size) :
    LO w' B k kp m R P Bf X lp (.slice (some ⟨g, 0, none⟩) m cap) := by
  obtain ⟨vp, p1, p2⟩ := h.pl
  obtain ⟨vi, i1, i2⟩ := h.il
  refine ⟨⟨vp, World.ownsRow.kept p1 hg (row_neR p1 i1 (by decide)), p2⟩, hp, fun i hi => ?_, h.lo, h.sep, h.np, fun i hi => ?_⟩
  · have hl := h.ln i hi
    exact hl.grown hg (h.ni i hi).1 (h.ni i hi).2 (row_neT i1 hl.ls.rf (by decide)) (row_neT i1 hl.ls.rw (by decide))
  · have hl := h.ln i hi
    have a1 := hl.lt
    have a2 := hl.ls.lr
    have n := h.ni i hi
    refine ⟨fun e => ?_, fun e => ?_⟩
    · have e3 : g = R i := by simpa [Value.ownBlock] using e
      rcases hat with e4 | e4
      · exact n.1 (by rw [e4, e3])
      · omega
    · have e3 : g = (Bf i).r := by simpa [Value.ownBlock] using e
      rcases hat with e4 | e4
      · exact n.2 (by rw [e4, e3])
      · omega
end Go.Proofs.YtkbbdfflodiddabDoor

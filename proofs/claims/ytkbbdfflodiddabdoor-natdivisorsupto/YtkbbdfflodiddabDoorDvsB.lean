import Derived.Test.YtkbbdfflodiddabDoorDvsA
namespace Go.Proofs.YtkbbdfflodiddabDoor
open Go.RowKit

def ptrV (R : Nat → Nat) (i : Nat) : Value := .pointer (some ⟨R i, 0, none⟩)
def ownVal (X : Nat → List Int) (GF CF : Nat → Nat) (i : Nat) : Value := .slice (some ⟨GF i, 0, none⟩) (X i).length (CF i)
/-- What was lent, and the two lists that tell of it. -/
structure Loans (w : World) (B kp ko k : Nat) (X : Nat → List Int) (R GF CF GW CW : Nat → Nat) (lvL lvO : Value) : Prop where
  pl : PL w B lvL ((List.range kp).map (ptrV R))
  tl : TL w B lvO ((List.range ko).map (ownVal X GF CF))
  ln : ∀ i, i < k → Lnt w (R i) (GF i) (CF i) (GW i) (CW i) (X i).length (lendL (X i)) (lendL (X i))
  lo : ∀ i, i < k → B ≤ R i
  nl : ∀ i, i < k → lvL.ownBlock ≠ some (R i)
  no : ∀ i, i < k → lvO.ownBlock ≠ some (R i)
  inc : ∀ i j, i < j → j < k → GF i < R j
theorem Loans.below {w w' : World} {B kp ko k : Nat} {X : Nat → List Int} {R GF CF GW CW : Nat → Nat} {lvL lvO : Value} (h : Loans w B kp ko k X R GF CF GW CW lvL lvO) (hb : Below w.heap.size w w') : Loans w' B kp ko k X R GF CF GW CW lvL lvO :=
  { h with pl := h.pl.below hb, tl := h.tl.below hb, ln := fun i hi => (h.ln i hi).below hb }
/-- f, but z at k. -/
def upd (f : Nat → Nat) (k z : Nat) (i : Nat) : Nat := if i = k then z else f i
theorem upd_same (f : Nat → Nat) (k z : Nat) : upd f k z k = z := by simp [upd]
theorem upd_lt {f : Nat → Nat} {k z i : Nat} (h : i < k) : upd f k z i = f i := by unfold upd; rw [if_neg (by omega)]
theorem Loans.lend {w w' : World} {B k : Nat} {X : Nat → List Int} {R GF CF GW CW : Nat → Nat} {lvL lvO : Value} (h : Loans w B k k k X R GF CF GW CW lvL lvO) (hB : B ≤ w.heap.size) {gf cf gw cw : Nat} (hb : Below w.heap.size w w') (hl : Lnt w' w.heap.size gf cf gw cw (X k).length (lendL (X k)) (lendL (X k))) :
    Loans w' B k k (k + 1) X (upd R k w.heap.size) (upd GF k gf) (upd CF k cf) (upd GW k gw) (upd CW k cw) lvL lvO := by
  have h' := h.below hb
  refine ⟨?_, ?_, fun i hi => ?_, fun i hi => ?_, fun i hi => ?_, fun i hi => ?_, fun i j hij hj => ?_⟩
  · have e : (List.range k).map (ptrV (upd R k w.heap.size)) = (List.range k).map (ptrV R) := List.map_congr_left fun i hi => by unfold ptrV; rw [upd_lt (List.mem_range.1 hi)]
    rw [e]; exact h'.pl
  · have e : (List.range k).map (ownVal X (upd GF k gf) (upd CF k cf)) = (List.range k).map (ownVal X GF CF) := List.map_congr_left fun i hi => by unfold ownVal; rw [upd_lt (List.mem_range.1 hi), upd_lt (List.mem_range.1 hi)]
    rw [e]; exact h'.tl
  · rcases (by omega : i = k ∨ i < k) with e | e
    · subst e; simp only [upd_same]; exact hl
    · simp only [upd_lt e]; exact h'.ln i e
  · rcases (by omega : i = k ∨ i < k) with e | e
    · subst e; rw [upd_same]; exact hB
    · rw [upd_lt e]; exact h.lo i e
  · rcases (by omega : i = k ∨ i < k) with e | e
    · subst e; rw [upd_same]; intro e2; have := (h.pl.lt _ e2).2; omega
    · rw [upd_lt e]; exact h.nl i e
  · rcases (by omega : i = k ∨ i < k) with e | e
    · subst e; rw [upd_same]; intro e2; have := (h.tl.lt _ e2).2; omega
    · rw [upd_lt e]; exact h.no i e
  · rcases (by omega : j = k ∨ j < k) with e | e
    · subst e; rw [upd_same, upd_lt hij]; exact (h.ln i hij).rf.lt
    · rw [upd_lt e, upd_lt (by omega)]; exact h.inc i j hij e
theorem Row.ne_row {w : World} {g cap : Nat} {xs : List Int} (h : Row w g cap xs) {B : Nat} {e : TypeId} {v : Value} {n : Nat} {ys : List Value} (k : w.ownsRow B e 1 v n ys) (hne : e ≠ 43) : v.ownBlock ≠ some g := by
  intro h2
  obtain ⟨cur, f1, _⟩ := h
  rcases k.2 with ⟨e2, _⟩ | ⟨g2, c2, cur2, e2, _, f2, _⟩
  · subst e2; simp [Value.ownBlock] at h2
  · subst e2
    simp [Value.ownBlock] at h2
    subst h2
    rw [f1] at f2
    simp at f2
    exact hne f2.2.symm
theorem Lnt.grown {w w' : World} {r gf cf gw cw n : Nat} {fs ws : List Int} (h : Lnt w r gf cf gw cw n fs ws) {row : Option Nat} {blk : Obj} (hg : (w.alloc blk).grownBy w' row) (hr : row ≠ some r) (hf : row ≠ some gf) (hw : row ≠ some gw) : Lnt w' r gf cf gw cw n fs ws := by
  have hs : (w.alloc blk).heap.size = w.heap.size + 1 := by simp
  have hsz := hg.size
  have key : ∀ b, b < w.heap.size → row ≠ some b → w'.heap[b]? = w.heap[b]? := fun b hb hne => by
    rw [grown_block hg (by omega) hne]; exact Below.heap_alloc _ _ _ hb
  exact h.kept (key r h.lr hr) (key gf h.rf.lt hf) (key gw h.rw.lt hw) (by omega)
end Go.Proofs.YtkbbdfflodiddabDoor

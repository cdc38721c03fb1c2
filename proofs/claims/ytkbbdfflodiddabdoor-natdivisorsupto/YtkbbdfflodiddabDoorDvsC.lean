import Derived.Test.YtkbbdfflodiddabDoorDvsB
namespace Go.Proofs.YtkbbdfflodiddabDoor
open Go.RowKit

theorem ptr_ne64 : (39 : TypeId) ≠ 43 := by decide
theorem nat_ne64 : (28 : TypeId) ≠ 43 := by decide
theorem nat_nePtr : (28 : TypeId) ≠ 39 := by decide
theorem rowOr {v u : Value} (h : ∀ g, v.ownBlock = some g → u.ownBlock ≠ some g) : v.ownBlock = none ∨ v.ownBlock ≠ u.ownBlock := by
  cases e : v.ownBlock with
  | none => exact .inl rfl
  | some g => exact .inr fun e2 => h g e e2.symm
theorem Loans.growP {w w' : World} {B k g cap : Nat} {X : Nat → List Int} {R GF CF GW CW : Nat → Nat} {lvL lvO : Value} {blk : Obj} (h : Loans w B k k (k + 1) X R GF CF GW CW lvL lvO) (hp : PL w' B (.slice (some ⟨g, 0, none⟩) (k + 1) cap) ((List.range k).map (ptrV R) ++ [ptrV R k])) (hg : (w.alloc blk).grownBy w' lvL.ownBlock) (hn : lvL.ownBlock = some g ∨ g = w.heap.size + 1) :
    Loans w' B (k + 1) k (k + 1) X R GF CF GW CW (.slice (some ⟨g, 0, none⟩) (k + 1) cap) lvO := by
  refine ⟨by rw [List.range_succ, List.map_append]; exact hp, ?_, fun i hi => ?_, h.lo, fun i hi e => ?_, h.no, h.inc⟩
  · exact World.ownsRow.kept (h.tl.alloc blk) hg (rowOr (row_ne h.tl h.pl nat_nePtr))
  · have hl := h.ln i hi
    exact hl.grown hg (h.nl i hi) (hl.rf.ne_row h.pl ptr_ne64) (hl.rw.ne_row h.pl ptr_ne64)
  · simp [Value.ownBlock] at e
    subst e
    rcases hn with e | e
    · exact h.nl i hi e
    · have := (h.ln i hi).lr; omega
theorem Loans.growO {w w' : World} {B k g cap : Nat} {X : Nat → List Int} {R GF CF GW CW : Nat → Nat} {lvL lvO : Value} {blk : Obj} (h : Loans w B (k + 1) k (k + 1) X R GF CF GW CW lvL lvO) (hp : TL w' B (.slice (some ⟨g, 0, none⟩) (k + 1) cap) ((List.range k).map (ownVal X GF CF) ++ [ownVal X GF CF k])) (hg : (w.alloc blk).grownBy w' lvO.ownBlock) (hn : lvO.ownBlock = some g ∨ g = w.heap.size + 1) :
    Loans w' B (k + 1) (k + 1) (k + 1) X R GF CF GW CW lvL (.slice (some ⟨g, 0, none⟩) (k + 1) cap) := by
  refine ⟨?_, by rw [List.range_succ, List.map_append]; exact hp, fun i hi => ?_, h.lo, h.nl, fun i hi e => ?_, h.inc⟩
  · exact World.ownsRow.kept (h.pl.alloc blk) hg (rowOr (row_ne h.pl h.tl (fun e => nat_nePtr e.symm)))
  · have hl := h.ln i hi
    exact hl.grown hg (h.no i hi) (hl.rf.ne_row h.tl nat_ne64) (hl.rw.ne_row h.tl nat_ne64)
  · simp [Value.ownBlock] at e
    subst e
    rcases hn with e | e
    · exact h.no i hi e
    · have := (h.ln i hi).lr; omega

end Go.Proofs.YtkbbdfflodiddabDoor

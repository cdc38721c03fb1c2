import Derived.Test.YtkgnbcbcgnlodaaGreatDoorOpRAll
import Derived.Test.YtkgnbcbcgnlodaaGreatDoorPqB
import Derived.Test.YtkgnbcbcgnlodaaGreatDoorCsAll
namespace Go.Proofs.YtkgnbcbcgnlodaaGreatDoor
open Go.RowKit

/-- Cells that are read only. -/
def BoxC (w : World) (R : Nat) (cs : List Value) : Prop := ∀ i u, cs[i]? = some u → w.cell? ⟨R, i, none⟩ = some u
theorem box_new (w : World) (cs : Array Value) (t : TypeId) : BoxC (w.alloc (.cells cs t)) w.heap.size cs.toList := by
  intro i u hu
  have h : (w.alloc (.cells cs t)).heap[w.heap.size]? = some (.cells cs t) := heap_alloc_new _ _
  unfold World.cell?
  rw [h]
  simpa using hu
theorem BoxC.below {w w' : World} {R : Nat} {cs : List Value} (h : BoxC w R cs) (hb : Below w.heap.size w w') : BoxC w' R cs := fun i u hu => kept_c hb (h i u hu)
/-- Is a number within its bounds? -/
def wthn (a : Rat) (hlo : Bool) (lo : Rat) (hhi : Bool) (hi : Rat) : Bool := !(hlo && decide (cs a lo < 0)) && !(hhi && decide (0 < cs a hi))
theorem boxc3 (w : World) (c0 : Array Value) (t0 : TypeId) (c1 : Array Value) (t1 : TypeId) (c2 : Array Value) (t2 : TypeId) : let W := ((w.alloc (.cells c0 t0)).alloc (.cells c1 t1)).alloc (.cells c2 t2); BoxC W w.heap.size c0.toList ∧ BoxC W (w.heap.size + 1) c1.toList ∧ BoxC W (w.heap.size + 2) c2.toList ∧ Below w.heap.size w W ∧ W.heap.size = w.heap.size + 3 := by
  have e1 : (w.alloc (.cells c0 t0)).heap.size = w.heap.size + 1 := by simp
  have e2 : ((w.alloc (.cells c0 t0)).alloc (.cells c1 t1)).heap.size = w.heap.size + 2 := by simp
  have P1 := box_new (w.alloc (.cells c0 t0)) c1 t1
  have P2 := box_new ((w.alloc (.cells c0 t0)).alloc (.cells c1 t1)) c2 t2
  rw [e1] at P1
  rw [e2] at P2
  exact ⟨((box_new w c0 t0).below (bel_d0 _ _)).below (bel_d0 _ _), P1.below (bel_d0 _ _), P2, bel_a (bel_a (bel_d0 _ _)), by simp⟩
end Go.Proofs.YtkgnbcbcgnlodaaGreatDoor

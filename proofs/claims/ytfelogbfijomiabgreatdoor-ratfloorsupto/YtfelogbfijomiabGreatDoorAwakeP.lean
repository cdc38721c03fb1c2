import Derived.Test.YtfelogbfijomiabGreatDoorSumAll
namespace Go.Proofs.YtfelogbfijomiabGreatDoor
open Go.RowKit

theorem bel_tr {w W w1 : World} (h : Below w.heap.size w W) (k : Below W.heap.size W w1) : Below w.heap.size w w1 := h.trans (k.mono h.size)
theorem blk_new {w : World} (us : List Int) : Blk (w.alloc (.cells (us.map (Value.int .u64)).toArray 49)) w.heap.size us := by
  unfold Blk; rw [heap_alloc_new]
theorem blk_new2 {w : World} (o : Obj) (us : List Int) : Blk ((w.alloc o).alloc (.cells (us.map (Value.int .u64)).toArray 49)) (w.heap.size + 1) us := by
  have := blk_new (w := w.alloc o) us
  simpa using this
theorem below2 (w : World) (o p : Obj) : Below w.heap.size w ((w.alloc o).alloc p) := ((Below.refl _ _).alloc (Nat.le_refl _) _).alloc (by simp) _
end Go.Proofs.YtfelogbfijomiabGreatDoor

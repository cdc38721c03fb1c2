import Derived.Test.YtfelogbfijomiabGreatDoorRow
namespace Go.Proofs.YtfelogbfijomiabGreatDoor
open Go.RowKit

/-- An error that stands in a package's variable. -/
def Errs (w : World) (g : Nat) (v : Value) : Prop := w.cell? ⟨g, 0, none⟩ = some v ∧ ∃ p, v = .iface 165 (.pointer (some p))
theorem Errs.below {w w' : World} {g : Nat} {v : Value} (h : Errs w g v) (hb : Below w.heap.size w w') : Errs w' g v := ⟨by rw [hb.cell (World.block_lt_of_cell? _ _ h.1)]; exact h.1, h.2⟩
end Go.Proofs.YtfelogbfijomiabGreatDoor

import Derived.Test.YtfelogbfijomiacDoorOpen
import Derived.Test.YtfelogbfijomiacDoorErrs
import Derived.Stop.LaidErr
import Derived.MakeChecks
namespace Go.Proofs.YtfelogbfijomiacDoor
open Go.ChangeShapes Go.WideShapes Go.ChangeAt Go.RowKit

theorem errStar : "*" ++ "errors.errorString" = "*errors.errorString" := by decide
theorem errRow (u : TypeId) (h : Tryd.prog.typeName? 3 u = some "*errors.errorString") : u = 94 :=
  typeName_ptr_named (nm := "errors.errorString") (by rw [errStar]; kernel_rfl) (by kernel_rfl) (by decide) u (by rw [errStar]; exact h)
theorem errCells : Tryd.prog.cellsOf 112 = 1 := by kernel_rfl
theorem strCells : Tryd.prog.cellsOf 9 = 1 := by kernel_rfl
/-- What the list of laid variables gives at an error. -/
theorem errs_head {n : String} {text : List UInt8} {r : List (String × DataW Unit)} {W : World} {g : Nat} (hg : Tryd.prog.globalNamed n = some g) (ht : (Tryd.prog.globals[g]?).map (·.type) = some 26)
    (h : laidMet Tryd.prog ((n, .iface "*errors.errorString" (.ptr (.agg [.lit (.string text)]))) :: r) W) : ∃ ev, Errs W g ev := by
  obtain ⟨a, s, h1, _⟩ := laid_sentinel h hg ht Tryd.underlying26 errRow Tryd.underlying94 Tryd.underlying112 rfl rfl Tryd.underlying9 errCells strCells
  exact ⟨_, World.var?_cell hg h1 0, a, rfl⟩
end Go.Proofs.YtfelogbfijomiacDoor

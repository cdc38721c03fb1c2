import Derived.Test.YtfelogbfijomiabGreatDoorOpen
import Derived.Test.YtfelogbfijomiabGreatDoorErrs
import Derived.Stop.LaidErr
import Derived.MakeChecks
namespace Go.Proofs.YtfelogbfijomiabGreatDoor
open Go.ChangeShapes Go.WideShapes Go.ChangeAt Go.RowKit

theorem errStar : "*" ++ "errors.errorString" = "*errors.errorString" := by decide
theorem errRow (u : TypeId) (h : Tryz.prog.typeName? 3 u = some "*errors.errorString") : u = 165 :=
  typeName_ptr_named (nm := "errors.errorString") (by rw [errStar]; kernel_rfl) (by kernel_rfl) (by decide) u (by rw [errStar]; exact h)
theorem errCells : Tryz.prog.cellsOf 179 = 1 := by kernel_rfl
theorem strCells : Tryz.prog.cellsOf 9 = 1 := by kernel_rfl
/-- What the list of laid variables gives at an error. -/
theorem errs_head {n : String} {text : List UInt8} {r : List (String × DataW Unit)} {W : World} {g : Nat} (hg : Tryz.prog.globalNamed n = some g) (ht : (Tryz.prog.globals[g]?).map (·.type) = some 24)
    (h : laidMet Tryz.prog ((n, .iface "*errors.errorString" (.ptr (.agg [.lit (.string text)]))) :: r) W) : ∃ ev, Errs W g ev := by
  obtain ⟨a, s, h1, _⟩ := laid_sentinel h hg ht Tryz.underlying24 errRow Tryz.underlying165 Tryz.underlying179 rfl rfl Tryz.underlying9 errCells strCells
  exact ⟨_, World.var?_cell hg h1 0, a, rfl⟩
end Go.Proofs.YtfelogbfijomiabGreatDoor

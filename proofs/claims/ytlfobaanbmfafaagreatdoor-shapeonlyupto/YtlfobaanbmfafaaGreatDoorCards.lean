/-
  DERIVED. GIVEN WITH THE SEED: THE CARDS: each row of YtlfobaanbmfafaaGreatDoorRows.lean that lists a variable, with what it lists TIED to the program's text (the seventh form; the later family's looks); each row that meets fmt, with fmt's text TOLD by the authors' own Lean function (tested against real Go, not proved from fmt's source: count such statements apart). THE CARD IS WHAT COUNTS. Prove the row's statement (the work); the ties are given (YtlfobaanbmfafaaGreatDoorTie.lean); close each card by the builder's one call (the guide's Derived/Test/ToyasCard.lean, 'card_holds'). Laid BY PROGRAM, IN A SANDBOX (cutbox-door.mjs). By AI agents, Wed Nov 11 2026. No macro, syntax, notation, axiom, sorry.
-/
import Derived.Test.YtlfobaanbmfafaaGreatDoorRows
import GoSem.ClaimSeven
namespace Go.Proofs.YtlfobaanbmfafaaGreatDoor
namespace Rows

/-- THE TIED CARD OF 'vertexlaw10.ShapeValues'. -/
def shapeValuesCard : Claim7 := { stood := { row := shapeValuesRow, standIns := [], harness := (true, "6351561860ed4cfed36c2e616d0dcee860a49971dffeaf752ce3da78c98ce132"), looks := false }, kinds := [], alts := [], laidByText := true, laidKinds := [.data, .sentinel, .sentinel], laidTests := true, laidLooks := .later }
def ShapeValuesCardSaid : Prop := Claim7.holds Tryz.pinned (.plain (OpenSpec.ofChange shapeValuesSpec)) shapeValuesCard

/-- THE TIED CARD OF 'vertexlaw10.ShapeMeets'. -/
def shapeMeetsCard : Claim7 := { stood := { row := shapeMeetsRow, standIns := [], harness := (true, "6351561860ed4cfed36c2e616d0dcee860a49971dffeaf752ce3da78c98ce132"), looks := false }, kinds := [], alts := [], laidByText := true, laidKinds := [.data, .sentinel, .sentinel], laidTests := true, laidLooks := .later }
def ShapeMeetsCardSaid : Prop := Claim7.holds Tryz.pinned (.plain (OpenSpec.ofChange shapeMeetsSpec)) shapeMeetsCard

/-- THE TIED CARD OF 'vertexlaw10.ShapeOnly'. -/
def shapeOnlyCard : Claim7 := { stood := { row := shapeOnlyRow, standIns := [], harness := (true, "6351561860ed4cfed36c2e616d0dcee860a49971dffeaf752ce3da78c98ce132"), looks := false }, kinds := [], alts := [], laidByText := true, laidKinds := [.data, .sentinel, .sentinel], laidTests := true, laidLooks := .later }
def ShapeOnlyCardSaid : Prop := Claim7.holds Tryz.pinned (.plain (OpenSpec.ofChange shapeOnlySpec)) shapeOnlyCard

/-- THE SECOND FORM's CARD OF 'vertexlaw10.ShapeValues'. -/
def shapeValuesUptoCard : Claim7 := { stood := { row := shapeValuesUptoRow, standIns := [], harness := (true, "6351561860ed4cfed36c2e616d0dcee860a49971dffeaf752ce3da78c98ce132"), looks := false }, kinds := [], alts := [], laidByText := true, laidKinds := [.data, .sentinel, .sentinel], laidTests := true, laidLooks := .later }
def ShapeValuesUptoCardSaid : Prop := Claim7.holds Tryz.pinned (.plain (OpenSpec.upto shapeValuesSpec)) shapeValuesUptoCard

/-- THE SECOND FORM's CARD OF 'vertexlaw10.ShapeMeets'. -/
def shapeMeetsUptoCard : Claim7 := { stood := { row := shapeMeetsUptoRow, standIns := [], harness := (true, "6351561860ed4cfed36c2e616d0dcee860a49971dffeaf752ce3da78c98ce132"), looks := false }, kinds := [], alts := [], laidByText := true, laidKinds := [.data, .sentinel, .sentinel], laidTests := true, laidLooks := .later }
def ShapeMeetsUptoCardSaid : Prop := Claim7.holds Tryz.pinned (.plain (OpenSpec.upto shapeMeetsSpec)) shapeMeetsUptoCard

/-- THE SECOND FORM's CARD OF 'vertexlaw10.ShapeOnly'. -/
def shapeOnlyUptoCard : Claim7 := { stood := { row := shapeOnlyUptoRow, standIns := [], harness := (true, "6351561860ed4cfed36c2e616d0dcee860a49971dffeaf752ce3da78c98ce132"), looks := false }, kinds := [], alts := [], laidByText := true, laidKinds := [.data, .sentinel, .sentinel], laidTests := true, laidLooks := .later }
def ShapeOnlyUptoCardSaid : Prop := Claim7.holds Tryz.pinned (.plain (OpenSpec.upto shapeOnlySpec)) shapeOnlyUptoCard
end Rows
end Go.Proofs.YtlfobaanbmfafaaGreatDoor

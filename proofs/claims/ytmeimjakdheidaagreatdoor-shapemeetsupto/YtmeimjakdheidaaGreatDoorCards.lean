/-
  DERIVED. GIVEN WITH THE SEED: THE CARDS: each row of YtmeimjakdheidaaGreatDoorRows.lean that lists a variable, with what it lists TIED to the program's text (the seventh form; the later family's looks); each row that meets fmt, with fmt's text TOLD by the authors' own Lean function (tested against real Go, not proved from fmt's source: count such statements apart). THE CARD IS WHAT COUNTS. Prove the row's statement (the work); the ties are given (YtmeimjakdheidaaGreatDoorTie.lean); close each card by the builder's one call (the guide's Derived/Test/ToyasCard.lean, 'card_holds'). Laid BY PROGRAM, IN A SANDBOX (cutbox-door.mjs). By AI agents, Wed Nov 11 2026. No macro, syntax, notation, axiom, sorry.
-/
import Derived.Test.YtmeimjakdheidaaGreatDoorRows
import GoSem.ClaimSeven
namespace Go.Proofs.YtmeimjakdheidaaGreatDoor
namespace Rows

/-- THE TIED CARD OF 'vertexlaw10.ShapeMeets'. -/
def shapeMeetsCard : Claim7 := { stood := { row := shapeMeetsRow, standIns := [], harness := (true, "a305681cd7b41818d3fbe187a015a27d73cc3096683e062af8e2b673bc546a31"), looks := false }, kinds := [], alts := [], laidByText := true, laidKinds := [.data, .sentinel, .sentinel], laidTests := true, laidLooks := .later }
def ShapeMeetsCardSaid : Prop := Claim7.holds Tryz.pinned (.plain (OpenSpec.ofChange shapeMeetsSpec)) shapeMeetsCard

/-- THE SECOND FORM's CARD OF 'vertexlaw10.ShapeMeets'. -/
def shapeMeetsUptoCard : Claim7 := { stood := { row := shapeMeetsUptoRow, standIns := [], harness := (true, "a305681cd7b41818d3fbe187a015a27d73cc3096683e062af8e2b673bc546a31"), looks := false }, kinds := [], alts := [], laidByText := true, laidKinds := [.data, .sentinel, .sentinel], laidTests := true, laidLooks := .later }
def ShapeMeetsUptoCardSaid : Prop := Claim7.holds Tryz.pinned (.plain (OpenSpec.upto shapeMeetsSpec)) shapeMeetsUptoCard
end Rows
end Go.Proofs.YtmeimjakdheidaaGreatDoor

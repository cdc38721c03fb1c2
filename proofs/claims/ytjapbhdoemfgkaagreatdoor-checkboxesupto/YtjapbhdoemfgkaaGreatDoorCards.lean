/-
  DERIVED. GIVEN WITH THE SEED: THE CARDS: each row of YtjapbhdoemfgkaaGreatDoorRows.lean that lists a variable, with what it lists TIED to the program's text (the seventh form; the later family's looks); each row that meets fmt, with fmt's text TOLD by the authors' own Lean function (tested against real Go, not proved from fmt's source: count such statements apart). THE CARD IS WHAT COUNTS. Prove the row's statement (the work); the ties are given (YtjapbhdoemfgkaaGreatDoorTie.lean); close each card by the builder's one call (the guide's Derived/Test/ToyasCard.lean, 'card_holds'). Laid BY PROGRAM, IN A SANDBOX (cutbox-door.mjs). By AI agents, Wed Nov 11 2026. No macro, syntax, notation, axiom, sorry.
-/
import Derived.Test.YtjapbhdoemfgkaaGreatDoorRows
import GoSem.ClaimSeven
namespace Go.Proofs.YtjapbhdoemfgkaaGreatDoor
namespace Rows

/-- THE TIED CARD OF 'vertexlaw14.CheckBoxes'. -/
def checkBoxesCard : Claim7 := { stood := { row := checkBoxesRow, standIns := [], harness := (true, "2448b8b15d72f5257c72194c5914442251b83328d0fecc00231a3de67898f427"), looks := true }, kinds := [], alts := [], laidByText := true, laidKinds := [.data, .sentinel, .sentinel, .sentinel, .sentinel, .sentinel, .sentinel, .sentinel, .sentinel], laidTests := true, laidLooks := .later }
def CheckBoxesCardSaid : Prop := Claim7.holds Tryz.pinned (.plain (OpenSpec.ofChange checkBoxesSpec)) checkBoxesCard

/-- THE SECOND FORM's CARD OF 'vertexlaw14.CheckBoxes'. -/
def checkBoxesUptoCard : Claim7 := { stood := { row := checkBoxesUptoRow, standIns := [], harness := (true, "2448b8b15d72f5257c72194c5914442251b83328d0fecc00231a3de67898f427"), looks := true }, kinds := [], alts := [], laidByText := true, laidKinds := [.data, .sentinel, .sentinel, .sentinel, .sentinel, .sentinel, .sentinel, .sentinel, .sentinel], laidTests := true, laidLooks := .later }
def CheckBoxesUptoCardSaid : Prop := Claim7.holds Tryz.pinned (.plain (OpenSpec.upto checkBoxesSpec)) checkBoxesUptoCard
end Rows
end Go.Proofs.YtjapbhdoemfgkaaGreatDoor

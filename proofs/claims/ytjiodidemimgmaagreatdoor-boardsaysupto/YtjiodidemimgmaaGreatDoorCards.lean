/-
  DERIVED. GIVEN WITH THE SEED: THE CARDS: each row of YtjiodidemimgmaaGreatDoorRows.lean that lists a variable, with what it lists TIED to the program's text (the seventh form; the later family's looks); each row that meets fmt, with fmt's text TOLD by the authors' own Lean function (tested against real Go, not proved from fmt's source: count such statements apart). THE CARD IS WHAT COUNTS. Prove the row's statement (the work); the ties are given (YtjiodidemimgmaaGreatDoorTie.lean); close each card by the builder's one call (the guide's Derived/Test/ToyasCard.lean, 'card_holds'). Laid BY PROGRAM, IN A SANDBOX (cutbox-door.mjs). By AI agents, Wed Nov 11 2026. No macro, syntax, notation, axiom, sorry.
-/
import Derived.Test.YtjiodidemimgmaaGreatDoorRows
import GoSem.ClaimSeven
namespace Go.Proofs.YtjiodidemimgmaaGreatDoor
namespace Rows

/-- THE TIED CARD OF 'vertexlaw11.BoardSays'. -/
def boardSaysCard : Claim7 := { stood := { row := boardSaysRow, standIns := [], harness := (true, "8c07552eada01a0de0e8ddb452ab7f89fdb39d814b36356654d9a5600ebdc1e0"), looks := false }, kinds := [], alts := [], laidByText := true, laidKinds := [.data, .sentinel, .sentinel, .sentinel, .sentinel], laidTests := true, laidLooks := .later }
def BoardSaysCardSaid : Prop := Claim7.holds Tryz.pinned (.plain (OpenSpec.ofChange boardSaysSpec)) boardSaysCard

/-- THE SECOND FORM's CARD OF 'vertexlaw11.BoardSays'. -/
def boardSaysUptoCard : Claim7 := { stood := { row := boardSaysUptoRow, standIns := [], harness := (true, "8c07552eada01a0de0e8ddb452ab7f89fdb39d814b36356654d9a5600ebdc1e0"), looks := false }, kinds := [], alts := [], laidByText := true, laidKinds := [.data, .sentinel, .sentinel, .sentinel, .sentinel], laidTests := true, laidLooks := .later }
def BoardSaysUptoCardSaid : Prop := Claim7.holds Tryz.pinned (.plain (OpenSpec.upto boardSaysSpec)) boardSaysUptoCard
end Rows
end Go.Proofs.YtjiodidemimgmaaGreatDoor

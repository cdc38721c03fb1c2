/-
  DERIVED. GIVEN WITH THE SEED: THE CARDS: each row of YtjbcjapgammbhacDoorRows.lean that lists a variable, with what it lists TIED to the program's text (the seventh form; the later family's looks); each row that meets fmt, with fmt's text TOLD by the authors' own Lean function (tested against real Go, not proved from fmt's source: count such statements apart). THE CARD IS WHAT COUNTS. Prove the row's statement (the work); the ties are given (YtjbcjapgammbhacDoorTie.lean); close each card by the builder's one call (the guide's Derived/Test/ToyasCard.lean, 'card_holds'). Laid BY PROGRAM, IN A SANDBOX (cutbox-door.mjs). By AI agents, Wed Nov 11 2026. No macro, syntax, notation, axiom, sorry.
-/
import Derived.Test.YtjbcjapgammbhacDoorRows
import GoSem.ClaimSeven
namespace Go.Proofs.YtjbcjapgammbhacDoor
namespace Rows

/-- THE TIED CARD OF 'vertexlaw02.WholeBack'. -/
def wholeBackCard : Claim7 := { stood := { row := wholeBackRow, standIns := [], harness := (true, "d87a34d121fae52841b040849c6268a88b6341332bd9f542942150876b5a72c9"), looks := true }, kinds := [], alts := [], laidByText := true, laidKinds := [.sentinel, .sentinel, .sentinel], laidTests := true, laidLooks := .later }
def WholeBackCardSaid : Prop := Claim7.holds Tryd.pinned (.plain (OpenSpec.ofChange wholeBackSpec)) wholeBackCard

/-- THE TIED CARD OF 'vertexlaw02.WholeWords'. -/
def wholeWordsCard : Claim7 := { stood := { row := wholeWordsRow, standIns := [], harness := (true, "d87a34d121fae52841b040849c6268a88b6341332bd9f542942150876b5a72c9"), looks := true }, kinds := [], alts := [], laidByText := true, laidKinds := [.sentinel, .sentinel, .sentinel], laidTests := true, laidLooks := .later }
def WholeWordsCardSaid : Prop := Claim7.holds Tryd.pinned (.plain (OpenSpec.ofChange wholeWordsSpec)) wholeWordsCard

/-- THE SECOND FORM's CARD OF 'vertexlaw02.WholeBack'. -/
def wholeBackUptoCard : Claim7 := { stood := { row := wholeBackUptoRow, standIns := [], harness := (true, "d87a34d121fae52841b040849c6268a88b6341332bd9f542942150876b5a72c9"), looks := true }, kinds := [], alts := [], laidByText := true, laidKinds := [.sentinel, .sentinel, .sentinel], laidTests := true, laidLooks := .later }
def WholeBackUptoCardSaid : Prop := Claim7.holds Tryd.pinned (.plain (OpenSpec.upto wholeBackSpec)) wholeBackUptoCard

/-- THE SECOND FORM's CARD OF 'vertexlaw02.WholeWords'. -/
def wholeWordsUptoCard : Claim7 := { stood := { row := wholeWordsUptoRow, standIns := [], harness := (true, "d87a34d121fae52841b040849c6268a88b6341332bd9f542942150876b5a72c9"), looks := true }, kinds := [], alts := [], laidByText := true, laidKinds := [.sentinel, .sentinel, .sentinel], laidTests := true, laidLooks := .later }
def WholeWordsUptoCardSaid : Prop := Claim7.holds Tryd.pinned (.plain (OpenSpec.upto wholeWordsSpec)) wholeWordsUptoCard
end Rows
end Go.Proofs.YtjbcjapgammbhacDoor

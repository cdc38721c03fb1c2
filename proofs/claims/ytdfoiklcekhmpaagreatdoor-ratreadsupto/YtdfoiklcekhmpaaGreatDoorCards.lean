/-
  DERIVED. GIVEN WITH THE SEED: THE CARDS: each row of YtdfoiklcekhmpaaGreatDoorRows.lean that lists a variable, with what it lists TIED to the program's text (the seventh form; the later family's looks); each row that meets fmt, with fmt's text TOLD by the authors' own Lean function (tested against real Go, not proved from fmt's source: count such statements apart). THE CARD IS WHAT COUNTS. Prove the row's statement (the work); the ties are given (YtdfoiklcekhmpaaGreatDoorTie.lean); close each card by the builder's one call (the guide's Derived/Test/ToyasCard.lean, 'card_holds'). Laid BY PROGRAM, IN A SANDBOX (cutbox-door.mjs). By AI agents, Wed Nov 11 2026. No macro, syntax, notation, axiom, sorry.
-/
import Derived.Test.YtdfoiklcekhmpaaGreatDoorRows
import GoSem.ClaimSeven
namespace Go.Proofs.YtdfoiklcekhmpaaGreatDoor
namespace Rows

/-- THE TIED CARD OF 'vertexlaw03.RatReads'. -/
def ratReadsCard : Claim7 := { stood := { row := ratReadsRow, standIns := [], harness := (true, "917f3a38c7f9aeaa51a2d502cc5e5d58537ff74d0be9d7de05703eac6f73944a"), looks := true }, kinds := [], alts := [], laidByText := true, laidKinds := [.data, .sentinel, .sentinel, .sentinel, .sentinel, .sentinel], laidTests := true, laidLooks := .later }
def RatReadsCardSaid : Prop := Claim7.holds Tryz.pinned (.plain (OpenSpec.ofChange ratReadsSpec)) ratReadsCard

/-- THE TIED CARD OF 'vertexlaw03.RatPowers'. -/
def ratPowersCard : Claim7 := { stood := { row := ratPowersRow, standIns := [], harness := (true, "917f3a38c7f9aeaa51a2d502cc5e5d58537ff74d0be9d7de05703eac6f73944a"), looks := true }, kinds := [], alts := [], laidByText := true, laidKinds := [.data, .sentinel, .sentinel, .sentinel, .sentinel], laidTests := true, laidLooks := .later }
def RatPowersCardSaid : Prop := Claim7.holds Tryz.pinned (.plain (OpenSpec.ofChange ratPowersSpec)) ratPowersCard

/-- THE SECOND FORM's CARD OF 'vertexlaw03.RatReads'. -/
def ratReadsUptoCard : Claim7 := { stood := { row := ratReadsUptoRow, standIns := [], harness := (true, "917f3a38c7f9aeaa51a2d502cc5e5d58537ff74d0be9d7de05703eac6f73944a"), looks := true }, kinds := [], alts := [], laidByText := true, laidKinds := [.data, .sentinel, .sentinel, .sentinel, .sentinel, .sentinel], laidTests := true, laidLooks := .later }
def RatReadsUptoCardSaid : Prop := Claim7.holds Tryz.pinned (.plain (OpenSpec.upto ratReadsSpec)) ratReadsUptoCard

/-- THE SECOND FORM's CARD OF 'vertexlaw03.RatPowers'. -/
def ratPowersUptoCard : Claim7 := { stood := { row := ratPowersUptoRow, standIns := [], harness := (true, "917f3a38c7f9aeaa51a2d502cc5e5d58537ff74d0be9d7de05703eac6f73944a"), looks := true }, kinds := [], alts := [], laidByText := true, laidKinds := [.data, .sentinel, .sentinel, .sentinel, .sentinel], laidTests := true, laidLooks := .later }
def RatPowersUptoCardSaid : Prop := Claim7.holds Tryz.pinned (.plain (OpenSpec.upto ratPowersSpec)) ratPowersUptoCard
end Rows
end Go.Proofs.YtdfoiklcekhmpaaGreatDoor

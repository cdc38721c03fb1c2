/-
  DERIVED. GIVEN WITH THE SEED: THE CARDS: each row of YtjlmboakeigmpaaGreatDoorRows.lean that lists a variable, with what it lists TIED to the program's text (the seventh form; the later family's looks); each row that meets fmt, with fmt's text TOLD by the authors' own Lean function (tested against real Go, not proved from fmt's source: count such statements apart). THE CARD IS WHAT COUNTS. Prove the row's statement (the work); the ties are given (YtjlmboakeigmpaaGreatDoorTie.lean); close each card by the builder's one call (the guide's Derived/Test/ToyasCard.lean, 'card_holds'). Laid BY PROGRAM, IN A SANDBOX (cutbox-door.mjs). By AI agents, Wed Nov 11 2026. No macro, syntax, notation, axiom, sorry.
-/
import Derived.Test.YtjlmboakeigmpaaGreatDoorRows
import GoSem.ClaimSeven
namespace Go.Proofs.YtjlmboakeigmpaaGreatDoor
namespace Rows

/-- THE TIED CARD OF 'vertexlaw04.NearReads'. -/
def nearReadsCard : Claim7 := { stood := { row := nearReadsRow, standIns := [], harness := (true, "5f2b8f28360fe1757c4e71d1807ebe307fdab6aa371c9d053081e75e1029f829"), looks := true }, kinds := [], alts := [], laidByText := true, laidKinds := [.data, .sentinel, .sentinel, .sentinel, .sentinel, .sentinel, .sentinel], laidTests := true, laidLooks := .later }
def NearReadsCardSaid : Prop := Claim7.holds Tryz.pinned (.plain (OpenSpec.ofChange nearReadsSpec)) nearReadsCard

/-- THE SECOND FORM's CARD OF 'vertexlaw04.NearReads'. -/
def nearReadsUptoCard : Claim7 := { stood := { row := nearReadsUptoRow, standIns := [], harness := (true, "5f2b8f28360fe1757c4e71d1807ebe307fdab6aa371c9d053081e75e1029f829"), looks := true }, kinds := [], alts := [], laidByText := true, laidKinds := [.data, .sentinel, .sentinel, .sentinel, .sentinel, .sentinel, .sentinel], laidTests := true, laidLooks := .later }
def NearReadsUptoCardSaid : Prop := Claim7.holds Tryz.pinned (.plain (OpenSpec.upto nearReadsSpec)) nearReadsUptoCard
end Rows
end Go.Proofs.YtjlmboakeigmpaaGreatDoor

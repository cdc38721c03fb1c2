/-
  DERIVED. GIVEN WITH THE SEED: THE CARDS: each row of YtminppkjlimnmaaGreatDoorRows.lean that lists a variable, with what it lists TIED to the program's text (the seventh form; the later family's looks); each row that meets fmt, with fmt's text TOLD by the authors' own Lean function (tested against real Go, not proved from fmt's source: count such statements apart). THE CARD IS WHAT COUNTS. Prove the row's statement (the work); the ties are given (YtminppkjlimnmaaGreatDoorTie.lean); close each card by the builder's one call (the guide's Derived/Test/ToyasCard.lean, 'card_holds'). Laid BY PROGRAM, IN A SANDBOX (cutbox-door.mjs). By AI agents, Wed Nov 11 2026. No macro, syntax, notation, axiom, sorry.
-/
import Derived.Test.YtminppkjlimnmaaGreatDoorRows
import GoSem.ClaimSeven
namespace Go.Proofs.YtminppkjlimnmaaGreatDoor
namespace Rows

/-- THE TIED CARD OF 'vertexlaw03.RatCompares'. -/
def ratComparesCard : Claim7 := { stood := { row := ratComparesRow, standIns := [], harness := (true, "40cab6ad3a57e43eea7e4a4ee40f7072edf2288ca2743a6565326fd7191b8894"), looks := true }, kinds := [], alts := [], laidByText := true, laidKinds := [.data, .sentinel, .sentinel, .sentinel, .sentinel], laidTests := true, laidLooks := .later }
def RatComparesCardSaid : Prop := Claim7.holds Tryz.pinned (.plain (OpenSpec.ofChange ratComparesSpec)) ratComparesCard

/-- THE SECOND FORM's CARD OF 'vertexlaw03.RatCompares'. -/
def ratComparesUptoCard : Claim7 := { stood := { row := ratComparesUptoRow, standIns := [], harness := (true, "40cab6ad3a57e43eea7e4a4ee40f7072edf2288ca2743a6565326fd7191b8894"), looks := true }, kinds := [], alts := [], laidByText := true, laidKinds := [.data, .sentinel, .sentinel, .sentinel, .sentinel], laidTests := true, laidLooks := .later }
def RatComparesUptoCardSaid : Prop := Claim7.holds Tryz.pinned (.plain (OpenSpec.upto ratComparesSpec)) ratComparesUptoCard
end Rows
end Go.Proofs.YtminppkjlimnmaaGreatDoor

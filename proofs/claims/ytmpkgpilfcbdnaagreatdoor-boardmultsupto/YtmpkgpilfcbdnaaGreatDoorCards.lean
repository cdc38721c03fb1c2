/-
  DERIVED. GIVEN WITH THE SEED: THE CARDS: each row of YtmpkgpilfcbdnaaGreatDoorRows.lean that lists a variable, with what it lists TIED to the program's text (the seventh form; the later family's looks); each row that meets fmt, with fmt's text TOLD by the authors' own Lean function (tested against real Go, not proved from fmt's source: count such statements apart). THE CARD IS WHAT COUNTS. Prove the row's statement (the work); the ties are given (YtmpkgpilfcbdnaaGreatDoorTie.lean); close each card by the builder's one call (the guide's Derived/Test/ToyasCard.lean, 'card_holds'). Laid BY PROGRAM, IN A SANDBOX (cutbox-door.mjs). By AI agents, Wed Nov 11 2026. No macro, syntax, notation, axiom, sorry.
-/
import Derived.Test.YtmpkgpilfcbdnaaGreatDoorRows
import GoSem.ClaimSeven
namespace Go.Proofs.YtmpkgpilfcbdnaaGreatDoor
namespace Rows

/-- THE TIED CARD OF 'vertexlaw11.BoardMults'. -/
def boardMultsCard : Claim7 := { stood := { row := boardMultsRow, standIns := [], harness := (true, "ce13e6aa6af417f0717768b12f0c35f8321dd0dad89ac65a15d1749677d3321b"), looks := false }, kinds := [], alts := [], laidByText := true, laidKinds := [.data, .sentinel, .sentinel, .sentinel, .sentinel], laidTests := true, laidLooks := .later }
def BoardMultsCardSaid : Prop := Claim7.holds Tryz.pinned (.plain (OpenSpec.ofChange boardMultsSpec)) boardMultsCard

/-- THE SECOND FORM's CARD OF 'vertexlaw11.BoardMults'. -/
def boardMultsUptoCard : Claim7 := { stood := { row := boardMultsUptoRow, standIns := [], harness := (true, "ce13e6aa6af417f0717768b12f0c35f8321dd0dad89ac65a15d1749677d3321b"), looks := false }, kinds := [], alts := [], laidByText := true, laidKinds := [.data, .sentinel, .sentinel, .sentinel, .sentinel], laidTests := true, laidLooks := .later }
def BoardMultsUptoCardSaid : Prop := Claim7.holds Tryz.pinned (.plain (OpenSpec.upto boardMultsSpec)) boardMultsUptoCard
end Rows
end Go.Proofs.YtmpkgpilfcbdnaaGreatDoor

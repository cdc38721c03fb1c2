/-
  DERIVED. GIVEN WITH THE SEED: THE CARDS: each row of YtfaccnmiopcneaaGreatDoorRows.lean that lists a variable, with what it lists TIED to the program's text (the seventh form; the later family's looks); each row that meets fmt, with fmt's text TOLD by the authors' own Lean function (tested against real Go, not proved from fmt's source: count such statements apart). THE CARD IS WHAT COUNTS. Prove the row's statement (the work); the ties are given (YtfaccnmiopcneaaGreatDoorTie.lean); close each card by the builder's one call (the guide's Derived/Test/ToyasCard.lean, 'card_holds'). Laid BY PROGRAM, IN A SANDBOX (cutbox-door.mjs). By AI agents, Wed Nov 11 2026. No macro, syntax, notation, axiom, sorry.
-/
import Derived.Test.YtfaccnmiopcneaaGreatDoorRows
import GoSem.ClaimSeven
namespace Go.Proofs.YtfaccnmiopcneaaGreatDoor
namespace Rows

/-- THE TIED CARD OF 'vertexlaw03.RatSimples'. -/
def ratSimplesCard : Claim7 := { stood := { row := ratSimplesRow, standIns := [], harness := (true, "49d711c42163b0c3bd5c7ca6dc282e59701c18e0a180924125210752592b6a67"), looks := true }, kinds := [], alts := [], laidByText := true, laidKinds := [.data, .sentinel, .sentinel, .sentinel, .sentinel, .sentinel], laidTests := true, laidLooks := .later }
def RatSimplesCardSaid : Prop := Claim7.holds Tryz.pinned (.plain (OpenSpec.ofChange ratSimplesSpec)) ratSimplesCard

/-- THE SECOND FORM's CARD OF 'vertexlaw03.RatSimples'. -/
def ratSimplesUptoCard : Claim7 := { stood := { row := ratSimplesUptoRow, standIns := [], harness := (true, "49d711c42163b0c3bd5c7ca6dc282e59701c18e0a180924125210752592b6a67"), looks := true }, kinds := [], alts := [], laidByText := true, laidKinds := [.data, .sentinel, .sentinel, .sentinel, .sentinel, .sentinel], laidTests := true, laidLooks := .later }
def RatSimplesUptoCardSaid : Prop := Claim7.holds Tryz.pinned (.plain (OpenSpec.upto ratSimplesSpec)) ratSimplesUptoCard
end Rows
end Go.Proofs.YtfaccnmiopcneaaGreatDoor

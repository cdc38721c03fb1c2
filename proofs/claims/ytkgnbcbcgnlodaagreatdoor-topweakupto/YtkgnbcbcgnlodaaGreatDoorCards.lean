/-
  DERIVED. GIVEN WITH THE SEED: THE CARDS: each row of YtkgnbcbcgnlodaaGreatDoorRows.lean that lists a variable, with what it lists TIED to the program's text (the seventh form; the later family's looks); each row that meets fmt, with fmt's text TOLD by the authors' own Lean function (tested against real Go, not proved from fmt's source: count such statements apart). THE CARD IS WHAT COUNTS. Prove the row's statement (the work); the ties are given (YtkgnbcbcgnlodaaGreatDoorTie.lean); close each card by the builder's one call (the guide's Derived/Test/ToyasCard.lean, 'card_holds'). Laid BY PROGRAM, IN A SANDBOX (cutbox-door.mjs). By AI agents, Wed Nov 11 2026. No macro, syntax, notation, axiom, sorry.
-/
import Derived.Test.YtkgnbcbcgnlodaaGreatDoorRows
import GoSem.ClaimSeven
namespace Go.Proofs.YtkgnbcbcgnlodaaGreatDoor
namespace Rows

/-- THE TIED CARD OF 'vertexlaw10.ShapeMeets'. -/
def shapeMeetsCard : Claim7 := { stood := { row := shapeMeetsRow, standIns := [], harness := (true, "425ef8bcd015a64539e2eaab165e5ed16bf6de599b45567620d5263fba734f5e"), looks := false }, kinds := [], alts := [], laidByText := true, laidKinds := [.data, .sentinel, .sentinel], laidTests := true, laidLooks := .later }
def ShapeMeetsCardSaid : Prop := Claim7.holds Tryz.pinned (.plain (OpenSpec.ofChange shapeMeetsSpec)) shapeMeetsCard

/-- THE TIED CARD OF 'vertextop.TopWeak'. -/
def topWeakCard : Claim7 := { stood := { row := topWeakRow, standIns := [], harness := (true, "425ef8bcd015a64539e2eaab165e5ed16bf6de599b45567620d5263fba734f5e"), looks := false }, kinds := [], alts := [], laidByText := true, laidKinds := [.data, .data, .data, .sentinel, .sentinel], laidTests := true, laidLooks := .later }
def TopWeakCardSaid : Prop := Claim7.holds Tryz.pinned (.plain (OpenSpec.ofChange topWeakSpec)) topWeakCard

/-- THE SECOND FORM's CARD OF 'vertexlaw10.ShapeMeets'. -/
def shapeMeetsUptoCard : Claim7 := { stood := { row := shapeMeetsUptoRow, standIns := [], harness := (true, "425ef8bcd015a64539e2eaab165e5ed16bf6de599b45567620d5263fba734f5e"), looks := false }, kinds := [], alts := [], laidByText := true, laidKinds := [.data, .sentinel, .sentinel], laidTests := true, laidLooks := .later }
def ShapeMeetsUptoCardSaid : Prop := Claim7.holds Tryz.pinned (.plain (OpenSpec.upto shapeMeetsSpec)) shapeMeetsUptoCard

/-- THE SECOND FORM's CARD OF 'vertextop.TopWeak'. -/
def topWeakUptoCard : Claim7 := { stood := { row := topWeakUptoRow, standIns := [], harness := (true, "425ef8bcd015a64539e2eaab165e5ed16bf6de599b45567620d5263fba734f5e"), looks := false }, kinds := [], alts := [], laidByText := true, laidKinds := [.data, .data, .data, .sentinel, .sentinel], laidTests := true, laidLooks := .later }
def TopWeakUptoCardSaid : Prop := Claim7.holds Tryz.pinned (.plain (OpenSpec.upto topWeakSpec)) topWeakUptoCard
end Rows
end Go.Proofs.YtkgnbcbcgnlodaaGreatDoor

/-
  DERIVED. GIVEN WITH THE SEED: THE CARDS: each row of YtbkkfpfddebakaaDoorRows.lean that lists a variable, with what it lists TIED to the program's text (the seventh form; the later family's looks); each row that meets fmt, with fmt's text TOLD by the authors' own Lean function (tested against real Go, not proved from fmt's source: count such statements apart). THE CARD IS WHAT COUNTS. Prove the row's statement (the work); the ties are given (YtbkkfpfddebakaaDoorTie.lean); close each card by the builder's one call (the guide's Derived/Test/ToyasCard.lean, 'card_holds'). Laid BY PROGRAM, IN A SANDBOX (cutbox-door.mjs). By AI agents, Wed Nov 11 2026. No macro, syntax, notation, axiom, sorry.
-/
import Derived.Test.YtbkkfpfddebakaaDoorRows
import GoSem.ClaimSeven
namespace Go.Proofs.YtbkkfpfddebakaaDoor
namespace Rows

/-- THE TIED CARD OF 'vertexlaw04.NearExact'. -/
def nearExactCard : Claim7 := { stood := { row := nearExactRow, standIns := [], harness := (true, "0b5cf98d0449a5058ccf8583b633a67be3e2260056da53d8c3d990e8edb09a85"), looks := true }, kinds := [], alts := [], laidByText := true, laidKinds := [.data, .sentinel, .sentinel, .sentinel, .sentinel], laidTests := true, laidLooks := .later }
def NearExactCardSaid : Prop := Claim7.holds Tryd.pinned (.plain (OpenSpec.ofChange nearExactSpec)) nearExactCard

/-- THE SECOND FORM's CARD OF 'vertexlaw04.NearExact'. -/
def nearExactUptoCard : Claim7 := { stood := { row := nearExactUptoRow, standIns := [], harness := (true, "0b5cf98d0449a5058ccf8583b633a67be3e2260056da53d8c3d990e8edb09a85"), looks := true }, kinds := [], alts := [], laidByText := true, laidKinds := [.data, .sentinel, .sentinel, .sentinel, .sentinel], laidTests := true, laidLooks := .later }
def NearExactUptoCardSaid : Prop := Claim7.holds Tryd.pinned (.plain (OpenSpec.upto nearExactSpec)) nearExactUptoCard
end Rows
end Go.Proofs.YtbkkfpfddebakaaDoor

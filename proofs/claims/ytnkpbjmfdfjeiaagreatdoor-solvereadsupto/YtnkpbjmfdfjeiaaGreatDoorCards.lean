/-
  DERIVED. GIVEN WITH THE SEED: THE CARDS: each row of YtnkpbjmfdfjeiaaGreatDoorRows.lean that lists a variable, with what it lists TIED to the program's text (the seventh form; the later family's looks); each row that meets fmt, with fmt's text TOLD by the authors' own Lean function (tested against real Go, not proved from fmt's source: count such statements apart). THE CARD IS WHAT COUNTS. Prove the row's statement (the work); the ties are given (YtnkpbjmfdfjeiaaGreatDoorTie.lean); close each card by the builder's one call (the guide's Derived/Test/ToyasCard.lean, 'card_holds'). Laid BY PROGRAM, IN A SANDBOX (cutbox-door.mjs). By AI agents, Wed Nov 11 2026. No macro, syntax, notation, axiom, sorry.
-/
import Derived.Test.YtnkpbjmfdfjeiaaGreatDoorRows
import GoSem.ClaimSeven
namespace Go.Proofs.YtnkpbjmfdfjeiaaGreatDoor
namespace Rows

/-- THE TIED CARD OF 'vertexlaw19.SolveReads'. -/
def solveReadsCard : Claim7 := { stood := { row := solveReadsRow, standIns := [], harness := (true, "4af4fd874be5ad528ae2439acaed6a5ce9f02d39c3e6c1175fd2d7c2af1e6b31"), looks := true }, kinds := [], alts := [], laidByText := true, laidKinds := [.data, .data, .sentinel, .sentinel, .sentinel, .sentinel, .pinned], laidTests := true, laidLooks := .later }
def SolveReadsCardSaid : Prop := Claim7.holds Tryz.pinned (.plain (OpenSpec.ofChange solveReadsSpec)) solveReadsCard

/-- THE SECOND FORM's CARD OF 'vertexlaw19.SolveReads'. -/
def solveReadsUptoCard : Claim7 := { stood := { row := solveReadsUptoRow, standIns := [], harness := (true, "4af4fd874be5ad528ae2439acaed6a5ce9f02d39c3e6c1175fd2d7c2af1e6b31"), looks := true }, kinds := [], alts := [], laidByText := true, laidKinds := [.data, .data, .sentinel, .sentinel, .sentinel, .sentinel, .pinned], laidTests := true, laidLooks := .later }
def SolveReadsUptoCardSaid : Prop := Claim7.holds Tryz.pinned (.plain (OpenSpec.upto solveReadsSpec)) solveReadsUptoCard
end Rows
end Go.Proofs.YtnkpbjmfdfjeiaaGreatDoor

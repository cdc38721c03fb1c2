/-
  DERIVED. GIVEN WITH THE SEED: THE CARDS: each row of YtjlmboakeigmpaaDoorRows.lean that lists a variable, with what it lists TIED to the program's text (the seventh form; the later family's looks); each row that meets fmt, with fmt's text TOLD by the authors' own Lean function (tested against real Go, not proved from fmt's source: count such statements apart). THE CARD IS WHAT COUNTS. Prove the row's statement (the work); the ties are given (YtjlmboakeigmpaaDoorTie.lean); close each card by the builder's one call (the guide's Derived/Test/ToyasCard.lean, 'card_holds'). Laid BY PROGRAM, IN A SANDBOX (cutbox-door.mjs). By AI agents, Wed Nov 11 2026. No macro, syntax, notation, axiom, sorry.
-/
import Derived.Test.YtjlmboakeigmpaaDoorRows
import GoSem.ClaimSeven
namespace Go.Proofs.YtjlmboakeigmpaaDoor
namespace Rows

/-- THE TIED CARD OF 'vertexlaw04.NearFloats'. -/
def nearFloatsCard : Claim7 := { stood := { row := nearFloatsRow, standIns := [], harness := (true, "94c3fc49c252f59ae706e7f6348eb4d2745c4cb03e232529eeb90e2cb03d5a9e"), looks := false }, kinds := [], alts := [], laidByText := true, laidKinds := [.data, .sentinel, .sentinel, .sentinel, .sentinel], laidTests := true, laidLooks := .later }
def NearFloatsCardSaid : Prop := Claim7.holds Tryd.pinned (.plain (OpenSpec.ofChange nearFloatsSpec)) nearFloatsCard

/-- THE TIED CARD OF 'vertexlaw04.NearNeighbours'. -/
def nearNeighboursCard : Claim7 := { stood := { row := nearNeighboursRow, standIns := [], harness := (true, "94c3fc49c252f59ae706e7f6348eb4d2745c4cb03e232529eeb90e2cb03d5a9e"), looks := false }, kinds := [], alts := [], laidByText := true, laidKinds := [.data, .sentinel, .sentinel, .sentinel, .sentinel, .sentinel], laidTests := true, laidLooks := .later }
def NearNeighboursCardSaid : Prop := Claim7.holds Tryd.pinned (.plain (OpenSpec.ofChange nearNeighboursSpec)) nearNeighboursCard

/-- THE TIED CARD OF 'vertexlaw04.NearRises'. -/
def nearRisesCard : Claim7 := { stood := { row := nearRisesRow, standIns := [], harness := (true, "94c3fc49c252f59ae706e7f6348eb4d2745c4cb03e232529eeb90e2cb03d5a9e"), looks := false }, kinds := [], alts := [], laidByText := true, laidKinds := [.data, .sentinel, .sentinel, .sentinel, .sentinel], laidTests := true, laidLooks := .later }
def NearRisesCardSaid : Prop := Claim7.holds Tryd.pinned (.plain (OpenSpec.ofChange nearRisesSpec)) nearRisesCard

/-- THE SECOND FORM's CARD OF 'vertexlaw04.NearFloats'. -/
def nearFloatsUptoCard : Claim7 := { stood := { row := nearFloatsUptoRow, standIns := [], harness := (true, "94c3fc49c252f59ae706e7f6348eb4d2745c4cb03e232529eeb90e2cb03d5a9e"), looks := false }, kinds := [], alts := [], laidByText := true, laidKinds := [.data, .sentinel, .sentinel, .sentinel, .sentinel], laidTests := true, laidLooks := .later }
def NearFloatsUptoCardSaid : Prop := Claim7.holds Tryd.pinned (.plain (OpenSpec.upto nearFloatsSpec)) nearFloatsUptoCard

/-- THE SECOND FORM's CARD OF 'vertexlaw04.NearNeighbours'. -/
def nearNeighboursUptoCard : Claim7 := { stood := { row := nearNeighboursUptoRow, standIns := [], harness := (true, "94c3fc49c252f59ae706e7f6348eb4d2745c4cb03e232529eeb90e2cb03d5a9e"), looks := false }, kinds := [], alts := [], laidByText := true, laidKinds := [.data, .sentinel, .sentinel, .sentinel, .sentinel, .sentinel], laidTests := true, laidLooks := .later }
def NearNeighboursUptoCardSaid : Prop := Claim7.holds Tryd.pinned (.plain (OpenSpec.upto nearNeighboursSpec)) nearNeighboursUptoCard

/-- THE SECOND FORM's CARD OF 'vertexlaw04.NearRises'. -/
def nearRisesUptoCard : Claim7 := { stood := { row := nearRisesUptoRow, standIns := [], harness := (true, "94c3fc49c252f59ae706e7f6348eb4d2745c4cb03e232529eeb90e2cb03d5a9e"), looks := false }, kinds := [], alts := [], laidByText := true, laidKinds := [.data, .sentinel, .sentinel, .sentinel, .sentinel], laidTests := true, laidLooks := .later }
def NearRisesUptoCardSaid : Prop := Claim7.holds Tryd.pinned (.plain (OpenSpec.upto nearRisesSpec)) nearRisesUptoCard
end Rows
end Go.Proofs.YtjlmboakeigmpaaDoor

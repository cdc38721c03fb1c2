/-
  DERIVED. GIVEN WITH THE SEED: THE CARDS: each row of YtpkfiomabiacaaaGreatDoorRows.lean that lists a variable, with what it lists TIED to the program's text (the seventh form; the later family's looks); each row that meets fmt, with fmt's text TOLD by the authors' own Lean function (tested against real Go, not proved from fmt's source: count such statements apart). THE CARD IS WHAT COUNTS. Prove the row's statement (the work); the ties are given (YtpkfiomabiacaaaGreatDoorTie.lean); close each card by the builder's one call (the guide's Derived/Test/ToyasCard.lean, 'card_holds'). Laid BY PROGRAM, IN A SANDBOX (cutbox-door.mjs). By AI agents, Wed Nov 11 2026. No macro, syntax, notation, axiom, sorry.
-/
import Derived.Test.YtpkfiomabiacaaaGreatDoorRows
import GoSem.ClaimSeven
namespace Go.Proofs.YtpkfiomabiacaaaGreatDoor
namespace Rows

/-- THE TIED CARD OF 'vertexlaw07.ModelValues'. -/
def modelValuesCard : Claim7 := { stood := { row := modelValuesRow, standIns := [], harness := (true, "349555b80379f64695c88a7059a7f5511acdd77cba9f8378c21f5815520a373d"), looks := false }, kinds := [], alts := [], laidByText := true, laidKinds := [.data, .data, .data, .sentinel, .sentinel, .sentinel], laidTests := true, laidLooks := .later }
def ModelValuesCardSaid : Prop := Claim7.holds Tryz.pinned (.plain (OpenSpec.ofChange modelValuesSpec)) modelValuesCard

/-- THE TIED CARD OF 'vertexlaw07.ModelHolds'. -/
def modelHoldsCard : Claim7 := { stood := { row := modelHoldsRow, standIns := [], harness := (true, "349555b80379f64695c88a7059a7f5511acdd77cba9f8378c21f5815520a373d"), looks := false }, kinds := [], alts := [], laidByText := true, laidKinds := [.data, .data, .data, .sentinel, .sentinel, .sentinel], laidTests := true, laidLooks := .later }
def ModelHoldsCardSaid : Prop := Claim7.holds Tryz.pinned (.plain (OpenSpec.ofChange modelHoldsSpec)) modelHoldsCard

/-- THE TIED CARD OF 'vertexlaw07.ModelOne'. -/
def modelOneCard : Claim7 := { stood := { row := modelOneRow, standIns := [], harness := (true, "349555b80379f64695c88a7059a7f5511acdd77cba9f8378c21f5815520a373d"), looks := false }, kinds := [], alts := [], laidByText := true, laidKinds := [.data, .data, .data, .sentinel, .sentinel, .sentinel], laidTests := true, laidLooks := .later }
def ModelOneCardSaid : Prop := Claim7.holds Tryz.pinned (.plain (OpenSpec.ofChange modelOneSpec)) modelOneCard

/-- THE SECOND FORM's CARD OF 'vertexlaw07.ModelValues'. -/
def modelValuesUptoCard : Claim7 := { stood := { row := modelValuesUptoRow, standIns := [], harness := (true, "349555b80379f64695c88a7059a7f5511acdd77cba9f8378c21f5815520a373d"), looks := false }, kinds := [], alts := [], laidByText := true, laidKinds := [.data, .data, .data, .sentinel, .sentinel, .sentinel], laidTests := true, laidLooks := .later }
def ModelValuesUptoCardSaid : Prop := Claim7.holds Tryz.pinned (.plain (OpenSpec.upto modelValuesSpec)) modelValuesUptoCard

/-- THE SECOND FORM's CARD OF 'vertexlaw07.ModelHolds'. -/
def modelHoldsUptoCard : Claim7 := { stood := { row := modelHoldsUptoRow, standIns := [], harness := (true, "349555b80379f64695c88a7059a7f5511acdd77cba9f8378c21f5815520a373d"), looks := false }, kinds := [], alts := [], laidByText := true, laidKinds := [.data, .data, .data, .sentinel, .sentinel, .sentinel], laidTests := true, laidLooks := .later }
def ModelHoldsUptoCardSaid : Prop := Claim7.holds Tryz.pinned (.plain (OpenSpec.upto modelHoldsSpec)) modelHoldsUptoCard

/-- THE SECOND FORM's CARD OF 'vertexlaw07.ModelOne'. -/
def modelOneUptoCard : Claim7 := { stood := { row := modelOneUptoRow, standIns := [], harness := (true, "349555b80379f64695c88a7059a7f5511acdd77cba9f8378c21f5815520a373d"), looks := false }, kinds := [], alts := [], laidByText := true, laidKinds := [.data, .data, .data, .sentinel, .sentinel, .sentinel], laidTests := true, laidLooks := .later }
def ModelOneUptoCardSaid : Prop := Claim7.holds Tryz.pinned (.plain (OpenSpec.upto modelOneSpec)) modelOneUptoCard
end Rows
end Go.Proofs.YtpkfiomabiacaaaGreatDoor

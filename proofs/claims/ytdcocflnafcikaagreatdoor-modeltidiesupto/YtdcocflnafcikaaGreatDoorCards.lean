/-
  DERIVED. GIVEN WITH THE SEED: THE CARDS: each row of YtdcocflnafcikaaGreatDoorRows.lean that lists a variable, with what it lists TIED to the program's text (the seventh form; the later family's looks); each row that meets fmt, with fmt's text TOLD by the authors' own Lean function (tested against real Go, not proved from fmt's source: count such statements apart). THE CARD IS WHAT COUNTS. Prove the row's statement (the work); the ties are given (YtdcocflnafcikaaGreatDoorTie.lean); close each card by the builder's one call (the guide's Derived/Test/ToyasCard.lean, 'card_holds'). Laid BY PROGRAM, IN A SANDBOX (cutbox-door.mjs). By AI agents, Wed Nov 11 2026. No macro, syntax, notation, axiom, sorry.
-/
import Derived.Test.YtdcocflnafcikaaGreatDoorRows
import GoSem.ClaimSeven
namespace Go.Proofs.YtdcocflnafcikaaGreatDoor
namespace Rows

/-- THE TIED CARD OF 'vertexlaw07.ModelTidies'. -/
def modelTidiesCard : Claim7 := { stood := { row := modelTidiesRow, standIns := [], harness := (true, "21fcf2329950e413baad805426435060a4f915314b459b947ea0d1e1ce568ad6"), looks := false }, kinds := [], alts := [], laidByText := true, laidKinds := [.data, .data, .data, .sentinel, .sentinel, .sentinel], laidTests := true, laidLooks := .later }
def ModelTidiesCardSaid : Prop := Claim7.holds Tryz.pinned (.plain (OpenSpec.ofChange modelTidiesSpec)) modelTidiesCard

/-- THE TIED CARD OF 'vertexlaw07.ModelValues'. -/
def modelValuesCard : Claim7 := { stood := { row := modelValuesRow, standIns := [], harness := (true, "21fcf2329950e413baad805426435060a4f915314b459b947ea0d1e1ce568ad6"), looks := false }, kinds := [], alts := [], laidByText := true, laidKinds := [.data, .data, .data, .sentinel, .sentinel, .sentinel], laidTests := true, laidLooks := .later }
def ModelValuesCardSaid : Prop := Claim7.holds Tryz.pinned (.plain (OpenSpec.ofChange modelValuesSpec)) modelValuesCard

/-- THE SECOND FORM's CARD OF 'vertexlaw07.ModelTidies'. -/
def modelTidiesUptoCard : Claim7 := { stood := { row := modelTidiesUptoRow, standIns := [], harness := (true, "21fcf2329950e413baad805426435060a4f915314b459b947ea0d1e1ce568ad6"), looks := false }, kinds := [], alts := [], laidByText := true, laidKinds := [.data, .data, .data, .sentinel, .sentinel, .sentinel], laidTests := true, laidLooks := .later }
def ModelTidiesUptoCardSaid : Prop := Claim7.holds Tryz.pinned (.plain (OpenSpec.upto modelTidiesSpec)) modelTidiesUptoCard

/-- THE SECOND FORM's CARD OF 'vertexlaw07.ModelValues'. -/
def modelValuesUptoCard : Claim7 := { stood := { row := modelValuesUptoRow, standIns := [], harness := (true, "21fcf2329950e413baad805426435060a4f915314b459b947ea0d1e1ce568ad6"), looks := false }, kinds := [], alts := [], laidByText := true, laidKinds := [.data, .data, .data, .sentinel, .sentinel, .sentinel], laidTests := true, laidLooks := .later }
def ModelValuesUptoCardSaid : Prop := Claim7.holds Tryz.pinned (.plain (OpenSpec.upto modelValuesSpec)) modelValuesUptoCard
end Rows
end Go.Proofs.YtdcocflnafcikaaGreatDoor

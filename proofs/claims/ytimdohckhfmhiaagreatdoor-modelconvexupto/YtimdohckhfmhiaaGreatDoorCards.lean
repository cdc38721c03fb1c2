/-
  DERIVED. GIVEN WITH THE SEED: THE CARDS: each row of YtimdohckhfmhiaaGreatDoorRows.lean that lists a variable, with what it lists TIED to the program's text (the seventh form; the later family's looks); each row that meets fmt, with fmt's text TOLD by the authors' own Lean function (tested against real Go, not proved from fmt's source: count such statements apart). THE CARD IS WHAT COUNTS. Prove the row's statement (the work); the ties are given (YtimdohckhfmhiaaGreatDoorTie.lean); close each card by the builder's one call (the guide's Derived/Test/ToyasCard.lean, 'card_holds'). Laid BY PROGRAM, IN A SANDBOX (cutbox-door.mjs). By AI agents, Wed Nov 11 2026. No macro, syntax, notation, axiom, sorry.
-/
import Derived.Test.YtimdohckhfmhiaaGreatDoorRows
import GoSem.ClaimSeven
namespace Go.Proofs.YtimdohckhfmhiaaGreatDoor
namespace Rows

/-- THE TIED CARD OF 'vertexlaw07.ModelTidies'. -/
def modelTidiesCard : Claim7 := { stood := { row := modelTidiesRow, standIns := [], harness := (true, "c6a05a1607e705b34d0c8aa7e2dc050b56f30d301f431d95055745d43ccdfbdf"), looks := false }, kinds := [], alts := [], laidByText := true, laidKinds := [.data, .data, .data, .sentinel, .sentinel, .sentinel], laidTests := true, laidLooks := .later }
def ModelTidiesCardSaid : Prop := Claim7.holds Tryz.pinned (.plain (OpenSpec.ofChange modelTidiesSpec)) modelTidiesCard

/-- THE TIED CARD OF 'vertexlaw07.ModelHolds'. -/
def modelHoldsCard : Claim7 := { stood := { row := modelHoldsRow, standIns := [], harness := (true, "c6a05a1607e705b34d0c8aa7e2dc050b56f30d301f431d95055745d43ccdfbdf"), looks := false }, kinds := [], alts := [], laidByText := true, laidKinds := [.data, .data, .data, .sentinel, .sentinel, .sentinel], laidTests := true, laidLooks := .later }
def ModelHoldsCardSaid : Prop := Claim7.holds Tryz.pinned (.plain (OpenSpec.ofChange modelHoldsSpec)) modelHoldsCard

/-- THE TIED CARD OF 'vertexlaw07.ModelOne'. -/
def modelOneCard : Claim7 := { stood := { row := modelOneRow, standIns := [], harness := (true, "c6a05a1607e705b34d0c8aa7e2dc050b56f30d301f431d95055745d43ccdfbdf"), looks := false }, kinds := [], alts := [], laidByText := true, laidKinds := [.data, .data, .data, .sentinel, .sentinel, .sentinel], laidTests := true, laidLooks := .later }
def ModelOneCardSaid : Prop := Claim7.holds Tryz.pinned (.plain (OpenSpec.ofChange modelOneSpec)) modelOneCard

/-- THE TIED CARD OF 'vertexlaw07.ModelConvex'. -/
def modelConvexCard : Claim7 := { stood := { row := modelConvexRow, standIns := [], harness := (true, "c6a05a1607e705b34d0c8aa7e2dc050b56f30d301f431d95055745d43ccdfbdf"), looks := false }, kinds := [], alts := [], laidByText := true, laidKinds := [.data, .data, .data, .sentinel, .sentinel, .sentinel], laidTests := true, laidLooks := .later }
def ModelConvexCardSaid : Prop := Claim7.holds Tryz.pinned (.plain (OpenSpec.ofChange modelConvexSpec)) modelConvexCard

/-- THE SECOND FORM's CARD OF 'vertexlaw07.ModelTidies'. -/
def modelTidiesUptoCard : Claim7 := { stood := { row := modelTidiesUptoRow, standIns := [], harness := (true, "c6a05a1607e705b34d0c8aa7e2dc050b56f30d301f431d95055745d43ccdfbdf"), looks := false }, kinds := [], alts := [], laidByText := true, laidKinds := [.data, .data, .data, .sentinel, .sentinel, .sentinel], laidTests := true, laidLooks := .later }
def ModelTidiesUptoCardSaid : Prop := Claim7.holds Tryz.pinned (.plain (OpenSpec.upto modelTidiesSpec)) modelTidiesUptoCard

/-- THE SECOND FORM's CARD OF 'vertexlaw07.ModelHolds'. -/
def modelHoldsUptoCard : Claim7 := { stood := { row := modelHoldsUptoRow, standIns := [], harness := (true, "c6a05a1607e705b34d0c8aa7e2dc050b56f30d301f431d95055745d43ccdfbdf"), looks := false }, kinds := [], alts := [], laidByText := true, laidKinds := [.data, .data, .data, .sentinel, .sentinel, .sentinel], laidTests := true, laidLooks := .later }
def ModelHoldsUptoCardSaid : Prop := Claim7.holds Tryz.pinned (.plain (OpenSpec.upto modelHoldsSpec)) modelHoldsUptoCard

/-- THE SECOND FORM's CARD OF 'vertexlaw07.ModelOne'. -/
def modelOneUptoCard : Claim7 := { stood := { row := modelOneUptoRow, standIns := [], harness := (true, "c6a05a1607e705b34d0c8aa7e2dc050b56f30d301f431d95055745d43ccdfbdf"), looks := false }, kinds := [], alts := [], laidByText := true, laidKinds := [.data, .data, .data, .sentinel, .sentinel, .sentinel], laidTests := true, laidLooks := .later }
def ModelOneUptoCardSaid : Prop := Claim7.holds Tryz.pinned (.plain (OpenSpec.upto modelOneSpec)) modelOneUptoCard

/-- THE SECOND FORM's CARD OF 'vertexlaw07.ModelConvex'. -/
def modelConvexUptoCard : Claim7 := { stood := { row := modelConvexUptoRow, standIns := [], harness := (true, "c6a05a1607e705b34d0c8aa7e2dc050b56f30d301f431d95055745d43ccdfbdf"), looks := false }, kinds := [], alts := [], laidByText := true, laidKinds := [.data, .data, .data, .sentinel, .sentinel, .sentinel], laidTests := true, laidLooks := .later }
def ModelConvexUptoCardSaid : Prop := Claim7.holds Tryz.pinned (.plain (OpenSpec.upto modelConvexSpec)) modelConvexUptoCard
end Rows
end Go.Proofs.YtimdohckhfmhiaaGreatDoor

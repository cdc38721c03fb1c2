/-
  DERIVED. GIVEN WITH THE SEED: THE CARDS: each row of YtiohbjnflpnfbaaGreatDoorRows.lean that lists a variable, with what it lists TIED to the program's text (the seventh form; the later family's looks); each row that meets fmt, with fmt's text TOLD by the authors' own Lean function (tested against real Go, not proved from fmt's source: count such statements apart). THE CARD IS WHAT COUNTS. Prove the row's statement (the work); the ties are given (YtiohbjnflpnfbaaGreatDoorTie.lean); close each card by the builder's one call (the guide's Derived/Test/ToyasCard.lean, 'card_holds'). Laid BY PROGRAM, IN A SANDBOX (cutbox-door.mjs). By AI agents, Wed Nov 11 2026. No macro, syntax, notation, axiom, sorry.
-/
import Derived.Test.YtiohbjnflpnfbaaGreatDoorRows
import GoSem.ClaimSeven
namespace Go.Proofs.YtiohbjnflpnfbaaGreatDoor
namespace Rows

/-- THE TIED CARD OF 'vertexlaw11.BoardUnits'. -/
def boardUnitsCard : Claim7 := { stood := { row := boardUnitsRow, standIns := [], harness := (true, "40f92cf177944ada1808e3c62cd739040e8e485497805671f7441e392da0b06d"), looks := true }, kinds := [], alts := [], laidByText := true, laidKinds := [.data, .sentinel, .sentinel, .sentinel, .sentinel], laidTests := true, laidLooks := .later }
def BoardUnitsCardSaid : Prop := Claim7.holds Tryz.pinned (.plain (OpenSpec.ofChange boardUnitsSpec)) boardUnitsCard

/-- THE TIED CARD OF 'vertexlaw11.BoardBack'. -/
def boardBackCard : Claim7 := { stood := { row := boardBackRow, standIns := [], harness := (true, "40f92cf177944ada1808e3c62cd739040e8e485497805671f7441e392da0b06d"), looks := true }, kinds := [], alts := [], laidByText := true, laidKinds := [.data, .sentinel, .sentinel, .sentinel, .sentinel], laidTests := true, laidLooks := .later }
def BoardBackCardSaid : Prop := Claim7.holds Tryz.pinned (.plain (OpenSpec.ofChange boardBackSpec)) boardBackCard

/-- THE TIED CARD OF 'vertexlaw11.BoardLeaves'. -/
def boardLeavesCard : Claim7 := { stood := { row := boardLeavesRow, standIns := [], harness := (true, "40f92cf177944ada1808e3c62cd739040e8e485497805671f7441e392da0b06d"), looks := true }, kinds := [], alts := [], laidByText := true, laidKinds := [.data, .sentinel, .sentinel, .sentinel, .sentinel], laidTests := true, laidLooks := .later }
def BoardLeavesCardSaid : Prop := Claim7.holds Tryz.pinned (.plain (OpenSpec.ofChange boardLeavesSpec)) boardLeavesCard

/-- THE SECOND FORM's CARD OF 'vertexlaw11.BoardUnits'. -/
def boardUnitsUptoCard : Claim7 := { stood := { row := boardUnitsUptoRow, standIns := [], harness := (true, "40f92cf177944ada1808e3c62cd739040e8e485497805671f7441e392da0b06d"), looks := true }, kinds := [], alts := [], laidByText := true, laidKinds := [.data, .sentinel, .sentinel, .sentinel, .sentinel], laidTests := true, laidLooks := .later }
def BoardUnitsUptoCardSaid : Prop := Claim7.holds Tryz.pinned (.plain (OpenSpec.upto boardUnitsSpec)) boardUnitsUptoCard

/-- THE SECOND FORM's CARD OF 'vertexlaw11.BoardBack'. -/
def boardBackUptoCard : Claim7 := { stood := { row := boardBackUptoRow, standIns := [], harness := (true, "40f92cf177944ada1808e3c62cd739040e8e485497805671f7441e392da0b06d"), looks := true }, kinds := [], alts := [], laidByText := true, laidKinds := [.data, .sentinel, .sentinel, .sentinel, .sentinel], laidTests := true, laidLooks := .later }
def BoardBackUptoCardSaid : Prop := Claim7.holds Tryz.pinned (.plain (OpenSpec.upto boardBackSpec)) boardBackUptoCard

/-- THE SECOND FORM's CARD OF 'vertexlaw11.BoardLeaves'. -/
def boardLeavesUptoCard : Claim7 := { stood := { row := boardLeavesUptoRow, standIns := [], harness := (true, "40f92cf177944ada1808e3c62cd739040e8e485497805671f7441e392da0b06d"), looks := true }, kinds := [], alts := [], laidByText := true, laidKinds := [.data, .sentinel, .sentinel, .sentinel, .sentinel], laidTests := true, laidLooks := .later }
def BoardLeavesUptoCardSaid : Prop := Claim7.holds Tryz.pinned (.plain (OpenSpec.upto boardLeavesSpec)) boardLeavesUptoCard
end Rows
end Go.Proofs.YtiohbjnflpnfbaaGreatDoor

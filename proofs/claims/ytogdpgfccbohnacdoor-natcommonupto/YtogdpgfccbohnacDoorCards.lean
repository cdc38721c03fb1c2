/-
  DERIVED. GIVEN WITH THE SEED: THE CARDS: each row of YtogdpgfccbohnacDoorRows.lean that lists a variable, with what it lists TIED to the program's text (the seventh form; the later family's looks); each row that meets fmt, with fmt's text TOLD by the authors' own Lean function (tested against real Go, not proved from fmt's source: count such statements apart). THE CARD IS WHAT COUNTS. Prove the row's statement (the work); the ties are given (YtogdpgfccbohnacDoorTie.lean); close each card by the builder's one call (the guide's Derived/Test/ToyasCard.lean, 'card_holds'). Laid BY PROGRAM, IN A SANDBOX (cutbox-door.mjs). By AI agents, Wed Nov 11 2026. No macro, syntax, notation, axiom, sorry.
-/
import Derived.Test.YtogdpgfccbohnacDoorRows
import GoSem.ClaimSeven
namespace Go.Proofs.YtogdpgfccbohnacDoor
namespace Rows

/-- THE TIED CARD OF 'vertexlaw01.NatBack'. -/
def natBackCard : Claim7 := { stood := { row := natBackRow, standIns := [], harness := (true, "34d5a7c13ca85c81b0357d62a592097b6d9db2aeac883a149e322fabe11c514a"), looks := false }, kinds := [], alts := [], laidByText := true, laidKinds := [.sentinel, .sentinel, .sentinel, .sentinel], laidTests := true, laidLooks := .later }
def NatBackCardSaid : Prop := Claim7.holds Tryd.pinned (.plain (OpenSpec.ofChange natBackSpec)) natBackCard

/-- THE TIED CARD OF 'vertexlaw01.NatCommon'. -/
def natCommonCard : Claim7 := { stood := { row := natCommonRow, standIns := [], harness := (true, "34d5a7c13ca85c81b0357d62a592097b6d9db2aeac883a149e322fabe11c514a"), looks := false }, kinds := [], alts := [], laidByText := true, laidKinds := [.data, .sentinel], laidTests := true, laidLooks := .later }
def NatCommonCardSaid : Prop := Claim7.holds Tryd.pinned (.plain (OpenSpec.ofChange natCommonSpec)) natCommonCard

/-- THE TIED CARD OF 'vertexlaw01.NatPascal'. -/
def natPascalCard : Claim7 := { stood := { row := natPascalRow, standIns := [], harness := (true, "34d5a7c13ca85c81b0357d62a592097b6d9db2aeac883a149e322fabe11c514a"), looks := false }, kinds := [], alts := [], laidByText := true, laidKinds := [.sentinel, .sentinel, .sentinel], laidTests := true, laidLooks := .later }
def NatPascalCardSaid : Prop := Claim7.holds Tryd.pinned (.plain (OpenSpec.ofChange natPascalSpec)) natPascalCard

/-- THE SECOND FORM's CARD OF 'vertexlaw01.NatBack'. -/
def natBackUptoCard : Claim7 := { stood := { row := natBackUptoRow, standIns := [], harness := (true, "34d5a7c13ca85c81b0357d62a592097b6d9db2aeac883a149e322fabe11c514a"), looks := false }, kinds := [], alts := [], laidByText := true, laidKinds := [.sentinel, .sentinel, .sentinel, .sentinel], laidTests := true, laidLooks := .later }
def NatBackUptoCardSaid : Prop := Claim7.holds Tryd.pinned (.plain (OpenSpec.upto natBackSpec)) natBackUptoCard

/-- THE SECOND FORM's CARD OF 'vertexlaw01.NatCommon'. -/
def natCommonUptoCard : Claim7 := { stood := { row := natCommonUptoRow, standIns := [], harness := (true, "34d5a7c13ca85c81b0357d62a592097b6d9db2aeac883a149e322fabe11c514a"), looks := false }, kinds := [], alts := [], laidByText := true, laidKinds := [.data, .sentinel], laidTests := true, laidLooks := .later }
def NatCommonUptoCardSaid : Prop := Claim7.holds Tryd.pinned (.plain (OpenSpec.upto natCommonSpec)) natCommonUptoCard

/-- THE SECOND FORM's CARD OF 'vertexlaw01.NatPascal'. -/
def natPascalUptoCard : Claim7 := { stood := { row := natPascalUptoRow, standIns := [], harness := (true, "34d5a7c13ca85c81b0357d62a592097b6d9db2aeac883a149e322fabe11c514a"), looks := false }, kinds := [], alts := [], laidByText := true, laidKinds := [.sentinel, .sentinel, .sentinel], laidTests := true, laidLooks := .later }
def NatPascalUptoCardSaid : Prop := Claim7.holds Tryd.pinned (.plain (OpenSpec.upto natPascalSpec)) natPascalUptoCard
end Rows
end Go.Proofs.YtogdpgfccbohnacDoor

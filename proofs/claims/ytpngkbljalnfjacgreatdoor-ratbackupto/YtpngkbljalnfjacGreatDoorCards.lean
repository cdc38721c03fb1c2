/-
  DERIVED. GIVEN WITH THE SEED: THE CARDS: each row of YtpngkbljalnfjacGreatDoorRows.lean that lists a variable, with what it lists TIED to the program's text (the seventh form; the later family's looks); each row that meets fmt, with fmt's text TOLD by the authors' own Lean function (tested against real Go, not proved from fmt's source: count such statements apart). THE CARD IS WHAT COUNTS. Prove the row's statement (the work); the ties are given (YtpngkbljalnfjacGreatDoorTie.lean); close each card by the builder's one call (the guide's Derived/Test/ToyasCard.lean, 'card_holds'). Laid BY PROGRAM, IN A SANDBOX (cutbox-door.mjs). By AI agents, Wed Nov 11 2026. No macro, syntax, notation, axiom, sorry.
-/
import Derived.Test.YtpngkbljalnfjacGreatDoorRows
import GoSem.ClaimSeven
namespace Go.Proofs.YtpngkbljalnfjacGreatDoor
namespace Rows

/-- THE TIED CARD OF 'vertexlaw03.RatDots'. -/
def ratDotsCard : Claim7 := { stood := { row := ratDotsRow, standIns := [], harness := (true, "c59977b59e48c37cdba93821f9fb4f5a9c37ad9367f97aff2237c5195a85915d"), looks := true }, kinds := [], alts := [], laidByText := true, laidKinds := [.data, .sentinel, .sentinel, .sentinel, .sentinel], laidTests := true, laidLooks := .later }
def RatDotsCardSaid : Prop := Claim7.holds Tryz.pinned (.plain (OpenSpec.ofChange ratDotsSpec)) ratDotsCard

/-- THE TIED CARD OF 'vertexlaw03.RatBack'. -/
def ratBackCard : Claim7 := { stood := { row := ratBackRow, standIns := [], harness := (true, "c59977b59e48c37cdba93821f9fb4f5a9c37ad9367f97aff2237c5195a85915d"), looks := true }, kinds := [], alts := [], laidByText := true, laidKinds := [.data, .sentinel, .sentinel, .sentinel, .sentinel], laidTests := true, laidLooks := .later }
def RatBackCardSaid : Prop := Claim7.holds Tryz.pinned (.plain (OpenSpec.ofChange ratBackSpec)) ratBackCard

/-- THE TIED CARD OF 'vertexlaw03.RatTells'. -/
def ratTellsCard : Claim7 := { stood := { row := ratTellsRow, standIns := [], harness := (true, "c59977b59e48c37cdba93821f9fb4f5a9c37ad9367f97aff2237c5195a85915d"), looks := true }, kinds := [], alts := [], laidByText := true, laidKinds := [.data, .sentinel, .sentinel, .sentinel, .sentinel], laidTests := true, laidLooks := .later }
def RatTellsCardSaid : Prop := Claim7.holds Tryz.pinned (.plain (OpenSpec.ofChange ratTellsSpec)) ratTellsCard

/-- THE TIED CARD OF 'vertexlaw03.RatSimplest'. -/
def ratSimplestCard : Claim7 := { stood := { row := ratSimplestRow, standIns := [], harness := (true, "c59977b59e48c37cdba93821f9fb4f5a9c37ad9367f97aff2237c5195a85915d"), looks := true }, kinds := [], alts := [], laidByText := true, laidKinds := [.data, .sentinel, .sentinel, .sentinel, .sentinel, .sentinel], laidTests := true, laidLooks := .later }
def RatSimplestCardSaid : Prop := Claim7.holds Tryz.pinned (.plain (OpenSpec.ofChange ratSimplestSpec)) ratSimplestCard

/-- THE SECOND FORM's CARD OF 'vertexlaw03.RatDots'. -/
def ratDotsUptoCard : Claim7 := { stood := { row := ratDotsUptoRow, standIns := [], harness := (true, "c59977b59e48c37cdba93821f9fb4f5a9c37ad9367f97aff2237c5195a85915d"), looks := true }, kinds := [], alts := [], laidByText := true, laidKinds := [.data, .sentinel, .sentinel, .sentinel, .sentinel], laidTests := true, laidLooks := .later }
def RatDotsUptoCardSaid : Prop := Claim7.holds Tryz.pinned (.plain (OpenSpec.upto ratDotsSpec)) ratDotsUptoCard

/-- THE SECOND FORM's CARD OF 'vertexlaw03.RatBack'. -/
def ratBackUptoCard : Claim7 := { stood := { row := ratBackUptoRow, standIns := [], harness := (true, "c59977b59e48c37cdba93821f9fb4f5a9c37ad9367f97aff2237c5195a85915d"), looks := true }, kinds := [], alts := [], laidByText := true, laidKinds := [.data, .sentinel, .sentinel, .sentinel, .sentinel], laidTests := true, laidLooks := .later }
def RatBackUptoCardSaid : Prop := Claim7.holds Tryz.pinned (.plain (OpenSpec.upto ratBackSpec)) ratBackUptoCard

/-- THE SECOND FORM's CARD OF 'vertexlaw03.RatTells'. -/
def ratTellsUptoCard : Claim7 := { stood := { row := ratTellsUptoRow, standIns := [], harness := (true, "c59977b59e48c37cdba93821f9fb4f5a9c37ad9367f97aff2237c5195a85915d"), looks := true }, kinds := [], alts := [], laidByText := true, laidKinds := [.data, .sentinel, .sentinel, .sentinel, .sentinel], laidTests := true, laidLooks := .later }
def RatTellsUptoCardSaid : Prop := Claim7.holds Tryz.pinned (.plain (OpenSpec.upto ratTellsSpec)) ratTellsUptoCard

/-- THE SECOND FORM's CARD OF 'vertexlaw03.RatSimplest'. -/
def ratSimplestUptoCard : Claim7 := { stood := { row := ratSimplestUptoRow, standIns := [], harness := (true, "c59977b59e48c37cdba93821f9fb4f5a9c37ad9367f97aff2237c5195a85915d"), looks := true }, kinds := [], alts := [], laidByText := true, laidKinds := [.data, .sentinel, .sentinel, .sentinel, .sentinel, .sentinel], laidTests := true, laidLooks := .later }
def RatSimplestUptoCardSaid : Prop := Claim7.holds Tryz.pinned (.plain (OpenSpec.upto ratSimplestSpec)) ratSimplestUptoCard
end Rows
end Go.Proofs.YtpngkbljalnfjacGreatDoor

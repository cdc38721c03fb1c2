/-
  DERIVED. GIVEN WITH THE SEED: THE CARDS: each row of YtbagfdlmedljjaaGreatDoorRows.lean that lists a variable, with what it lists TIED to the program's text (the seventh form; the later family's looks); each row that meets fmt, with fmt's text TOLD by the authors' own Lean function (tested against real Go, not proved from fmt's source: count such statements apart). THE CARD IS WHAT COUNTS. Prove the row's statement (the work); the ties are given (YtbagfdlmedljjaaGreatDoorTie.lean); close each card by the builder's one call (the guide's Derived/Test/ToyasCard.lean, 'card_holds'). Laid BY PROGRAM, IN A SANDBOX (cutbox-door.mjs). By AI agents, Wed Nov 11 2026. No macro, syntax, notation, axiom, sorry.
-/
import Derived.Test.YtbagfdlmedljjaaGreatDoorRows
import GoSem.ClaimSeven
namespace Go.Proofs.YtbagfdlmedljjaaGreatDoor
namespace Rows

/-- THE TIED CARD OF 'vertexlaw03.RatDots'. -/
def ratDotsCard : Claim7 := { stood := { row := ratDotsRow, standIns := [], harness := (true, "606ac8531472e458d2852bd4e77a54f784490622d7d036ca3d7a6da8a456e420"), looks := true }, kinds := [], alts := [], laidByText := true, laidKinds := [.data, .sentinel, .sentinel, .sentinel, .sentinel], laidTests := true, laidLooks := .later }
def RatDotsCardSaid : Prop := Claim7.holds Tryz.pinned (.plain (OpenSpec.ofChange ratDotsSpec)) ratDotsCard

/-- THE TIED CARD OF 'vertexlaw03.RatCompares'. -/
def ratComparesCard : Claim7 := { stood := { row := ratComparesRow, standIns := [], harness := (true, "606ac8531472e458d2852bd4e77a54f784490622d7d036ca3d7a6da8a456e420"), looks := true }, kinds := [], alts := [], laidByText := true, laidKinds := [.data, .sentinel, .sentinel, .sentinel, .sentinel], laidTests := true, laidLooks := .later }
def RatComparesCardSaid : Prop := Claim7.holds Tryz.pinned (.plain (OpenSpec.ofChange ratComparesSpec)) ratComparesCard

/-- THE TIED CARD OF 'vertexlaw03.RatSimplest'. -/
def ratSimplestCard : Claim7 := { stood := { row := ratSimplestRow, standIns := [], harness := (true, "606ac8531472e458d2852bd4e77a54f784490622d7d036ca3d7a6da8a456e420"), looks := true }, kinds := [], alts := [], laidByText := true, laidKinds := [.data, .sentinel, .sentinel, .sentinel, .sentinel, .sentinel], laidTests := true, laidLooks := .later }
def RatSimplestCardSaid : Prop := Claim7.holds Tryz.pinned (.plain (OpenSpec.ofChange ratSimplestSpec)) ratSimplestCard

/-- THE TIED CARD OF 'vertexlaw03.RatForms'. -/
def ratFormsCard : Claim7 := { stood := { row := ratFormsRow, standIns := [], harness := (true, "606ac8531472e458d2852bd4e77a54f784490622d7d036ca3d7a6da8a456e420"), looks := true }, kinds := [], alts := [], laidByText := true, laidKinds := [.data, .sentinel, .sentinel, .sentinel, .sentinel, .sentinel], laidTests := true, laidLooks := .later }
def RatFormsCardSaid : Prop := Claim7.holds Tryz.pinned (.plain (OpenSpec.ofChange ratFormsSpec)) ratFormsCard

/-- THE SECOND FORM's CARD OF 'vertexlaw03.RatDots'. -/
def ratDotsUptoCard : Claim7 := { stood := { row := ratDotsUptoRow, standIns := [], harness := (true, "606ac8531472e458d2852bd4e77a54f784490622d7d036ca3d7a6da8a456e420"), looks := true }, kinds := [], alts := [], laidByText := true, laidKinds := [.data, .sentinel, .sentinel, .sentinel, .sentinel], laidTests := true, laidLooks := .later }
def RatDotsUptoCardSaid : Prop := Claim7.holds Tryz.pinned (.plain (OpenSpec.upto ratDotsSpec)) ratDotsUptoCard

/-- THE SECOND FORM's CARD OF 'vertexlaw03.RatCompares'. -/
def ratComparesUptoCard : Claim7 := { stood := { row := ratComparesUptoRow, standIns := [], harness := (true, "606ac8531472e458d2852bd4e77a54f784490622d7d036ca3d7a6da8a456e420"), looks := true }, kinds := [], alts := [], laidByText := true, laidKinds := [.data, .sentinel, .sentinel, .sentinel, .sentinel], laidTests := true, laidLooks := .later }
def RatComparesUptoCardSaid : Prop := Claim7.holds Tryz.pinned (.plain (OpenSpec.upto ratComparesSpec)) ratComparesUptoCard

/-- THE SECOND FORM's CARD OF 'vertexlaw03.RatSimplest'. -/
def ratSimplestUptoCard : Claim7 := { stood := { row := ratSimplestUptoRow, standIns := [], harness := (true, "606ac8531472e458d2852bd4e77a54f784490622d7d036ca3d7a6da8a456e420"), looks := true }, kinds := [], alts := [], laidByText := true, laidKinds := [.data, .sentinel, .sentinel, .sentinel, .sentinel, .sentinel], laidTests := true, laidLooks := .later }
def RatSimplestUptoCardSaid : Prop := Claim7.holds Tryz.pinned (.plain (OpenSpec.upto ratSimplestSpec)) ratSimplestUptoCard

/-- THE SECOND FORM's CARD OF 'vertexlaw03.RatForms'. -/
def ratFormsUptoCard : Claim7 := { stood := { row := ratFormsUptoRow, standIns := [], harness := (true, "606ac8531472e458d2852bd4e77a54f784490622d7d036ca3d7a6da8a456e420"), looks := true }, kinds := [], alts := [], laidByText := true, laidKinds := [.data, .sentinel, .sentinel, .sentinel, .sentinel, .sentinel], laidTests := true, laidLooks := .later }
def RatFormsUptoCardSaid : Prop := Claim7.holds Tryz.pinned (.plain (OpenSpec.upto ratFormsSpec)) ratFormsUptoCard
end Rows
end Go.Proofs.YtbagfdlmedljjaaGreatDoor

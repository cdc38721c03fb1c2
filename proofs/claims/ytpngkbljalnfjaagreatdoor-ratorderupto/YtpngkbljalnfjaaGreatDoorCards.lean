/-
  DERIVED. GIVEN WITH THE SEED: THE CARDS: each row of YtpngkbljalnfjaaGreatDoorRows.lean that lists a variable, with what it lists TIED to the program's text (the seventh form; the later family's looks); each row that meets fmt, with fmt's text TOLD by the authors' own Lean function (tested against real Go, not proved from fmt's source: count such statements apart). THE CARD IS WHAT COUNTS. Prove the row's statement (the work); the ties are given (YtpngkbljalnfjaaGreatDoorTie.lean); close each card by the builder's one call (the guide's Derived/Test/ToyasCard.lean, 'card_holds'). Laid BY PROGRAM, IN A SANDBOX (cutbox-door.mjs). By AI agents, Wed Nov 11 2026. No macro, syntax, notation, axiom, sorry.
-/
import Derived.Test.YtpngkbljalnfjaaGreatDoorRows
import GoSem.ClaimSeven
namespace Go.Proofs.YtpngkbljalnfjaaGreatDoor
namespace Rows

/-- THE TIED CARD OF 'vertexlaw03.RatOrder'. -/
def ratOrderCard : Claim7 := { stood := { row := ratOrderRow, standIns := [], harness := (true, "3d4db6de29e4fdeca20251aee3d1f96af30688f8e9df570b83708ee288b85e1e"), looks := true }, kinds := [], alts := [], laidByText := true, laidKinds := [.data, .sentinel, .sentinel, .sentinel, .sentinel], laidTests := true, laidLooks := .later }
def RatOrderCardSaid : Prop := Claim7.holds Tryz.pinned (.plain (OpenSpec.ofChange ratOrderSpec)) ratOrderCard

/-- THE TIED CARD OF 'vertexlaw03.RatLowest'. -/
def ratLowestCard : Claim7 := { stood := { row := ratLowestRow, standIns := [], harness := (true, "3d4db6de29e4fdeca20251aee3d1f96af30688f8e9df570b83708ee288b85e1e"), looks := true }, kinds := [], alts := [], laidByText := true, laidKinds := [.data, .sentinel, .sentinel, .sentinel, .sentinel], laidTests := true, laidLooks := .later }
def RatLowestCardSaid : Prop := Claim7.holds Tryz.pinned (.plain (OpenSpec.ofChange ratLowestSpec)) ratLowestCard

/-- THE TIED CARD OF 'vertexlaw03.RatAdds'. -/
def ratAddsCard : Claim7 := { stood := { row := ratAddsRow, standIns := [], harness := (true, "3d4db6de29e4fdeca20251aee3d1f96af30688f8e9df570b83708ee288b85e1e"), looks := true }, kinds := [], alts := [], laidByText := true, laidKinds := [.data, .sentinel, .sentinel, .sentinel, .sentinel], laidTests := true, laidLooks := .later }
def RatAddsCardSaid : Prop := Claim7.holds Tryz.pinned (.plain (OpenSpec.ofChange ratAddsSpec)) ratAddsCard

/-- THE TIED CARD OF 'vertexlaw03.RatForms'. -/
def ratFormsCard : Claim7 := { stood := { row := ratFormsRow, standIns := [], harness := (true, "3d4db6de29e4fdeca20251aee3d1f96af30688f8e9df570b83708ee288b85e1e"), looks := true }, kinds := [], alts := [], laidByText := true, laidKinds := [.data, .sentinel, .sentinel, .sentinel, .sentinel, .sentinel], laidTests := true, laidLooks := .later }
def RatFormsCardSaid : Prop := Claim7.holds Tryz.pinned (.plain (OpenSpec.ofChange ratFormsSpec)) ratFormsCard

/-- THE TIED CARD OF 'vertexlaw03.RatDivides'. -/
def ratDividesCard : Claim7 := { stood := { row := ratDividesRow, standIns := [], harness := (true, "3d4db6de29e4fdeca20251aee3d1f96af30688f8e9df570b83708ee288b85e1e"), looks := true }, kinds := [], alts := [], laidByText := true, laidKinds := [.data, .sentinel, .sentinel, .sentinel, .sentinel, .sentinel], laidTests := true, laidLooks := .later }
def RatDividesCardSaid : Prop := Claim7.holds Tryz.pinned (.plain (OpenSpec.ofChange ratDividesSpec)) ratDividesCard

/-- THE SECOND FORM's CARD OF 'vertexlaw03.RatOrder'. -/
def ratOrderUptoCard : Claim7 := { stood := { row := ratOrderUptoRow, standIns := [], harness := (true, "3d4db6de29e4fdeca20251aee3d1f96af30688f8e9df570b83708ee288b85e1e"), looks := true }, kinds := [], alts := [], laidByText := true, laidKinds := [.data, .sentinel, .sentinel, .sentinel, .sentinel], laidTests := true, laidLooks := .later }
def RatOrderUptoCardSaid : Prop := Claim7.holds Tryz.pinned (.plain (OpenSpec.upto ratOrderSpec)) ratOrderUptoCard

/-- THE SECOND FORM's CARD OF 'vertexlaw03.RatLowest'. -/
def ratLowestUptoCard : Claim7 := { stood := { row := ratLowestUptoRow, standIns := [], harness := (true, "3d4db6de29e4fdeca20251aee3d1f96af30688f8e9df570b83708ee288b85e1e"), looks := true }, kinds := [], alts := [], laidByText := true, laidKinds := [.data, .sentinel, .sentinel, .sentinel, .sentinel], laidTests := true, laidLooks := .later }
def RatLowestUptoCardSaid : Prop := Claim7.holds Tryz.pinned (.plain (OpenSpec.upto ratLowestSpec)) ratLowestUptoCard

/-- THE SECOND FORM's CARD OF 'vertexlaw03.RatAdds'. -/
def ratAddsUptoCard : Claim7 := { stood := { row := ratAddsUptoRow, standIns := [], harness := (true, "3d4db6de29e4fdeca20251aee3d1f96af30688f8e9df570b83708ee288b85e1e"), looks := true }, kinds := [], alts := [], laidByText := true, laidKinds := [.data, .sentinel, .sentinel, .sentinel, .sentinel], laidTests := true, laidLooks := .later }
def RatAddsUptoCardSaid : Prop := Claim7.holds Tryz.pinned (.plain (OpenSpec.upto ratAddsSpec)) ratAddsUptoCard

/-- THE SECOND FORM's CARD OF 'vertexlaw03.RatForms'. -/
def ratFormsUptoCard : Claim7 := { stood := { row := ratFormsUptoRow, standIns := [], harness := (true, "3d4db6de29e4fdeca20251aee3d1f96af30688f8e9df570b83708ee288b85e1e"), looks := true }, kinds := [], alts := [], laidByText := true, laidKinds := [.data, .sentinel, .sentinel, .sentinel, .sentinel, .sentinel], laidTests := true, laidLooks := .later }
def RatFormsUptoCardSaid : Prop := Claim7.holds Tryz.pinned (.plain (OpenSpec.upto ratFormsSpec)) ratFormsUptoCard

/-- THE SECOND FORM's CARD OF 'vertexlaw03.RatDivides'. -/
def ratDividesUptoCard : Claim7 := { stood := { row := ratDividesUptoRow, standIns := [], harness := (true, "3d4db6de29e4fdeca20251aee3d1f96af30688f8e9df570b83708ee288b85e1e"), looks := true }, kinds := [], alts := [], laidByText := true, laidKinds := [.data, .sentinel, .sentinel, .sentinel, .sentinel, .sentinel], laidTests := true, laidLooks := .later }
def RatDividesUptoCardSaid : Prop := Claim7.holds Tryz.pinned (.plain (OpenSpec.upto ratDividesSpec)) ratDividesUptoCard
end Rows
end Go.Proofs.YtpngkbljalnfjaaGreatDoor

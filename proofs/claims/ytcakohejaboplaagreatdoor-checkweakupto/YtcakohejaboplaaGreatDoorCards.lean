/-
  DERIVED. GIVEN WITH THE SEED: THE CARDS: each row of YtcakohejaboplaaGreatDoorRows.lean that lists a variable, with what it lists TIED to the program's text (the seventh form; the later family's looks); each row that meets fmt, with fmt's text TOLD by the authors' own Lean function (tested against real Go, not proved from fmt's source: count such statements apart). THE CARD IS WHAT COUNTS. Prove the row's statement (the work); the ties are given (YtcakohejaboplaaGreatDoorTie.lean); close each card by the builder's one call (the guide's Derived/Test/ToyasCard.lean, 'card_holds'). Laid BY PROGRAM, IN A SANDBOX (cutbox-door.mjs). By AI agents, Wed Nov 11 2026. No macro, syntax, notation, axiom, sorry.
-/
import Derived.Test.YtcakohejaboplaaGreatDoorRows
import GoSem.ClaimSeven
namespace Go.Proofs.YtcakohejaboplaaGreatDoor
namespace Rows

/-- THE TIED CARD OF 'vertexlaw14.CheckWeak'. -/
def checkWeakCard : Claim7 := { stood := { row := checkWeakRow, standIns := [], harness := (true, "1fe8d061052146d9ace9b3124901e054956fb330110dbf13e356e7902d77455d"), looks := true }, kinds := [], alts := [], laidByText := true, laidKinds := [.data, .sentinel, .sentinel, .sentinel, .sentinel, .sentinel, .sentinel, .sentinel, .sentinel], laidTests := true, laidLooks := .later }
def CheckWeakCardSaid : Prop := Claim7.holds Tryz.pinned (.plain (OpenSpec.ofChange checkWeakSpec)) checkWeakCard

/-- THE TIED CARD OF 'vertexlaw14.CheckSound'. -/
def checkSoundCard : Claim7 := { stood := { row := checkSoundRow, standIns := [], harness := (true, "1fe8d061052146d9ace9b3124901e054956fb330110dbf13e356e7902d77455d"), looks := true }, kinds := [], alts := [], laidByText := true, laidKinds := [.data, .sentinel, .sentinel, .sentinel, .sentinel, .sentinel, .sentinel, .sentinel, .sentinel], laidTests := true, laidLooks := .later }
def CheckSoundCardSaid : Prop := Claim7.holds Tryz.pinned (.plain (OpenSpec.ofChange checkSoundSpec)) checkSoundCard

/-- THE TIED CARD OF 'vertexlaw14.CheckBoxes'. -/
def checkBoxesCard : Claim7 := { stood := { row := checkBoxesRow, standIns := [], harness := (true, "1fe8d061052146d9ace9b3124901e054956fb330110dbf13e356e7902d77455d"), looks := true }, kinds := [], alts := [], laidByText := true, laidKinds := [.data, .sentinel, .sentinel, .sentinel, .sentinel, .sentinel, .sentinel, .sentinel, .sentinel], laidTests := true, laidLooks := .later }
def CheckBoxesCardSaid : Prop := Claim7.holds Tryz.pinned (.plain (OpenSpec.ofChange checkBoxesSpec)) checkBoxesCard

/-- THE TIED CARD OF 'vertextop.TopSound'. -/
def topSoundCard : Claim7 := { stood := { row := topSoundRow, standIns := [], harness := (true, "1fe8d061052146d9ace9b3124901e054956fb330110dbf13e356e7902d77455d"), looks := true }, kinds := [], alts := [], laidByText := true, laidKinds := [.data, .sentinel, .sentinel, .sentinel, .sentinel, .sentinel, .sentinel, .sentinel, .sentinel], laidTests := true, laidLooks := .later }
def TopSoundCardSaid : Prop := Claim7.holds Tryz.pinned (.plain (OpenSpec.ofChange topSoundSpec)) topSoundCard

/-- THE SECOND FORM's CARD OF 'vertexlaw14.CheckWeak'. -/
def checkWeakUptoCard : Claim7 := { stood := { row := checkWeakUptoRow, standIns := [], harness := (true, "1fe8d061052146d9ace9b3124901e054956fb330110dbf13e356e7902d77455d"), looks := true }, kinds := [], alts := [], laidByText := true, laidKinds := [.data, .sentinel, .sentinel, .sentinel, .sentinel, .sentinel, .sentinel, .sentinel, .sentinel], laidTests := true, laidLooks := .later }
def CheckWeakUptoCardSaid : Prop := Claim7.holds Tryz.pinned (.plain (OpenSpec.upto checkWeakSpec)) checkWeakUptoCard

/-- THE SECOND FORM's CARD OF 'vertexlaw14.CheckSound'. -/
def checkSoundUptoCard : Claim7 := { stood := { row := checkSoundUptoRow, standIns := [], harness := (true, "1fe8d061052146d9ace9b3124901e054956fb330110dbf13e356e7902d77455d"), looks := true }, kinds := [], alts := [], laidByText := true, laidKinds := [.data, .sentinel, .sentinel, .sentinel, .sentinel, .sentinel, .sentinel, .sentinel, .sentinel], laidTests := true, laidLooks := .later }
def CheckSoundUptoCardSaid : Prop := Claim7.holds Tryz.pinned (.plain (OpenSpec.upto checkSoundSpec)) checkSoundUptoCard

/-- THE SECOND FORM's CARD OF 'vertexlaw14.CheckBoxes'. -/
def checkBoxesUptoCard : Claim7 := { stood := { row := checkBoxesUptoRow, standIns := [], harness := (true, "1fe8d061052146d9ace9b3124901e054956fb330110dbf13e356e7902d77455d"), looks := true }, kinds := [], alts := [], laidByText := true, laidKinds := [.data, .sentinel, .sentinel, .sentinel, .sentinel, .sentinel, .sentinel, .sentinel, .sentinel], laidTests := true, laidLooks := .later }
def CheckBoxesUptoCardSaid : Prop := Claim7.holds Tryz.pinned (.plain (OpenSpec.upto checkBoxesSpec)) checkBoxesUptoCard

/-- THE SECOND FORM's CARD OF 'vertextop.TopSound'. -/
def topSoundUptoCard : Claim7 := { stood := { row := topSoundUptoRow, standIns := [], harness := (true, "1fe8d061052146d9ace9b3124901e054956fb330110dbf13e356e7902d77455d"), looks := true }, kinds := [], alts := [], laidByText := true, laidKinds := [.data, .sentinel, .sentinel, .sentinel, .sentinel, .sentinel, .sentinel, .sentinel, .sentinel], laidTests := true, laidLooks := .later }
def TopSoundUptoCardSaid : Prop := Claim7.holds Tryz.pinned (.plain (OpenSpec.upto topSoundSpec)) topSoundUptoCard
end Rows
end Go.Proofs.YtcakohejaboplaaGreatDoor

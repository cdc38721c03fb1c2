/-
  DERIVED. GIVEN WITH THE SEED: THE CARDS: each row of YtbkkepbmaadomaaGreatDoorRows.lean that lists a variable, with what it lists TIED to the program's text (the seventh form; the later family's looks); each row that meets fmt, with fmt's text TOLD by the authors' own Lean function (tested against real Go, not proved from fmt's source: count such statements apart). THE CARD IS WHAT COUNTS. Prove the row's statement (the work); the ties are given (YtbkkepbmaadomaaGreatDoorTie.lean); close each card by the builder's one call (the guide's Derived/Test/ToyasCard.lean, 'card_holds'). Laid BY PROGRAM, IN A SANDBOX (cutbox-door.mjs). By AI agents, Wed Nov 11 2026. No macro, syntax, notation, axiom, sorry.
-/
import Derived.Test.YtbkkepbmaadomaaGreatDoorRows
import GoSem.ClaimSeven
namespace Go.Proofs.YtbkkepbmaadomaaGreatDoor
namespace Rows

/-- THE TIED CARD OF 'vertexlaw04.NearShows'. -/
def nearShowsCard : Claim7 := { stood := { row := nearShowsRow, standIns := [], harness := (true, "c1f355321e2feff0d6429aab7e11b991c992dcddf2e2f21054dfccc6894d9e05"), looks := true }, kinds := [], alts := [], laidByText := true, laidKinds := [.data, .data, .data, .sentinel, .sentinel, .sentinel, .sentinel], laidTests := true, laidLooks := .later }
def NearShowsCardSaid : Prop := Claim7.holds Tryz.pinned (.plain (OpenSpec.ofChange nearShowsSpec)) nearShowsCard

/-- THE TIED CARD OF 'vertexlaw04.NearBack'. -/
def nearBackCard : Claim7 := { stood := { row := nearBackRow, standIns := [], harness := (true, "c1f355321e2feff0d6429aab7e11b991c992dcddf2e2f21054dfccc6894d9e05"), looks := true }, kinds := [], alts := [], laidByText := true, laidKinds := [.data, .data, .data, .sentinel, .sentinel, .sentinel, .sentinel, .sentinel, .sentinel], laidTests := true, laidLooks := .later }
def NearBackCardSaid : Prop := Claim7.holds Tryz.pinned (.plain (OpenSpec.ofChange nearBackSpec)) nearBackCard

/-- THE TIED CARD OF 'vertexlaw04.NearShort'. -/
def nearShortCard : Claim7 := { stood := { row := nearShortRow, standIns := [], harness := (true, "c1f355321e2feff0d6429aab7e11b991c992dcddf2e2f21054dfccc6894d9e05"), looks := true }, kinds := [], alts := [], laidByText := true, laidKinds := [.data, .data, .data, .sentinel, .sentinel, .sentinel, .sentinel, .sentinel, .sentinel], laidTests := true, laidLooks := .later }
def NearShortCardSaid : Prop := Claim7.holds Tryz.pinned (.plain (OpenSpec.ofChange nearShortSpec)) nearShortCard

/-- THE SECOND FORM's CARD OF 'vertexlaw04.NearShows'. -/
def nearShowsUptoCard : Claim7 := { stood := { row := nearShowsUptoRow, standIns := [], harness := (true, "c1f355321e2feff0d6429aab7e11b991c992dcddf2e2f21054dfccc6894d9e05"), looks := true }, kinds := [], alts := [], laidByText := true, laidKinds := [.data, .data, .data, .sentinel, .sentinel, .sentinel, .sentinel], laidTests := true, laidLooks := .later }
def NearShowsUptoCardSaid : Prop := Claim7.holds Tryz.pinned (.plain (OpenSpec.upto nearShowsSpec)) nearShowsUptoCard

/-- THE SECOND FORM's CARD OF 'vertexlaw04.NearBack'. -/
def nearBackUptoCard : Claim7 := { stood := { row := nearBackUptoRow, standIns := [], harness := (true, "c1f355321e2feff0d6429aab7e11b991c992dcddf2e2f21054dfccc6894d9e05"), looks := true }, kinds := [], alts := [], laidByText := true, laidKinds := [.data, .data, .data, .sentinel, .sentinel, .sentinel, .sentinel, .sentinel, .sentinel], laidTests := true, laidLooks := .later }
def NearBackUptoCardSaid : Prop := Claim7.holds Tryz.pinned (.plain (OpenSpec.upto nearBackSpec)) nearBackUptoCard

/-- THE SECOND FORM's CARD OF 'vertexlaw04.NearShort'. -/
def nearShortUptoCard : Claim7 := { stood := { row := nearShortUptoRow, standIns := [], harness := (true, "c1f355321e2feff0d6429aab7e11b991c992dcddf2e2f21054dfccc6894d9e05"), looks := true }, kinds := [], alts := [], laidByText := true, laidKinds := [.data, .data, .data, .sentinel, .sentinel, .sentinel, .sentinel, .sentinel, .sentinel], laidTests := true, laidLooks := .later }
def NearShortUptoCardSaid : Prop := Claim7.holds Tryz.pinned (.plain (OpenSpec.upto nearShortSpec)) nearShortUptoCard
end Rows
end Go.Proofs.YtbkkepbmaadomaaGreatDoor

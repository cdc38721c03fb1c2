/-
  DERIVED. GIVEN WITH THE SEED: THE CARDS: each row of YtmegocjmfcmhlaaDoorRows.lean that lists a variable, with what it lists TIED to the program's text (the seventh form; the later family's looks); each row that meets fmt, with fmt's text TOLD by the authors' own Lean function (tested against real Go, not proved from fmt's source: count such statements apart). THE CARD IS WHAT COUNTS. Prove the row's statement (the work); the ties are given (YtmegocjmfcmhlaaDoorTie.lean); close each card by the builder's one call (the guide's Derived/Test/ToyasCard.lean, 'card_holds'). Laid BY PROGRAM, IN A SANDBOX (cutbox-door.mjs). By AI agents, Wed Nov 11 2026. No macro, syntax, notation, axiom, sorry.
-/
import Derived.Test.YtmegocjmfcmhlaaDoorRows
import GoSem.ClaimSeven
namespace Go.Proofs.YtmegocjmfcmhlaaDoor
namespace Rows

/-- THE TIED CARD OF 'vertexlaw01.NatTells'. -/
def natTellsCard : Claim7 := { stood := { row := natTellsRow, standIns := [], harness := (true, "fe203c1e12f8815b58ece529ab0aa3e0dc78d8c34a066c97a42afdd6ee1dcda0"), looks := false }, kinds := [], alts := [], laidByText := true, laidKinds := [.sentinel], laidTests := true, laidLooks := .later }
def NatTellsCardSaid : Prop := Claim7.holds Tryd.pinned (.plain (OpenSpec.ofChange natTellsSpec)) natTellsCard

/-- THE SECOND FORM's CARD OF 'vertexlaw01.NatTells'. -/
def natTellsUptoCard : Claim7 := { stood := { row := natTellsUptoRow, standIns := [], harness := (true, "fe203c1e12f8815b58ece529ab0aa3e0dc78d8c34a066c97a42afdd6ee1dcda0"), looks := false }, kinds := [], alts := [], laidByText := true, laidKinds := [.sentinel], laidTests := true, laidLooks := .later }
def NatTellsUptoCardSaid : Prop := Claim7.holds Tryd.pinned (.plain (OpenSpec.upto natTellsSpec)) natTellsUptoCard
end Rows
end Go.Proofs.YtmegocjmfcmhlaaDoor

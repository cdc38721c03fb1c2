/-
  NARROWER THAN 'FOR EVERY INPUT', by the rows' own cells (each row's printed sentence says how): WholeRing: laid · WholeSums: laid · WholeOrders: laid · WholeForms: laid · WholeReckons: laid · WholeDivides: laid.
  DERIVED. THE GIVEN ROWS OF THIS SEAT. 6 by the template 'for every input the law returns true; each argument reads behind the call as it read before'; 0 by the template 'total and deterministic' (their statements: YtfelogbfijomiaaDoorTotals.lean).
  GIVEN WITH THE SEED: the statements are not yours to turn. If you find one false, say at which input.
  Laid BY PROGRAM, IN A SANDBOX (cutbox-rows.mjs): the forced cells as the released guide's own fill.sh prints them over the translation b6d54b0b8ea402db… (all of the seat's roots in one cut). By AI agents, Wed Nov 11 2026. No macro, syntax, notation, axiom, sorry.
-/
import Derived.Test.YtfelogbfijomiaaDoorChecked
import GoSem.Claim
import GoSem.ClaimJoined
import GoSem.ClaimMapViews
import Derived.JoinedTies
import Derived.KernelRfl
namespace Go.Proofs.YtfelogbfijomiaaDoor
/- THE CELL 'sum', in the pinned program and in every row, IS THE sha256 OF THE DUMP (.gsa) THAT YtfelogbfijomiaaDoorProg.lean LOADS. Nothing in Lean hashes anything: it is a label: what it is worth is what the hold of that sum in a sandbox is worth. -/
noncomputable def Tryd.pinned : Pinned := { name := "ytfelogbfijomiaadoor", sum := "b6d54b0b8ea402dbe37c36fc927efe15fbc31abf53f813b0980cc2128f69f864", checked := Tryd.checked }
namespace Rows
def none {H : Type} : Left H := { results := [], args := [] }

/- WHAT THE LISTED PACKAGE-LEVEL VARIABLES READ AS WHEN THE CALL BEGINS. Each datum BY PROGRAM (the guide's laid-datum.mjs) off the statement by which the dump's own 'gosem.cut.vars' lays the variable. In a bare row this is a premise. The card (YtfelogbfijomiaaDoorCards.lean) ties it to the program's text. -/
def laid_vertex_api_ErrDivide {H : Type} : DataW H := .iface "*errors.errorString" (.ptr (.agg [.lit (.string [118, 101, 114, 116, 101, 120, 58, 32, 100, 105, 118, 105, 100, 101, 100, 32, 98, 121, 32, 110, 111, 117, 103, 104, 116])]))
def laid_vertex_api_ErrBelow {H : Type} : DataW H := .iface "*errors.errorString" (.ptr (.agg [.lit (.string [118, 101, 114, 116, 101, 120, 58, 32, 98, 101, 108, 111, 119, 32, 110, 111, 117, 103, 104, 116])]))
def laid_vertex_api_ErrNumber {H : Type} : DataW H := .iface "*errors.errorString" (.ptr (.agg [.lit (.string [118, 101, 114, 116, 101, 120, 58, 32, 110, 111, 32, 110, 117, 109, 98, 101, 114])]))

/-- 'vertexlaw02.WholeRing': WHATEVER THE INPUT: true; the input reads as it did. -/
def wholeRingSpec : ChangeSpec := { name := "wholeRing", fn := fun _ => fun
  | [d1, d2, d3] => { results := [.lit (.bool true)], args := [d1, d2, d3] }
  | _ => none }
def wholeRingRow : OpenClaim := { program := "ytfelogbfijomiaadoor", sum := "b6d54b0b8ea402dbe37c36fc927efe15fbc31abf53f813b0980cc2128f69f864", func := "vertex/vertexlaw02.WholeRing", spec := "wholeRing", inPlace := ["math/bits.Add64", "math/bits.Sub64"], unfollowed := true, recurses := true, named := ["vertex/api.ErrDivide", "math/bits.divideError", "math/bits.overflowError", "vertex/api.ErrBelow", "vertex/api.ErrNumber"], apart := false, laid := [("vertex/api.ErrDivide", laid_vertex_api_ErrDivide), ("vertex/api.ErrBelow", laid_vertex_api_ErrBelow), ("vertex/api.ErrNumber", laid_vertex_api_ErrNumber)] }
def WholeRingSaid : Prop := wholeRingRow.holds Tryd.pinned (OpenSpec.ofChange wholeRingSpec)

/-- ITS FALSE NEIGHBOUR: 'it returns false'. Refute it at one input. -/
def wholeRingWrong : ChangeSpec := { name := "wholeRing", fn := fun _ => fun
  | [d1, d2, d3] => { results := [.lit (.bool false)], args := [d1, d2, d3] }
  | _ => none }
def WholeRingWrongFalsely : Prop := wholeRingRow.holds Tryd.pinned (OpenSpec.ofChange wholeRingWrong)

/-- 'vertexlaw02.WholeSums': WHATEVER THE INPUT: true; the input reads as it did. -/
def wholeSumsSpec : ChangeSpec := { name := "wholeSums", fn := fun _ => fun
  | [d] => { results := [.lit (.bool true)], args := [d] }
  | _ => none }
def wholeSumsRow : OpenClaim := { program := "ytfelogbfijomiaadoor", sum := "b6d54b0b8ea402dbe37c36fc927efe15fbc31abf53f813b0980cc2128f69f864", func := "vertex/vertexlaw02.WholeSums", spec := "wholeSums", inPlace := ["math/bits.Add64", "math/bits.Sub64"], unfollowed := true, recurses := true, named := ["vertex/api.ErrDivide", "math/bits.divideError", "math/bits.overflowError", "vertex/api.ErrBelow", "vertex/api.ErrNumber"], apart := false, laid := [("vertex/api.ErrDivide", laid_vertex_api_ErrDivide), ("vertex/api.ErrBelow", laid_vertex_api_ErrBelow), ("vertex/api.ErrNumber", laid_vertex_api_ErrNumber)] }
def WholeSumsSaid : Prop := wholeSumsRow.holds Tryd.pinned (OpenSpec.ofChange wholeSumsSpec)

/-- ITS FALSE NEIGHBOUR: 'it returns false'. Refute it at one input. -/
def wholeSumsWrong : ChangeSpec := { name := "wholeSums", fn := fun _ => fun
  | [d] => { results := [.lit (.bool false)], args := [d] }
  | _ => none }
def WholeSumsWrongFalsely : Prop := wholeSumsRow.holds Tryd.pinned (OpenSpec.ofChange wholeSumsWrong)

/-- 'vertexlaw02.WholeOrders': WHATEVER THE INPUT: true; the input reads as it did. -/
def wholeOrdersSpec : ChangeSpec := { name := "wholeOrders", fn := fun _ => fun
  | [d1, d2] => { results := [.lit (.bool true)], args := [d1, d2] }
  | _ => none }
def wholeOrdersRow : OpenClaim := { program := "ytfelogbfijomiaadoor", sum := "b6d54b0b8ea402dbe37c36fc927efe15fbc31abf53f813b0980cc2128f69f864", func := "vertex/vertexlaw02.WholeOrders", spec := "wholeOrders", inPlace := ["math/bits.Add64", "math/bits.Sub64"], unfollowed := true, recurses := true, named := ["vertex/api.ErrDivide", "math/bits.divideError", "math/bits.overflowError", "vertex/api.ErrBelow", "vertex/api.ErrNumber"], apart := false, laid := [("vertex/api.ErrDivide", laid_vertex_api_ErrDivide), ("vertex/api.ErrBelow", laid_vertex_api_ErrBelow), ("vertex/api.ErrNumber", laid_vertex_api_ErrNumber)] }
def WholeOrdersSaid : Prop := wholeOrdersRow.holds Tryd.pinned (OpenSpec.ofChange wholeOrdersSpec)

/-- ITS FALSE NEIGHBOUR: 'it returns false'. Refute it at one input. -/
def wholeOrdersWrong : ChangeSpec := { name := "wholeOrders", fn := fun _ => fun
  | [d1, d2] => { results := [.lit (.bool false)], args := [d1, d2] }
  | _ => none }
def WholeOrdersWrongFalsely : Prop := wholeOrdersRow.holds Tryd.pinned (OpenSpec.ofChange wholeOrdersWrong)

/-- 'vertexlaw02.WholeForms': WHATEVER THE INPUT: true; the input reads as it did. -/
def wholeFormsSpec : ChangeSpec := { name := "wholeForms", fn := fun _ => fun
  | [d1, d2, d3] => { results := [.lit (.bool true)], args := [d1, d2, d3] }
  | _ => none }
def wholeFormsRow : OpenClaim := { program := "ytfelogbfijomiaadoor", sum := "b6d54b0b8ea402dbe37c36fc927efe15fbc31abf53f813b0980cc2128f69f864", func := "vertex/vertexlaw02.WholeForms", spec := "wholeForms", inPlace := ["math/bits.Add64", "math/bits.Sub64"], unfollowed := true, recurses := true, named := ["vertex/api.ErrDivide", "math/bits.divideError", "math/bits.overflowError", "vertex/api.ErrBelow", "vertex/api.ErrNumber"], apart := false, laid := [("vertex/api.ErrDivide", laid_vertex_api_ErrDivide), ("vertex/api.ErrBelow", laid_vertex_api_ErrBelow), ("vertex/api.ErrNumber", laid_vertex_api_ErrNumber)] }
def WholeFormsSaid : Prop := wholeFormsRow.holds Tryd.pinned (OpenSpec.ofChange wholeFormsSpec)

/-- ITS FALSE NEIGHBOUR: 'it returns false'. Refute it at one input. -/
def wholeFormsWrong : ChangeSpec := { name := "wholeForms", fn := fun _ => fun
  | [d1, d2, d3] => { results := [.lit (.bool false)], args := [d1, d2, d3] }
  | _ => none }
def WholeFormsWrongFalsely : Prop := wholeFormsRow.holds Tryd.pinned (OpenSpec.ofChange wholeFormsWrong)

/-- 'vertexlaw02.WholeReckons': WHATEVER THE INPUT: true; the input reads as it did. -/
def wholeReckonsSpec : ChangeSpec := { name := "wholeReckons", fn := fun _ => fun
  | [d1, d2] => { results := [.lit (.bool true)], args := [d1, d2] }
  | _ => none }
def wholeReckonsRow : OpenClaim := { program := "ytfelogbfijomiaadoor", sum := "b6d54b0b8ea402dbe37c36fc927efe15fbc31abf53f813b0980cc2128f69f864", func := "vertex/vertexlaw02.WholeReckons", spec := "wholeReckons", inPlace := ["math/bits.Add64", "math/bits.Sub64"], unfollowed := true, recurses := true, named := ["vertex/api.ErrDivide", "math/bits.divideError", "math/bits.overflowError", "vertex/api.ErrBelow", "vertex/api.ErrNumber"], apart := false, laid := [("vertex/api.ErrDivide", laid_vertex_api_ErrDivide), ("vertex/api.ErrBelow", laid_vertex_api_ErrBelow), ("vertex/api.ErrNumber", laid_vertex_api_ErrNumber)] }
def WholeReckonsSaid : Prop := wholeReckonsRow.holds Tryd.pinned (OpenSpec.ofChange wholeReckonsSpec)

/-- ITS FALSE NEIGHBOUR: 'it returns false'. Refute it at one input. -/
def wholeReckonsWrong : ChangeSpec := { name := "wholeReckons", fn := fun _ => fun
  | [d1, d2] => { results := [.lit (.bool false)], args := [d1, d2] }
  | _ => none }
def WholeReckonsWrongFalsely : Prop := wholeReckonsRow.holds Tryd.pinned (OpenSpec.ofChange wholeReckonsWrong)

/-- 'vertexlaw02.WholeDivides': WHATEVER THE INPUT: true; the input reads as it did. -/
def wholeDividesSpec : ChangeSpec := { name := "wholeDivides", fn := fun _ => fun
  | [d1, d2, d3] => { results := [.lit (.bool true)], args := [d1, d2, d3] }
  | _ => none }
def wholeDividesRow : OpenClaim := { program := "ytfelogbfijomiaadoor", sum := "b6d54b0b8ea402dbe37c36fc927efe15fbc31abf53f813b0980cc2128f69f864", func := "vertex/vertexlaw02.WholeDivides", spec := "wholeDivides", inPlace := ["math/bits.Add64", "math/bits.Sub64"], unfollowed := true, recurses := true, named := ["vertex/api.ErrDivide", "math/bits.divideError", "math/bits.overflowError", "vertex/api.ErrBelow", "vertex/api.ErrNumber"], apart := false, laid := [("vertex/api.ErrDivide", laid_vertex_api_ErrDivide), ("vertex/api.ErrBelow", laid_vertex_api_ErrBelow), ("vertex/api.ErrNumber", laid_vertex_api_ErrNumber)] }
def WholeDividesSaid : Prop := wholeDividesRow.holds Tryd.pinned (OpenSpec.ofChange wholeDividesSpec)

/-- ITS FALSE NEIGHBOUR: 'it returns false'. Refute it at one input. -/
def wholeDividesWrong : ChangeSpec := { name := "wholeDivides", fn := fun _ => fun
  | [d1, d2, d3] => { results := [.lit (.bool false)], args := [d1, d2, d3] }
  | _ => none }
def WholeDividesWrongFalsely : Prop := wholeDividesRow.holds Tryd.pinned (OpenSpec.ofChange wholeDividesWrong)

/- THE SECOND FORM. 'bulk': how many values and letters a reading holds, each counted each time it is reached (what is shared counts as often as it is met; a slice's spare places count too). A statement '..UptoSaid' is the law's where the arguments, and the package variables that the reading takes, are together of bulk at most 1048576: NARROWER than '..Said'. Prove '..Said' where nothing that the law and all that it calls make is longer than what came in: it says more and counts as full. Else prove '..UptoSaid'. A law counts once. -/
mutual
def uptoBulk {H : Type} : DataW H → Nat
  | .lit (.string bytes) => bytes.length + 1
  | .lit _ => 1
  | .nil => 1
  | .ptr d => uptoBulk d + 1
  | .slice elems spare => uptoBulkAll elems + uptoBulkAll spare + 1
  | .agg parts => uptoBulkAll parts + 1
  | .iface _ d => uptoBulk d + 1
  | .map entries => uptoBulkEntries entries + 1
  | .held _ => 1
def uptoBulkAll {H : Type} : List (DataW H) → Nat
  | [] => 0
  | d :: r => uptoBulk d + uptoBulkAll r
def uptoBulkEntries {H : Type} : List (Lit × DataW H) → Nat
  | [] => 0
  | x :: r => uptoBulkEntry x + uptoBulkEntries r
def uptoBulkEntry {H : Type} : Lit × DataW H → Nat
  | (.string bytes, d) => bytes.length + uptoBulk d + 1
  | (_, d) => uptoBulk d + 1
 end
def uptoSmall : (H : Type) → List (DataW H) → Bool := fun _ ds => decide (uptoBulkAll ds ≤ 1048576)
def OpenSpec.upto (s : _root_.Go.ChangeSpec) : _root_.Go.OpenSpec := { _root_.Go.OpenSpec.ofChange s with cond := some uptoSmall }

/-- 'vertexlaw02.WholeRing', WHERE WHAT IT READS IS OF BULK AT MOST 1048576: true; the input reads as it did. -/
def wholeRingUptoRow : OpenClaim := { program := "ytfelogbfijomiaadoor", sum := "b6d54b0b8ea402dbe37c36fc927efe15fbc31abf53f813b0980cc2128f69f864", func := "vertex/vertexlaw02.WholeRing", spec := "wholeRing", inPlace := ["math/bits.Add64", "math/bits.Sub64"], unfollowed := true, recurses := true, named := ["vertex/api.ErrDivide", "math/bits.divideError", "math/bits.overflowError", "vertex/api.ErrBelow", "vertex/api.ErrNumber"], apart := false, laid := [("vertex/api.ErrDivide", laid_vertex_api_ErrDivide), ("vertex/api.ErrBelow", laid_vertex_api_ErrBelow), ("vertex/api.ErrNumber", laid_vertex_api_ErrNumber)], narrowed := true }
def WholeRingUptoSaid : Prop := wholeRingUptoRow.holds Tryd.pinned (OpenSpec.upto wholeRingSpec)

/-- 'vertexlaw02.WholeSums', WHERE WHAT IT READS IS OF BULK AT MOST 1048576: true; the input reads as it did. -/
def wholeSumsUptoRow : OpenClaim := { program := "ytfelogbfijomiaadoor", sum := "b6d54b0b8ea402dbe37c36fc927efe15fbc31abf53f813b0980cc2128f69f864", func := "vertex/vertexlaw02.WholeSums", spec := "wholeSums", inPlace := ["math/bits.Add64", "math/bits.Sub64"], unfollowed := true, recurses := true, named := ["vertex/api.ErrDivide", "math/bits.divideError", "math/bits.overflowError", "vertex/api.ErrBelow", "vertex/api.ErrNumber"], apart := false, laid := [("vertex/api.ErrDivide", laid_vertex_api_ErrDivide), ("vertex/api.ErrBelow", laid_vertex_api_ErrBelow), ("vertex/api.ErrNumber", laid_vertex_api_ErrNumber)], narrowed := true }
def WholeSumsUptoSaid : Prop := wholeSumsUptoRow.holds Tryd.pinned (OpenSpec.upto wholeSumsSpec)

/-- 'vertexlaw02.WholeOrders', WHERE WHAT IT READS IS OF BULK AT MOST 1048576: true; the input reads as it did. -/
def wholeOrdersUptoRow : OpenClaim := { program := "ytfelogbfijomiaadoor", sum := "b6d54b0b8ea402dbe37c36fc927efe15fbc31abf53f813b0980cc2128f69f864", func := "vertex/vertexlaw02.WholeOrders", spec := "wholeOrders", inPlace := ["math/bits.Add64", "math/bits.Sub64"], unfollowed := true, recurses := true, named := ["vertex/api.ErrDivide", "math/bits.divideError", "math/bits.overflowError", "vertex/api.ErrBelow", "vertex/api.ErrNumber"], apart := false, laid := [("vertex/api.ErrDivide", laid_vertex_api_ErrDivide), ("vertex/api.ErrBelow", laid_vertex_api_ErrBelow), ("vertex/api.ErrNumber", laid_vertex_api_ErrNumber)], narrowed := true }
def WholeOrdersUptoSaid : Prop := wholeOrdersUptoRow.holds Tryd.pinned (OpenSpec.upto wholeOrdersSpec)

/-- 'vertexlaw02.WholeForms', WHERE WHAT IT READS IS OF BULK AT MOST 1048576: true; the input reads as it did. -/
def wholeFormsUptoRow : OpenClaim := { program := "ytfelogbfijomiaadoor", sum := "b6d54b0b8ea402dbe37c36fc927efe15fbc31abf53f813b0980cc2128f69f864", func := "vertex/vertexlaw02.WholeForms", spec := "wholeForms", inPlace := ["math/bits.Add64", "math/bits.Sub64"], unfollowed := true, recurses := true, named := ["vertex/api.ErrDivide", "math/bits.divideError", "math/bits.overflowError", "vertex/api.ErrBelow", "vertex/api.ErrNumber"], apart := false, laid := [("vertex/api.ErrDivide", laid_vertex_api_ErrDivide), ("vertex/api.ErrBelow", laid_vertex_api_ErrBelow), ("vertex/api.ErrNumber", laid_vertex_api_ErrNumber)], narrowed := true }
def WholeFormsUptoSaid : Prop := wholeFormsUptoRow.holds Tryd.pinned (OpenSpec.upto wholeFormsSpec)

/-- 'vertexlaw02.WholeReckons', WHERE WHAT IT READS IS OF BULK AT MOST 1048576: true; the input reads as it did. -/
def wholeReckonsUptoRow : OpenClaim := { program := "ytfelogbfijomiaadoor", sum := "b6d54b0b8ea402dbe37c36fc927efe15fbc31abf53f813b0980cc2128f69f864", func := "vertex/vertexlaw02.WholeReckons", spec := "wholeReckons", inPlace := ["math/bits.Add64", "math/bits.Sub64"], unfollowed := true, recurses := true, named := ["vertex/api.ErrDivide", "math/bits.divideError", "math/bits.overflowError", "vertex/api.ErrBelow", "vertex/api.ErrNumber"], apart := false, laid := [("vertex/api.ErrDivide", laid_vertex_api_ErrDivide), ("vertex/api.ErrBelow", laid_vertex_api_ErrBelow), ("vertex/api.ErrNumber", laid_vertex_api_ErrNumber)], narrowed := true }
def WholeReckonsUptoSaid : Prop := wholeReckonsUptoRow.holds Tryd.pinned (OpenSpec.upto wholeReckonsSpec)

/-- 'vertexlaw02.WholeDivides', WHERE WHAT IT READS IS OF BULK AT MOST 1048576: true; the input reads as it did. -/
def wholeDividesUptoRow : OpenClaim := { program := "ytfelogbfijomiaadoor", sum := "b6d54b0b8ea402dbe37c36fc927efe15fbc31abf53f813b0980cc2128f69f864", func := "vertex/vertexlaw02.WholeDivides", spec := "wholeDivides", inPlace := ["math/bits.Add64", "math/bits.Sub64"], unfollowed := true, recurses := true, named := ["vertex/api.ErrDivide", "math/bits.divideError", "math/bits.overflowError", "vertex/api.ErrBelow", "vertex/api.ErrNumber"], apart := false, laid := [("vertex/api.ErrDivide", laid_vertex_api_ErrDivide), ("vertex/api.ErrBelow", laid_vertex_api_ErrBelow), ("vertex/api.ErrNumber", laid_vertex_api_ErrNumber)], narrowed := true }
def WholeDividesUptoSaid : Prop := wholeDividesUptoRow.holds Tryd.pinned (OpenSpec.upto wholeDividesSpec)

end Rows
end Go.Proofs.YtfelogbfijomiaaDoor

/-
  NARROWER THAN 'FOR EVERY INPUT', by the rows' own cells (each row's printed sentence says how): WholeBack: laid · WholeWords: laid.
  DERIVED. THE GIVEN ROWS OF THIS SEAT. 2 by the template 'for every input the law returns true; each argument reads behind the call as it read before'; 0 by the template 'total and deterministic' (their statements: YtjbcjapgammbhacDoorTotals.lean).
  GIVEN WITH THE SEED: the statements are not yours to turn. If you find one false, say at which input.
  Laid BY PROGRAM, IN A SANDBOX (cutbox-rows.mjs): the forced cells as the released guide's own fill.sh prints them over the translation ebe3631518e637b4… (all of the seat's roots in one cut). By AI agents, Wed Nov 11 2026. No macro, syntax, notation, axiom, sorry.
-/
import Derived.Test.YtjbcjapgammbhacDoorChecked
import GoSem.Claim
import GoSem.ClaimJoined
import GoSem.ClaimMapViews
import Derived.JoinedTies
import Derived.KernelRfl
namespace Go.Proofs.YtjbcjapgammbhacDoor
/- THE CELL 'sum', in the pinned program and in every row, IS THE sha256 OF THE DUMP (.gsa) THAT YtjbcjapgammbhacDoorProg.lean LOADS. Nothing in Lean hashes anything: it is a label: what it is worth is what the hold of that sum in a sandbox is worth. -/
noncomputable def Tryd.pinned : Pinned := { name := "ytjbcjapgammbhacdoor", sum := "ebe3631518e637b4f8b88e697fc10bf560de00baed9600f188f61f43c01a0d0a", checked := Tryd.checked }
namespace Rows
def none {H : Type} : Left H := { results := [], args := [] }

/- WHAT THE LISTED PACKAGE-LEVEL VARIABLES READ AS WHEN THE CALL BEGINS. Each datum BY PROGRAM (the guide's laid-datum.mjs) off the statement by which the dump's own 'gosem.cut.vars' lays the variable. In a bare row this is a premise. The card (YtjbcjapgammbhacDoorCards.lean) ties it to the program's text. -/
def laid_vertex_api_ErrDivide {H : Type} : DataW H := .iface "*errors.errorString" (.ptr (.agg [.lit (.string [118, 101, 114, 116, 101, 120, 58, 32, 100, 105, 118, 105, 100, 101, 100, 32, 98, 121, 32, 110, 111, 117, 103, 104, 116])]))
def laid_vertex_api_ErrBelow {H : Type} : DataW H := .iface "*errors.errorString" (.ptr (.agg [.lit (.string [118, 101, 114, 116, 101, 120, 58, 32, 98, 101, 108, 111, 119, 32, 110, 111, 117, 103, 104, 116])]))
def laid_vertex_api_ErrNumber {H : Type} : DataW H := .iface "*errors.errorString" (.ptr (.agg [.lit (.string [118, 101, 114, 116, 101, 120, 58, 32, 110, 111, 32, 110, 117, 109, 98, 101, 114])]))

/-- 'vertexlaw02.WholeBack': WHATEVER THE INPUT: true; the input reads as it did. -/
def wholeBackSpec : ChangeSpec := { name := "wholeBack", fn := fun _ => fun
  | [d1, d2] => { results := [.lit (.bool true)], args := [d1, d2] }
  | _ => none }
def wholeBackRow : OpenClaim := { program := "ytjbcjapgammbhacdoor", sum := "ebe3631518e637b4f8b88e697fc10bf560de00baed9600f188f61f43c01a0d0a", func := "vertex/vertexlaw02.WholeBack", spec := "wholeBack", inPlace := ["math/bits.Add64", "math/bits.Sub64"], unfollowed := true, recurses := true, named := ["vertex/api.ErrNumber", "vertex/api.ErrDivide", "math/bits.divideError", "math/bits.overflowError", "vertex/api.ErrBelow"], apart := false, laid := [("vertex/api.ErrDivide", laid_vertex_api_ErrDivide), ("vertex/api.ErrBelow", laid_vertex_api_ErrBelow), ("vertex/api.ErrNumber", laid_vertex_api_ErrNumber)] }
def WholeBackSaid : Prop := wholeBackRow.holds Tryd.pinned (OpenSpec.ofChange wholeBackSpec)

/-- ITS FALSE NEIGHBOUR: 'it returns false'. Refute it at one input. -/
def wholeBackWrong : ChangeSpec := { name := "wholeBack", fn := fun _ => fun
  | [d1, d2] => { results := [.lit (.bool false)], args := [d1, d2] }
  | _ => none }
def WholeBackWrongFalsely : Prop := wholeBackRow.holds Tryd.pinned (OpenSpec.ofChange wholeBackWrong)

/-- 'vertexlaw02.WholeWords': WHATEVER THE INPUT: true; the input reads as it did. -/
def wholeWordsSpec : ChangeSpec := { name := "wholeWords", fn := fun _ => fun
  | [d1, d2] => { results := [.lit (.bool true)], args := [d1, d2] }
  | _ => none }
def wholeWordsRow : OpenClaim := { program := "ytjbcjapgammbhacdoor", sum := "ebe3631518e637b4f8b88e697fc10bf560de00baed9600f188f61f43c01a0d0a", func := "vertex/vertexlaw02.WholeWords", spec := "wholeWords", inPlace := ["math/bits.Add64", "math/bits.Sub64"], unfollowed := true, recurses := true, named := ["vertex/api.ErrDivide", "math/bits.divideError", "math/bits.overflowError", "vertex/api.ErrBelow", "vertex/api.ErrNumber"], apart := false, laid := [("vertex/api.ErrDivide", laid_vertex_api_ErrDivide), ("vertex/api.ErrBelow", laid_vertex_api_ErrBelow), ("vertex/api.ErrNumber", laid_vertex_api_ErrNumber)] }
def WholeWordsSaid : Prop := wholeWordsRow.holds Tryd.pinned (OpenSpec.ofChange wholeWordsSpec)

/-- ITS FALSE NEIGHBOUR: 'it returns false'. Refute it at one input. -/
def wholeWordsWrong : ChangeSpec := { name := "wholeWords", fn := fun _ => fun
  | [d1, d2] => { results := [.lit (.bool false)], args := [d1, d2] }
  | _ => none }
def WholeWordsWrongFalsely : Prop := wholeWordsRow.holds Tryd.pinned (OpenSpec.ofChange wholeWordsWrong)

/- THE SECOND FORM. 'bulk': how many values and letters a reading holds, each counted each time it is reached (what is shared counts as often as it is met; a slice's spare places count too). A statement '..UptoSaid' is the law's where the arguments, and the package variables that the reading takes, are together of bulk at most 1048576: NARROWER than '..Said'. Prove '..Said' where nothing that the law and all that it calls make is longer than what came in: it says more and counts as full. Else prove '..UptoSaid'. A law counts once. -/
mutual
def uptoBulk {H : Type} : DataW H → Nat
  | .lit (.string bytes) => bytes.length + 1
  | .lit _ => 1
  | .nil => 1
  | .ptr d => uptoBulk d + 1
  | .slice elems spare => uptoBulkAll elems + uptoBulkAll spare + 1
  | .agg parts => uptoBulkAll parts + 1
  | .iface _ d => uptoBulk d + 1
  | .map entries => uptoBulkEntries entries + 1
  | .held _ => 1
def uptoBulkAll {H : Type} : List (DataW H) → Nat
  | [] => 0
  | d :: r => uptoBulk d + uptoBulkAll r
def uptoBulkEntries {H : Type} : List (Lit × DataW H) → Nat
  | [] => 0
  | x :: r => uptoBulkEntry x + uptoBulkEntries r
def uptoBulkEntry {H : Type} : Lit × DataW H → Nat
  | (.string bytes, d) => bytes.length + uptoBulk d + 1
  | (_, d) => uptoBulk d + 1
 end
def uptoSmall : (H : Type) → List (DataW H) → Bool := fun _ ds => decide (uptoBulkAll ds ≤ 1048576)
def OpenSpec.upto (s : _root_.Go.ChangeSpec) : _root_.Go.OpenSpec := { _root_.Go.OpenSpec.ofChange s with cond := some uptoSmall }

/-- 'vertexlaw02.WholeBack', WHERE WHAT IT READS IS OF BULK AT MOST 1048576: true; the input reads as it did. -/
def wholeBackUptoRow : OpenClaim := { program := "ytjbcjapgammbhacdoor", sum := "ebe3631518e637b4f8b88e697fc10bf560de00baed9600f188f61f43c01a0d0a", func := "vertex/vertexlaw02.WholeBack", spec := "wholeBack", inPlace := ["math/bits.Add64", "math/bits.Sub64"], unfollowed := true, recurses := true, named := ["vertex/api.ErrNumber", "vertex/api.ErrDivide", "math/bits.divideError", "math/bits.overflowError", "vertex/api.ErrBelow"], apart := false, laid := [("vertex/api.ErrDivide", laid_vertex_api_ErrDivide), ("vertex/api.ErrBelow", laid_vertex_api_ErrBelow), ("vertex/api.ErrNumber", laid_vertex_api_ErrNumber)], narrowed := true }
def WholeBackUptoSaid : Prop := wholeBackUptoRow.holds Tryd.pinned (OpenSpec.upto wholeBackSpec)

/-- 'vertexlaw02.WholeWords', WHERE WHAT IT READS IS OF BULK AT MOST 1048576: true; the input reads as it did. -/
def wholeWordsUptoRow : OpenClaim := { program := "ytjbcjapgammbhacdoor", sum := "ebe3631518e637b4f8b88e697fc10bf560de00baed9600f188f61f43c01a0d0a", func := "vertex/vertexlaw02.WholeWords", spec := "wholeWords", inPlace := ["math/bits.Add64", "math/bits.Sub64"], unfollowed := true, recurses := true, named := ["vertex/api.ErrDivide", "math/bits.divideError", "math/bits.overflowError", "vertex/api.ErrBelow", "vertex/api.ErrNumber"], apart := false, laid := [("vertex/api.ErrDivide", laid_vertex_api_ErrDivide), ("vertex/api.ErrBelow", laid_vertex_api_ErrBelow), ("vertex/api.ErrNumber", laid_vertex_api_ErrNumber)], narrowed := true }
def WholeWordsUptoSaid : Prop := wholeWordsUptoRow.holds Tryd.pinned (OpenSpec.upto wholeWordsSpec)

end Rows
end Go.Proofs.YtjbcjapgammbhacDoor

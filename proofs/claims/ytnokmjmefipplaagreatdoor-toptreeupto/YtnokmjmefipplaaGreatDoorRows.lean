/-
  NARROWER THAN 'FOR EVERY INPUT', by the rows' own cells (each row's printed sentence says how): TopTree: laid.
  DERIVED. THE GIVEN ROWS OF THIS SEAT. 1 by the template 'for every input the law returns true; each argument reads behind the call as it read before'; 0 by the template 'total and deterministic' (their statements: YtnokmjmefipplaaGreatDoorTotals.lean).
  GIVEN WITH THE SEED: the statements are not yours to turn. If you find one false, say at which input.
  Laid BY PROGRAM, IN A SANDBOX (cutbox-rows.mjs): the forced cells as the released guide's own fill.sh prints them over the translation eb6d2b2db944c4c9… (all of the seat's roots in one cut). By AI agents, Wed Nov 11 2026. No macro, syntax, notation, axiom, sorry.
-/
import Derived.Test.YtnokmjmefipplaaGreatDoorChecked
import GoSem.Claim
import GoSem.ClaimJoined
import GoSem.ClaimMapViews
import Derived.JoinedTies
import Derived.KernelRfl
namespace Go.Proofs.YtnokmjmefipplaaGreatDoor
/- THE CELL 'sum', in the pinned program and in every row, IS THE sha256 OF THE DUMP (.gsa) THAT YtnokmjmefipplaaGreatDoorProg.lean LOADS. Nothing in Lean hashes anything: it is a label: what it is worth is what the hold of that sum in a sandbox is worth. -/
noncomputable def Tryz.pinned : Pinned := { name := "ytnokmjmefipplaagreatdoor", sum := "eb6d2b2db944c4c94ac92d041fd760378a4ee220c384d41f5e223cadfc0784ba", checked := Tryz.checked }
namespace Rows
def none {H : Type} : Left H := { results := [], args := [] }

/- WHAT THE LISTED PACKAGE-LEVEL VARIABLES READ AS WHEN THE CALL BEGINS. Each datum BY PROGRAM (the guide's laid-datum.mjs) off the statement by which the dump's own 'gosem.cut.vars' lays the variable. In a bare row this is a premise. The card (YtnokmjmefipplaaGreatDoorCards.lean) ties it to the program's text. -/
def laid_math_bits_deBruijn64tab {H : Type} : DataW H := .agg [.lit (.int .u8 0), .lit (.int .u8 1), .lit (.int .u8 56), .lit (.int .u8 2), .lit (.int .u8 57), .lit (.int .u8 49), .lit (.int .u8 28), .lit (.int .u8 3), .lit (.int .u8 61), .lit (.int .u8 58), .lit (.int .u8 42), .lit (.int .u8 50), .lit (.int .u8 38), .lit (.int .u8 29), .lit (.int .u8 17), .lit (.int .u8 4), .lit (.int .u8 62), .lit (.int .u8 47), .lit (.int .u8 59), .lit (.int .u8 36), .lit (.int .u8 45), .lit (.int .u8 43), .lit (.int .u8 51), .lit (.int .u8 22), .lit (.int .u8 53), .lit (.int .u8 39), .lit (.int .u8 33), .lit (.int .u8 30), .lit (.int .u8 24), .lit (.int .u8 18), .lit (.int .u8 12), .lit (.int .u8 5), .lit (.int .u8 63), .lit (.int .u8 55), .lit (.int .u8 48), .lit (.int .u8 27), .lit (.int .u8 60), .lit (.int .u8 41), .lit (.int .u8 37), .lit (.int .u8 16), .lit (.int .u8 46), .lit (.int .u8 35), .lit (.int .u8 44), .lit (.int .u8 21), .lit (.int .u8 52), .lit (.int .u8 32), .lit (.int .u8 23), .lit (.int .u8 11), .lit (.int .u8 54), .lit (.int .u8 26), .lit (.int .u8 40), .lit (.int .u8 15), .lit (.int .u8 34), .lit (.int .u8 20), .lit (.int .u8 31), .lit (.int .u8 10), .lit (.int .u8 25), .lit (.int .u8 14), .lit (.int .u8 19), .lit (.int .u8 9), .lit (.int .u8 13), .lit (.int .u8 8), .lit (.int .u8 7), .lit (.int .u8 6)]
def laid_vertex_api_ErrDivide {H : Type} : DataW H := .iface "*errors.errorString" (.ptr (.agg [.lit (.string [118, 101, 114, 116, 101, 120, 58, 32, 100, 105, 118, 105, 100, 101, 100, 32, 98, 121, 32, 110, 111, 117, 103, 104, 116])]))
def laid_vertex_api_ErrBelow {H : Type} : DataW H := .iface "*errors.errorString" (.ptr (.agg [.lit (.string [118, 101, 114, 116, 101, 120, 58, 32, 98, 101, 108, 111, 119, 32, 110, 111, 117, 103, 104, 116])]))
def laid_vertex_api_ErrShape {H : Type} : DataW H := .iface "*errors.errorString" (.ptr (.agg [.lit (.string [118, 101, 114, 116, 101, 120, 58, 32, 108, 105, 115, 116, 115, 32, 111, 102, 32, 119, 114, 111, 110, 103, 32, 108, 101, 110, 103, 116, 104, 115])]))
def laid_vertex_api_ErrPoint {H : Type} : DataW H := .iface "*errors.errorString" (.ptr (.agg [.lit (.string [118, 101, 114, 116, 101, 120, 58, 32, 116, 104, 101, 32, 112, 111, 105, 110, 116, 32, 98, 114, 101, 97, 107, 115, 32, 97, 32, 99, 111, 110, 100, 105, 116, 105, 111, 110])]))
def laid_vertex_api_ErrValue {H : Type} : DataW H := .iface "*errors.errorString" (.ptr (.agg [.lit (.string [118, 101, 114, 116, 101, 120, 58, 32, 116, 104, 101, 32, 118, 97, 108, 117, 101, 32, 105, 115, 32, 97, 110, 111, 116, 104, 101, 114, 32, 111, 110, 101])]))
def laid_vertex_api_ErrBound {H : Type} : DataW H := .iface "*errors.errorString" (.ptr (.agg [.lit (.string [118, 101, 114, 116, 101, 120, 58, 32, 116, 104, 101, 32, 109, 117, 108, 116, 105, 112, 108, 105, 101, 114, 115, 32, 112, 114, 111, 118, 101, 32, 108, 101, 115, 115])]))
def laid_vertex_api_ErrRay {H : Type} : DataW H := .iface "*errors.errorString" (.ptr (.agg [.lit (.string [118, 101, 114, 116, 101, 120, 58, 32, 110, 111, 32, 114, 97, 121])]))
def laid_vertex_api_ErrVerdict {H : Type} : DataW H := .iface "*errors.errorString" (.ptr (.agg [.lit (.string [118, 101, 114, 116, 101, 120, 58, 32, 110, 111, 32, 115, 117, 99, 104, 32, 118, 101, 114, 100, 105, 99, 116])]))
def laid_vertex_api_ErrOpen {H : Type} : DataW H := .iface "*errors.errorString" (.ptr (.agg [.lit (.string [118, 101, 114, 116, 101, 120, 58, 32, 97, 32, 119, 104, 111, 108, 101, 32, 118, 97, 114, 105, 97, 98, 108, 101, 32, 119, 105, 116, 104, 111, 117, 116, 32, 98, 111, 116, 104, 32, 98, 111, 117, 110, 100, 115])]))
def laid_vertex_api_ErrTree {H : Type} : DataW H := .iface "*errors.errorString" (.ptr (.agg [.lit (.string [118, 101, 114, 116, 101, 120, 58, 32, 110, 111, 32, 115, 117, 99, 104, 32, 116, 114, 101, 101])]))
def laid_vertex_api_ErrWhole {H : Type} : DataW H := .iface "*errors.errorString" (.ptr (.agg [.lit (.string [118, 101, 114, 116, 101, 120, 58, 32, 110, 111, 116, 32, 119, 104, 111, 108, 101])]))

/-- 'vertextop.TopTree': WHATEVER THE INPUT: true; the input reads as it did. -/
def topTreeSpec : ChangeSpec := { name := "topTree", fn := fun _ => fun
  | [d1, d2, d3, d4] => { results := [.lit (.bool true)], args := [d1, d2, d3, d4] }
  | _ => none }
def topTreeRow : OpenClaim := { program := "ytnokmjmefipplaagreatdoor", sum := "eb6d2b2db944c4c94ac92d041fd760378a4ee220c384d41f5e223cadfc0784ba", func := "vertex/vertextop.TopTree", spec := "topTree", inPlace := ["math/bits.Add64", "math/bits.Sub64"], unfollowed := true, recurses := true, named := ["vertex/api.ErrOpen", "vertex/api.ErrVerdict", "vertex/api.ErrValue", "vertex/api.ErrShape", "vertex/api.ErrPoint", "vertex/api.ErrWhole", "math/bits.deBruijn64tab", "vertex/api.ErrDivide", "math/bits.divideError", "math/bits.overflowError", "vertex/api.ErrBelow", "vertex/api.ErrTree", "vertex/api.ErrBound", "vertex/api.ErrRay"], apart := false, laid := [("math/bits.deBruijn64tab", laid_math_bits_deBruijn64tab), ("vertex/api.ErrDivide", laid_vertex_api_ErrDivide), ("vertex/api.ErrBelow", laid_vertex_api_ErrBelow), ("vertex/api.ErrShape", laid_vertex_api_ErrShape), ("vertex/api.ErrPoint", laid_vertex_api_ErrPoint), ("vertex/api.ErrValue", laid_vertex_api_ErrValue), ("vertex/api.ErrBound", laid_vertex_api_ErrBound), ("vertex/api.ErrRay", laid_vertex_api_ErrRay), ("vertex/api.ErrVerdict", laid_vertex_api_ErrVerdict), ("vertex/api.ErrOpen", laid_vertex_api_ErrOpen), ("vertex/api.ErrTree", laid_vertex_api_ErrTree), ("vertex/api.ErrWhole", laid_vertex_api_ErrWhole)] }
def TopTreeSaid : Prop := topTreeRow.holds Tryz.pinned (OpenSpec.ofChange topTreeSpec)

/-- ITS FALSE NEIGHBOUR: 'it returns false'. Refute it at one input. -/
def topTreeWrong : ChangeSpec := { name := "topTree", fn := fun _ => fun
  | [d1, d2, d3, d4] => { results := [.lit (.bool false)], args := [d1, d2, d3, d4] }
  | _ => none }
def TopTreeWrongFalsely : Prop := topTreeRow.holds Tryz.pinned (OpenSpec.ofChange topTreeWrong)

/- THE SECOND FORM. 'bulk': how many values and letters a reading holds, each counted each time it is reached (what is shared counts as often as it is met; a slice's spare places count too). A statement '..UptoSaid' is the law's where the arguments, and the package variables that the reading takes, are together of bulk at most 1048576: NARROWER than '..Said'. Prove '..Said' where nothing that the law and all that it calls make is longer than what came in: it says more and counts as full. Else prove '..UptoSaid'. A law counts once. -/
mutual
def uptoBulk {H : Type} : DataW H → Nat
  | .lit (.string bytes) => bytes.length + 1
  | .lit _ => 1
  | .nil => 1
  | .ptr d => uptoBulk d + 1
  | .slice elems spare => uptoBulkAll elems + uptoBulkAll spare + 1
  | .agg parts => uptoBulkAll parts + 1
  | .iface _ d => uptoBulk d + 1
  | .map entries => uptoBulkEntries entries + 1
  | .held _ => 1
def uptoBulkAll {H : Type} : List (DataW H) → Nat
  | [] => 0
  | d :: r => uptoBulk d + uptoBulkAll r
def uptoBulkEntries {H : Type} : List (Lit × DataW H) → Nat
  | [] => 0
  | x :: r => uptoBulkEntry x + uptoBulkEntries r
def uptoBulkEntry {H : Type} : Lit × DataW H → Nat
  | (.string bytes, d) => bytes.length + uptoBulk d + 1
  | (_, d) => uptoBulk d + 1
 end
def uptoSmall : (H : Type) → List (DataW H) → Bool := fun _ ds => decide (uptoBulkAll ds ≤ 1048576)
def OpenSpec.upto (s : _root_.Go.ChangeSpec) : _root_.Go.OpenSpec := { _root_.Go.OpenSpec.ofChange s with cond := some uptoSmall }

/-- 'vertextop.TopTree', WHERE WHAT IT READS IS OF BULK AT MOST 1048576: true; the input reads as it did. -/
def topTreeUptoRow : OpenClaim := { program := "ytnokmjmefipplaagreatdoor", sum := "eb6d2b2db944c4c94ac92d041fd760378a4ee220c384d41f5e223cadfc0784ba", func := "vertex/vertextop.TopTree", spec := "topTree", inPlace := ["math/bits.Add64", "math/bits.Sub64"], unfollowed := true, recurses := true, named := ["vertex/api.ErrOpen", "vertex/api.ErrVerdict", "vertex/api.ErrValue", "vertex/api.ErrShape", "vertex/api.ErrPoint", "vertex/api.ErrWhole", "math/bits.deBruijn64tab", "vertex/api.ErrDivide", "math/bits.divideError", "math/bits.overflowError", "vertex/api.ErrBelow", "vertex/api.ErrTree", "vertex/api.ErrBound", "vertex/api.ErrRay"], apart := false, laid := [("math/bits.deBruijn64tab", laid_math_bits_deBruijn64tab), ("vertex/api.ErrDivide", laid_vertex_api_ErrDivide), ("vertex/api.ErrBelow", laid_vertex_api_ErrBelow), ("vertex/api.ErrShape", laid_vertex_api_ErrShape), ("vertex/api.ErrPoint", laid_vertex_api_ErrPoint), ("vertex/api.ErrValue", laid_vertex_api_ErrValue), ("vertex/api.ErrBound", laid_vertex_api_ErrBound), ("vertex/api.ErrRay", laid_vertex_api_ErrRay), ("vertex/api.ErrVerdict", laid_vertex_api_ErrVerdict), ("vertex/api.ErrOpen", laid_vertex_api_ErrOpen), ("vertex/api.ErrTree", laid_vertex_api_ErrTree), ("vertex/api.ErrWhole", laid_vertex_api_ErrWhole)], narrowed := true }
def TopTreeUptoSaid : Prop := topTreeUptoRow.holds Tryz.pinned (OpenSpec.upto topTreeSpec)

end Rows
end Go.Proofs.YtnokmjmefipplaaGreatDoor

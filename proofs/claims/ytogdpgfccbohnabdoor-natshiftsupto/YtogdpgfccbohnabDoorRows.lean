/-
  NARROWER THAN 'FOR EVERY INPUT', by the rows' own cells (each row's printed sentence says how): NatShifts: laid · NatPowers: laid · NatChooses: laid · NatReads: laid · NatTells: laid · NatRing: laid.
  DERIVED. THE GIVEN ROWS OF THIS SEAT. 6 by the template 'for every input the law returns true; each argument reads behind the call as it read before'; 0 by the template 'total and deterministic' (their statements: YtogdpgfccbohnabDoorTotals.lean).
  GIVEN WITH THE SEED: the statements are not yours to turn. If you find one false, say at which input.
  Laid BY PROGRAM, IN A SANDBOX (cutbox-rows.mjs): the forced cells as the released guide's own fill.sh prints them over the translation a8b26a391556f8b0… (all of the seat's roots in one cut). By AI agents, Wed Nov 11 2026. No macro, syntax, notation, axiom, sorry.
-/
import Derived.Test.YtogdpgfccbohnabDoorChecked
import GoSem.Claim
import GoSem.ClaimJoined
import GoSem.ClaimMapViews
import Derived.JoinedTies
import Derived.KernelRfl
namespace Go.Proofs.YtogdpgfccbohnabDoor
/- THE CELL 'sum', in the pinned program and in every row, IS THE sha256 OF THE DUMP (.gsa) THAT YtogdpgfccbohnabDoorProg.lean LOADS. Nothing in Lean hashes anything: it is a label: what it is worth is what the hold of that sum in a sandbox is worth. -/
noncomputable def Tryd.pinned : Pinned := { name := "ytogdpgfccbohnabdoor", sum := "a8b26a391556f8b0b9e084c85d2d2683a8119df56bc8d9e1b4479471f07b11ea", checked := Tryd.checked }
namespace Rows
def none {H : Type} : Left H := { results := [], args := [] }

/- WHAT THE LISTED PACKAGE-LEVEL VARIABLES READ AS WHEN THE CALL BEGINS. Each datum BY PROGRAM (the guide's laid-datum.mjs) off the statement by which the dump's own 'gosem.cut.vars' lays the variable. In a bare row this is a premise. The card (YtogdpgfccbohnabDoorCards.lean) ties it to the program's text. -/
def laid_vertex_api_ErrArg {H : Type} : DataW H := .iface "*errors.errorString" (.ptr (.agg [.lit (.string [118, 101, 114, 116, 101, 120, 58, 32, 97, 110, 32, 97, 114, 103, 117, 109, 101, 110, 116, 32, 116, 104, 97, 116, 32, 109, 97, 121, 32, 110, 111, 116, 32, 98, 101])]))
def laid_vertex_api_ErrLong {H : Type} : DataW H := .iface "*errors.errorString" (.ptr (.agg [.lit (.string [118, 101, 114, 116, 101, 120, 58, 32, 97, 98, 111, 118, 101, 32, 97, 32, 98, 111, 117, 110, 100])]))
def laid_vertex_api_ErrDivide {H : Type} : DataW H := .iface "*errors.errorString" (.ptr (.agg [.lit (.string [118, 101, 114, 116, 101, 120, 58, 32, 100, 105, 118, 105, 100, 101, 100, 32, 98, 121, 32, 110, 111, 117, 103, 104, 116])]))
def laid_vertex_api_ErrNumber {H : Type} : DataW H := .iface "*errors.errorString" (.ptr (.agg [.lit (.string [118, 101, 114, 116, 101, 120, 58, 32, 110, 111, 32, 110, 117, 109, 98, 101, 114])]))
def laid_vertex_api_ErrBelow {H : Type} : DataW H := .iface "*errors.errorString" (.ptr (.agg [.lit (.string [118, 101, 114, 116, 101, 120, 58, 32, 98, 101, 108, 111, 119, 32, 110, 111, 117, 103, 104, 116])]))

/-- 'vertexlaw01.NatShifts': WHATEVER THE INPUT: true; the input reads as it did. -/
def natShiftsSpec : ChangeSpec := { name := "natShifts", fn := fun _ => fun
  | [d1, d2] => { results := [.lit (.bool true)], args := [d1, d2] }
  | _ => none }
def natShiftsRow : OpenClaim := { program := "ytogdpgfccbohnabdoor", sum := "a8b26a391556f8b0b9e084c85d2d2683a8119df56bc8d9e1b4479471f07b11ea", func := "vertex/vertexlaw01.NatShifts", spec := "natShifts", inPlace := ["math/bits.Add64", "math/bits.Sub64"], named := ["vertex/api.ErrArg", "vertex/api.ErrLong", "vertex/api.ErrDivide", "math/bits.divideError", "math/bits.overflowError"], apart := false, laid := [("vertex/api.ErrArg", laid_vertex_api_ErrArg), ("vertex/api.ErrLong", laid_vertex_api_ErrLong), ("vertex/api.ErrDivide", laid_vertex_api_ErrDivide)] }
def NatShiftsSaid : Prop := natShiftsRow.holds Tryd.pinned (OpenSpec.ofChange natShiftsSpec)

/-- ITS FALSE NEIGHBOUR: 'it returns false'. Refute it at one input. -/
def natShiftsWrong : ChangeSpec := { name := "natShifts", fn := fun _ => fun
  | [d1, d2] => { results := [.lit (.bool false)], args := [d1, d2] }
  | _ => none }
def NatShiftsWrongFalsely : Prop := natShiftsRow.holds Tryd.pinned (OpenSpec.ofChange natShiftsWrong)

/-- 'vertexlaw01.NatPowers': WHATEVER THE INPUT: true; the input reads as it did. -/
def natPowersSpec : ChangeSpec := { name := "natPowers", fn := fun _ => fun
  | [d1, d2] => { results := [.lit (.bool true)], args := [d1, d2] }
  | _ => none }
def natPowersRow : OpenClaim := { program := "ytogdpgfccbohnabdoor", sum := "a8b26a391556f8b0b9e084c85d2d2683a8119df56bc8d9e1b4479471f07b11ea", func := "vertex/vertexlaw01.NatPowers", spec := "natPowers", inPlace := ["math/bits.Add64", "math/bits.Sub64"], named := ["vertex/api.ErrArg", "vertex/api.ErrLong", "vertex/api.ErrDivide", "math/bits.divideError", "math/bits.overflowError"], apart := false, laid := [("vertex/api.ErrArg", laid_vertex_api_ErrArg), ("vertex/api.ErrLong", laid_vertex_api_ErrLong), ("vertex/api.ErrDivide", laid_vertex_api_ErrDivide)] }
def NatPowersSaid : Prop := natPowersRow.holds Tryd.pinned (OpenSpec.ofChange natPowersSpec)

/-- ITS FALSE NEIGHBOUR: 'it returns false'. Refute it at one input. -/
def natPowersWrong : ChangeSpec := { name := "natPowers", fn := fun _ => fun
  | [d1, d2] => { results := [.lit (.bool false)], args := [d1, d2] }
  | _ => none }
def NatPowersWrongFalsely : Prop := natPowersRow.holds Tryd.pinned (OpenSpec.ofChange natPowersWrong)

/-- 'vertexlaw01.NatChooses': WHATEVER THE INPUT: true; the input reads as it did. -/
def natChoosesSpec : ChangeSpec := { name := "natChooses", fn := fun _ => fun
  | [d1, d2] => { results := [.lit (.bool true)], args := [d1, d2] }
  | _ => none }
def natChoosesRow : OpenClaim := { program := "ytogdpgfccbohnabdoor", sum := "a8b26a391556f8b0b9e084c85d2d2683a8119df56bc8d9e1b4479471f07b11ea", func := "vertex/vertexlaw01.NatChooses", spec := "natChooses", inPlace := ["math/bits.Add64", "math/bits.Sub64"], named := ["vertex/api.ErrArg", "vertex/api.ErrLong", "vertex/api.ErrDivide", "math/bits.divideError", "math/bits.overflowError"], apart := false, laid := [("vertex/api.ErrArg", laid_vertex_api_ErrArg), ("vertex/api.ErrLong", laid_vertex_api_ErrLong), ("vertex/api.ErrDivide", laid_vertex_api_ErrDivide)] }
def NatChoosesSaid : Prop := natChoosesRow.holds Tryd.pinned (OpenSpec.ofChange natChoosesSpec)

/-- ITS FALSE NEIGHBOUR: 'it returns false'. Refute it at one input. -/
def natChoosesWrong : ChangeSpec := { name := "natChooses", fn := fun _ => fun
  | [d1, d2] => { results := [.lit (.bool false)], args := [d1, d2] }
  | _ => none }
def NatChoosesWrongFalsely : Prop := natChoosesRow.holds Tryd.pinned (OpenSpec.ofChange natChoosesWrong)

/-- 'vertexlaw01.NatReads': WHATEVER THE INPUT: true; the input reads as it did. -/
def natReadsSpec : ChangeSpec := { name := "natReads", fn := fun _ => fun
  | [d] => { results := [.lit (.bool true)], args := [d] }
  | _ => none }
def natReadsRow : OpenClaim := { program := "ytogdpgfccbohnabdoor", sum := "a8b26a391556f8b0b9e084c85d2d2683a8119df56bc8d9e1b4479471f07b11ea", func := "vertex/vertexlaw01.NatReads", spec := "natReads", inPlace := ["math/bits.Add64", "math/bits.Sub64"], named := ["vertex/api.ErrNumber", "vertex/api.ErrDivide", "math/bits.divideError", "math/bits.overflowError"], apart := false, laid := [("vertex/api.ErrDivide", laid_vertex_api_ErrDivide), ("vertex/api.ErrNumber", laid_vertex_api_ErrNumber)] }
def NatReadsSaid : Prop := natReadsRow.holds Tryd.pinned (OpenSpec.ofChange natReadsSpec)

/-- ITS FALSE NEIGHBOUR: 'it returns false'. Refute it at one input. -/
def natReadsWrong : ChangeSpec := { name := "natReads", fn := fun _ => fun
  | [d] => { results := [.lit (.bool false)], args := [d] }
  | _ => none }
def NatReadsWrongFalsely : Prop := natReadsRow.holds Tryd.pinned (OpenSpec.ofChange natReadsWrong)

/-- 'vertexlaw01.NatTells': WHATEVER THE INPUT: true; the input reads as it did. -/
def natTellsSpec : ChangeSpec := { name := "natTells", fn := fun _ => fun
  | [d1, d2] => { results := [.lit (.bool true)], args := [d1, d2] }
  | _ => none }
def natTellsRow : OpenClaim := { program := "ytogdpgfccbohnabdoor", sum := "a8b26a391556f8b0b9e084c85d2d2683a8119df56bc8d9e1b4479471f07b11ea", func := "vertex/vertexlaw01.NatTells", spec := "natTells", inPlace := ["math/bits.Add64", "math/bits.Sub64"], unfollowed := true, recurses := true, named := ["math/bits.divideError", "math/bits.overflowError", "vertex/api.ErrDivide"], apart := false, laid := [("vertex/api.ErrDivide", laid_vertex_api_ErrDivide)] }
def NatTellsSaid : Prop := natTellsRow.holds Tryd.pinned (OpenSpec.ofChange natTellsSpec)

/-- ITS FALSE NEIGHBOUR: 'it returns false'. Refute it at one input. -/
def natTellsWrong : ChangeSpec := { name := "natTells", fn := fun _ => fun
  | [d1, d2] => { results := [.lit (.bool false)], args := [d1, d2] }
  | _ => none }
def NatTellsWrongFalsely : Prop := natTellsRow.holds Tryd.pinned (OpenSpec.ofChange natTellsWrong)

/-- 'vertexlaw01.NatRing': WHATEVER THE INPUT: true; the input reads as it did. -/
def natRingSpec : ChangeSpec := { name := "natRing", fn := fun _ => fun
  | [d1, d2, d3] => { results := [.lit (.bool true)], args := [d1, d2, d3] }
  | _ => none }
def natRingRow : OpenClaim := { program := "ytogdpgfccbohnabdoor", sum := "a8b26a391556f8b0b9e084c85d2d2683a8119df56bc8d9e1b4479471f07b11ea", func := "vertex/vertexlaw01.NatRing", spec := "natRing", inPlace := ["math/bits.Add64", "math/bits.Sub64"], named := ["vertex/api.ErrDivide", "math/bits.divideError", "math/bits.overflowError", "vertex/api.ErrBelow"], apart := false, laid := [("vertex/api.ErrDivide", laid_vertex_api_ErrDivide), ("vertex/api.ErrBelow", laid_vertex_api_ErrBelow)] }
def NatRingSaid : Prop := natRingRow.holds Tryd.pinned (OpenSpec.ofChange natRingSpec)

/-- ITS FALSE NEIGHBOUR: 'it returns false'. Refute it at one input. -/
def natRingWrong : ChangeSpec := { name := "natRing", fn := fun _ => fun
  | [d1, d2, d3] => { results := [.lit (.bool false)], args := [d1, d2, d3] }
  | _ => none }
def NatRingWrongFalsely : Prop := natRingRow.holds Tryd.pinned (OpenSpec.ofChange natRingWrong)

/- THE SECOND FORM. 'bulk': how many values and letters a reading holds, each counted each time it is reached (what is shared counts as often as it is met; a slice's spare places count too). A statement '..UptoSaid' is the law's where the arguments, and the package variables that the reading takes, are together of bulk at most 1048576: NARROWER than '..Said'. Prove '..Said' where nothing that the law and all that it calls make is longer than what came in: it says more and counts as full. Else prove '..UptoSaid'. A law counts once. -/
mutual
def uptoBulk {H : Type} : DataW H → Nat
  | .lit (.string bytes) => bytes.length + 1
  | .lit _ => 1
  | .nil => 1
  | .ptr d => uptoBulk d + 1
  | .slice elems spare => uptoBulkAll elems + uptoBulkAll spare + 1
  | .agg parts => uptoBulkAll parts + 1
  | .iface _ d => uptoBulk d + 1
  | .map entries => uptoBulkEntries entries + 1
  | .held _ => 1
def uptoBulkAll {H : Type} : List (DataW H) → Nat
  | [] => 0
  | d :: r => uptoBulk d + uptoBulkAll r
def uptoBulkEntries {H : Type} : List (Lit × DataW H) → Nat
  | [] => 0
  | x :: r => uptoBulkEntry x + uptoBulkEntries r
def uptoBulkEntry {H : Type} : Lit × DataW H → Nat
  | (.string bytes, d) => bytes.length + uptoBulk d + 1
  | (_, d) => uptoBulk d + 1
 end
def uptoSmall : (H : Type) → List (DataW H) → Bool := fun _ ds => decide (uptoBulkAll ds ≤ 1048576)
def OpenSpec.upto (s : _root_.Go.ChangeSpec) : _root_.Go.OpenSpec := { _root_.Go.OpenSpec.ofChange s with cond := some uptoSmall }

/-- 'vertexlaw01.NatShifts', WHERE WHAT IT READS IS OF BULK AT MOST 1048576: true; the input reads as it did. -/
def natShiftsUptoRow : OpenClaim := { program := "ytogdpgfccbohnabdoor", sum := "a8b26a391556f8b0b9e084c85d2d2683a8119df56bc8d9e1b4479471f07b11ea", func := "vertex/vertexlaw01.NatShifts", spec := "natShifts", inPlace := ["math/bits.Add64", "math/bits.Sub64"], named := ["vertex/api.ErrArg", "vertex/api.ErrLong", "vertex/api.ErrDivide", "math/bits.divideError", "math/bits.overflowError"], apart := false, laid := [("vertex/api.ErrArg", laid_vertex_api_ErrArg), ("vertex/api.ErrLong", laid_vertex_api_ErrLong), ("vertex/api.ErrDivide", laid_vertex_api_ErrDivide)], narrowed := true }
def NatShiftsUptoSaid : Prop := natShiftsUptoRow.holds Tryd.pinned (OpenSpec.upto natShiftsSpec)

/-- 'vertexlaw01.NatPowers', WHERE WHAT IT READS IS OF BULK AT MOST 1048576: true; the input reads as it did. -/
def natPowersUptoRow : OpenClaim := { program := "ytogdpgfccbohnabdoor", sum := "a8b26a391556f8b0b9e084c85d2d2683a8119df56bc8d9e1b4479471f07b11ea", func := "vertex/vertexlaw01.NatPowers", spec := "natPowers", inPlace := ["math/bits.Add64", "math/bits.Sub64"], named := ["vertex/api.ErrArg", "vertex/api.ErrLong", "vertex/api.ErrDivide", "math/bits.divideError", "math/bits.overflowError"], apart := false, laid := [("vertex/api.ErrArg", laid_vertex_api_ErrArg), ("vertex/api.ErrLong", laid_vertex_api_ErrLong), ("vertex/api.ErrDivide", laid_vertex_api_ErrDivide)], narrowed := true }
def NatPowersUptoSaid : Prop := natPowersUptoRow.holds Tryd.pinned (OpenSpec.upto natPowersSpec)

/-- 'vertexlaw01.NatChooses', WHERE WHAT IT READS IS OF BULK AT MOST 1048576: true; the input reads as it did. -/
def natChoosesUptoRow : OpenClaim := { program := "ytogdpgfccbohnabdoor", sum := "a8b26a391556f8b0b9e084c85d2d2683a8119df56bc8d9e1b4479471f07b11ea", func := "vertex/vertexlaw01.NatChooses", spec := "natChooses", inPlace := ["math/bits.Add64", "math/bits.Sub64"], named := ["vertex/api.ErrArg", "vertex/api.ErrLong", "vertex/api.ErrDivide", "math/bits.divideError", "math/bits.overflowError"], apart := false, laid := [("vertex/api.ErrArg", laid_vertex_api_ErrArg), ("vertex/api.ErrLong", laid_vertex_api_ErrLong), ("vertex/api.ErrDivide", laid_vertex_api_ErrDivide)], narrowed := true }
def NatChoosesUptoSaid : Prop := natChoosesUptoRow.holds Tryd.pinned (OpenSpec.upto natChoosesSpec)

/-- 'vertexlaw01.NatReads', WHERE WHAT IT READS IS OF BULK AT MOST 1048576: true; the input reads as it did. -/
def natReadsUptoRow : OpenClaim := { program := "ytogdpgfccbohnabdoor", sum := "a8b26a391556f8b0b9e084c85d2d2683a8119df56bc8d9e1b4479471f07b11ea", func := "vertex/vertexlaw01.NatReads", spec := "natReads", inPlace := ["math/bits.Add64", "math/bits.Sub64"], named := ["vertex/api.ErrNumber", "vertex/api.ErrDivide", "math/bits.divideError", "math/bits.overflowError"], apart := false, laid := [("vertex/api.ErrDivide", laid_vertex_api_ErrDivide), ("vertex/api.ErrNumber", laid_vertex_api_ErrNumber)], narrowed := true }
def NatReadsUptoSaid : Prop := natReadsUptoRow.holds Tryd.pinned (OpenSpec.upto natReadsSpec)

/-- 'vertexlaw01.NatTells', WHERE WHAT IT READS IS OF BULK AT MOST 1048576: true; the input reads as it did. -/
def natTellsUptoRow : OpenClaim := { program := "ytogdpgfccbohnabdoor", sum := "a8b26a391556f8b0b9e084c85d2d2683a8119df56bc8d9e1b4479471f07b11ea", func := "vertex/vertexlaw01.NatTells", spec := "natTells", inPlace := ["math/bits.Add64", "math/bits.Sub64"], unfollowed := true, recurses := true, named := ["math/bits.divideError", "math/bits.overflowError", "vertex/api.ErrDivide"], apart := false, laid := [("vertex/api.ErrDivide", laid_vertex_api_ErrDivide)], narrowed := true }
def NatTellsUptoSaid : Prop := natTellsUptoRow.holds Tryd.pinned (OpenSpec.upto natTellsSpec)

/-- 'vertexlaw01.NatRing', WHERE WHAT IT READS IS OF BULK AT MOST 1048576: true; the input reads as it did. -/
def natRingUptoRow : OpenClaim := { program := "ytogdpgfccbohnabdoor", sum := "a8b26a391556f8b0b9e084c85d2d2683a8119df56bc8d9e1b4479471f07b11ea", func := "vertex/vertexlaw01.NatRing", spec := "natRing", inPlace := ["math/bits.Add64", "math/bits.Sub64"], named := ["vertex/api.ErrDivide", "math/bits.divideError", "math/bits.overflowError", "vertex/api.ErrBelow"], apart := false, laid := [("vertex/api.ErrDivide", laid_vertex_api_ErrDivide), ("vertex/api.ErrBelow", laid_vertex_api_ErrBelow)], narrowed := true }
def NatRingUptoSaid : Prop := natRingUptoRow.holds Tryd.pinned (OpenSpec.upto natRingSpec)

end Rows
end Go.Proofs.YtogdpgfccbohnabDoor

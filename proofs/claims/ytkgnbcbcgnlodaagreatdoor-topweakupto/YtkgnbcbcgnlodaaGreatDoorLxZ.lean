import Derived.Shelf.Strconv.Clone
import Derived.Test.YtkgnbcbcgnlodaaGreatDoorRatAll
namespace Go.Proofs.YtkgnbcbcgnlodaaGreatDoor
open Go.RowKit Go.Shelf

def cloneRen : Ren := ⟨fun | 316 => 92 | n => n, fun | 5 => 5 | 9 => 9 | 3 => 3 | 4 => 4 | 37 => 148 | 127 => 149 | n => n, fun n => n⟩
theorem lays316 : LaysM.n316 Tryz.prog cloneRen := {
  mixed := by kernel_rfl
  f316 := Tryz.func92.trans (congrArg some (by kernel_rfl))
  t0 := Tryz.underlying0
  a0 := Tryz.isAgg0
  z0 := Tryz.sizeOf0
  v0 := Tryz.zeroValue0
  t3 := Tryz.underlying3
  a3 := Tryz.isAgg3
  z3 := Tryz.sizeOf3
  v3 := Tryz.zeroValue3
  t4 := Tryz.underlying4
  a4 := Tryz.isAgg4
  z4 := Tryz.sizeOf4
  v4 := Tryz.zeroValue4
  t5 := Tryz.underlying5
  a5 := Tryz.isAgg5
  z5 := Tryz.sizeOf5
  v5 := Tryz.zeroValue5
  t9 := Tryz.underlying9
  a9 := Tryz.isAgg9
  z9 := Tryz.sizeOf9
  v9 := Tryz.zeroValue9
  t37 := Tryz.underlying148
  a37 := Tryz.isAgg148
  z37 := Tryz.sizeOf148
  v37 := Tryz.zeroValue148
  t127 := Tryz.underlying149
  a127 := Tryz.isAgg149
  z127 := Tryz.sizeOf149
  v127 := Tryz.zeroValue149
  i0 := by kernel_rfl
  i3 := by kernel_rfl
  i4 := by kernel_rfl
  i5 := by kernel_rfl
  i9 := by kernel_rfl
  i37 := by kernel_rfl
  i127 := by kernel_rfl }
/-- strings.Clone -/
theorem cloneQ (s : ByteArray) (w : World) (hs : s.size ≤ 1000000000) : Calls Tryz.prog 53 #[.string s] w fun e w' => e = .returned (.string s) ∧ Below w.heap.size w w' := by
  have HC := fun u => Any.stringslite_Clone lays316 s u (by omega)
  change ∀ u, Calls Tryz.prog 92 _ u _ at HC
  go_enter Tryz.func53, Tryz.ntmps53
  go_wp2_with fail
  refine (HC _).mono ?_
  rintro e w1 ⟨rfl, hb⟩
  go_wp2
  go_ret
  exact ⟨rfl, hb⟩
end Go.Proofs.YtkgnbcbcgnlodaaGreatDoor

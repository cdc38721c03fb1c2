import Derived.Shelf.Strconv.Clone
import Derived.Test.YtlfobaanbmfafaaGreatDoorRatAll
namespace Go.Proofs.YtlfobaanbmfafaaGreatDoor
open Go.RowKit Go.Shelf

def cloneRen : Ren := ⟨fun | 316 => 86 | n => n, fun | 5 => 5 | 9 => 9 | 3 => 3 | 4 => 4 | 37 => 140 | 127 => 141 | n => n, fun n => n⟩
theorem lays316 : LaysM.n316 Tryz.prog cloneRen := {
  mixed := by kernel_rfl
  f316 := Tryz.func86.trans (congrArg some (by kernel_rfl))
  t0 := Tryz.underlying0
  a0 := Tryz.isAgg0
  z0 := Tryz.sizeOf0
  v0 := Tryz.zeroValue0
  t3 := Tryz.underlying3
  a3 := Tryz.isAgg3
  z3 := Tryz.sizeOf3
  v3 := Tryz.zeroValue3
  t4 := Tryz.underlying4
  a4 := Tryz.isAgg4
  z4 := Tryz.sizeOf4
  v4 := Tryz.zeroValue4
  t5 := Tryz.underlying5
  a5 := Tryz.isAgg5
  z5 := Tryz.sizeOf5
  v5 := Tryz.zeroValue5
  t9 := Tryz.underlying9
  a9 := Tryz.isAgg9
  z9 := Tryz.sizeOf9
  v9 := Tryz.zeroValue9
  t37 := Tryz.underlying140
  a37 := Tryz.isAgg140
  z37 := Tryz.sizeOf140
  v37 := Tryz.zeroValue140
  t127 := Tryz.underlying141
  a127 := Tryz.isAgg141
  z127 := Tryz.sizeOf141
  v127 := Tryz.zeroValue141
  i0 := by kernel_rfl
  i3 := by kernel_rfl
  i4 := by kernel_rfl
  i5 := by kernel_rfl
  i9 := by kernel_rfl
  i37 := by kernel_rfl
  i127 := by kernel_rfl }
/-- strings.Clone -/
theorem cloneQ (s : ByteArray) (w : World) (hs : s.size ≤ 1000000000) : Calls Tryz.prog 54 #[.string s] w fun e w' => e = .returned (.string s) ∧ Below w.heap.size w w' := by
  have HC := fun u => Any.stringslite_Clone lays316 s u (by omega)
  change ∀ u, Calls Tryz.prog 86 _ u _ at HC
  go_enter Tryz.func54, Tryz.ntmps54
  go_wp2_with fail
  refine (HC _).mono ?_
  rintro e w1 ⟨rfl, hb⟩
  go_wp2
  go_ret
  exact ⟨rfl, hb⟩
end Go.Proofs.YtlfobaanbmfafaaGreatDoor

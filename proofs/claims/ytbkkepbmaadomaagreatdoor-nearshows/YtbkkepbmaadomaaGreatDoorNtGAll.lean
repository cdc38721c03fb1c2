import Derived.Shelf.Strconv.Itoa3
import Derived.Test.YtbkkepbmaadomaaGreatDoorProg
import Derived.Test.YtbkkepbmaadomaaGreatDoorNtCAll
import Derived.Test.YtbkkepbmaadomaaGreatDoorR4DAll
import Derived.Lib.AppendIntMem
import Derived.Test.YtbkkepbmaadomaaGreatDoorNrNAll
import Derived.Test.YtbkkepbmaadomaaGreatDoorNsAll
namespace Go.Proofs
open Go.Shelf
def Tryz.lays283_ren : Go.Shelf.Ren := ⟨fun | 283 => 118 | n => n, fun | 3 => 3 | 9 => 9 | 4 => 4 | n => n, fun | n => n⟩
theorem Tryz.lays283 : Go.Proofs.Lays.n283 Tryz.prog Tryz.lays283_ren := {
  mixed := by kernel_rfl
  f283 := Tryz.func118.trans (congrArg some (by kernel_rfl))
  t3 := Tryz.underlying3
  a3 := Tryz.isAgg3
  z3 := Tryz.sizeOf3
  v3 := Tryz.zeroValue3
  t4 := Tryz.underlying4
  a4 := Tryz.isAgg4
  z4 := Tryz.sizeOf4
  v4 := Tryz.zeroValue4
  t9 := Tryz.underlying9
  a9 := Tryz.isAgg9
  z9 := Tryz.sizeOf9
  v9 := Tryz.zeroValue9 }
def Tryz.laysM284_ren : Go.Shelf.Ren := ⟨fun | 284 => 119 | 129 => 112 | 317 => 138 | 318 => 139 | n => n, fun | 53 => 22 | 3 => 3 | 212 => 161 | 0 => 0 | 4 => 4 | 46 => 95 | 5 => 5 | 9 => 9 | n => n, fun | 17 => 7 | n => n⟩
theorem Tryz.laysM284 : Go.Proofs.LaysM.n284 Tryz.prog Tryz.laysM284_ren := {
  mixed := by kernel_rfl
  f129 := Tryz.func112.trans (congrArg some (by kernel_rfl))
  f284 := Tryz.func119.trans (congrArg some (by kernel_rfl))
  f317 := Tryz.func138.trans (congrArg some (by kernel_rfl))
  f318 := Tryz.func139.trans (congrArg some (by kernel_rfl))
  t0 := Tryz.underlying0
  a0 := Tryz.isAgg0
  z0 := Tryz.sizeOf0
  v0 := Tryz.zeroValue0
  t3 := Tryz.underlying3
  a3 := Tryz.isAgg3
  z3 := Tryz.sizeOf3
  v3 := Tryz.zeroValue3
  t4 := Tryz.underlying4
  a4 := Tryz.isAgg4
  z4 := Tryz.sizeOf4
  v4 := Tryz.zeroValue4
  t5 := Tryz.underlying5
  a5 := Tryz.isAgg5
  z5 := Tryz.sizeOf5
  v5 := Tryz.zeroValue5
  t9 := Tryz.underlying9
  a9 := Tryz.isAgg9
  z9 := Tryz.sizeOf9
  v9 := Tryz.zeroValue9
  t46 := Tryz.underlying95
  a46 := Tryz.isAgg95
  z46 := Tryz.sizeOf95
  v46 := Tryz.zeroValue95
  t53 := Tryz.underlying22
  a53 := Tryz.isAgg22
  z53 := Tryz.sizeOf22
  v53 := Tryz.zeroValue22
  t212 := Tryz.underlying161
  a212 := Tryz.isAgg161
  z212 := Tryz.sizeOf161
  v212 := Tryz.zeroValue161
  g17 := by kernel_rfl
  i0 := by kernel_rfl
  i3 := by kernel_rfl
  i4 := by kernel_rfl
  i5 := by kernel_rfl
  i9 := by kernel_rfl
  i46 := by kernel_rfl
  i53 := by kernel_rfl
  i212 := by kernel_rfl
  m17 := by kernel_rfl }
def Tryz.lays285_ren : Go.Shelf.Ren := ⟨fun | 285 => 120 | n => n, fun | 37 => 47 | 53 => 22 | 3 => 3 | 4 => 4 | 51 => 162 | 9 => 9 | 5 => 5 | 0 => 0 | n => n, fun | n => n⟩
theorem Tryz.lays285 : Go.Proofs.Lays.n285 Tryz.prog Tryz.lays285_ren := {
  mixed := by kernel_rfl
  f285 := Tryz.func120.trans (congrArg some (by kernel_rfl))
  t0 := Tryz.underlying0
  a0 := Tryz.isAgg0
  z0 := Tryz.sizeOf0
  v0 := Tryz.zeroValue0
  t3 := Tryz.underlying3
  a3 := Tryz.isAgg3
  z3 := Tryz.sizeOf3
  v3 := Tryz.zeroValue3
  t4 := Tryz.underlying4
  a4 := Tryz.isAgg4
  z4 := Tryz.sizeOf4
  v4 := Tryz.zeroValue4
  t5 := Tryz.underlying5
  a5 := Tryz.isAgg5
  z5 := Tryz.sizeOf5
  v5 := Tryz.zeroValue5
  t9 := Tryz.underlying9
  a9 := Tryz.isAgg9
  z9 := Tryz.sizeOf9
  v9 := Tryz.zeroValue9
  t37 := Tryz.underlying47
  a37 := Tryz.isAgg47
  z37 := Tryz.sizeOf47
  v37 := Tryz.zeroValue47
  t51 := Tryz.underlying162
  a51 := Tryz.isAgg162
  z51 := Tryz.sizeOf162
  v51 := Tryz.zeroValue162
  t53 := Tryz.underlying22
  a53 := Tryz.isAgg22
  z53 := Tryz.sizeOf22
  v53 := Tryz.zeroValue22 }
def Tryz.laysM171_ren : Go.Shelf.Ren := ⟨fun | 171 => 46 | 243 => 85 | 246 => 122 | 283 => 118 | 284 => 119 | 285 => 120 | 286 => 121 | 129 => 112 | 317 => 138 | 318 => 139 | 319 => 140 | 320 => 141 | 337 => 164 | 338 => 165 | n => n, fun | 3 => 3 | 9 => 9 | 2 => 2 | 4 => 4 | 171 => 140 | 0 => 0 | 53 => 22 | 37 => 47 | 5 => 5 | 173 => 142 | 212 => 161 | 51 => 162 | 20 => 20 | 213 => 163 | 46 => 95 | 232 => 192 | 233 => 193 | n => n, fun | 17 => 7 | 18 => 11 | 19 => 12 | n => n⟩
theorem Tryz.laysM171 : Go.Proofs.LaysM.n171 Tryz.prog Tryz.laysM171_ren := {
  mixed := by kernel_rfl
  f129 := Tryz.func112.trans (congrArg some (by kernel_rfl))
  f171 := Tryz.func46.trans (congrArg some (by kernel_rfl))
  f243 := Tryz.func85.trans (congrArg some (by kernel_rfl))
  f246 := Tryz.func122.trans (congrArg some (by kernel_rfl))
  f283 := Tryz.func118.trans (congrArg some (by kernel_rfl))
  f284 := Tryz.func119.trans (congrArg some (by kernel_rfl))
  f285 := Tryz.func120.trans (congrArg some (by kernel_rfl))
  f286 := Tryz.func121.trans (congrArg some (by kernel_rfl))
  f317 := Tryz.func138.trans (congrArg some (by kernel_rfl))
  f318 := Tryz.func139.trans (congrArg some (by kernel_rfl))
  f319 := Tryz.func140.trans (congrArg some (by kernel_rfl))
  f320 := Tryz.func141.trans (congrArg some (by kernel_rfl))
  f337 := Tryz.func164.trans (congrArg some (by kernel_rfl))
  f338 := Tryz.func165.trans (congrArg some (by kernel_rfl))
  t0 := Tryz.underlying0
  a0 := Tryz.isAgg0
  z0 := Tryz.sizeOf0
  v0 := Tryz.zeroValue0
  t2 := Tryz.underlying2
  a2 := Tryz.isAgg2
  z2 := Tryz.sizeOf2
  v2 := Tryz.zeroValue2
  t3 := Tryz.underlying3
  a3 := Tryz.isAgg3
  z3 := Tryz.sizeOf3
  v3 := Tryz.zeroValue3
  t4 := Tryz.underlying4
  a4 := Tryz.isAgg4
  z4 := Tryz.sizeOf4
  v4 := Tryz.zeroValue4
  t5 := Tryz.underlying5
  a5 := Tryz.isAgg5
  z5 := Tryz.sizeOf5
  v5 := Tryz.zeroValue5
  t9 := Tryz.underlying9
  a9 := Tryz.isAgg9
  z9 := Tryz.sizeOf9
  v9 := Tryz.zeroValue9
  t20 := Tryz.underlying20
  a20 := Tryz.isAgg20
  z20 := Tryz.sizeOf20
  v20 := Tryz.zeroValue20
  t37 := Tryz.underlying47
  a37 := Tryz.isAgg47
  z37 := Tryz.sizeOf47
  v37 := Tryz.zeroValue47
  t46 := Tryz.underlying95
  a46 := Tryz.isAgg95
  z46 := Tryz.sizeOf95
  v46 := Tryz.zeroValue95
  t51 := Tryz.underlying162
  a51 := Tryz.isAgg162
  z51 := Tryz.sizeOf162
  v51 := Tryz.zeroValue162
  t53 := Tryz.underlying22
  a53 := Tryz.isAgg22
  z53 := Tryz.sizeOf22
  v53 := Tryz.zeroValue22
  t171 := Tryz.underlying140
  a171 := Tryz.isAgg140
  z171 := Tryz.sizeOf140
  v171 := Tryz.zeroValue140
  t173 := Tryz.underlying142
  a173 := Tryz.isAgg142
  z173 := Tryz.sizeOf142
  v173 := Tryz.zeroValue142
  t212 := Tryz.underlying161
  a212 := Tryz.isAgg161
  z212 := Tryz.sizeOf161
  v212 := Tryz.zeroValue161
  t213 := Tryz.underlying163
  a213 := Tryz.isAgg163
  z213 := Tryz.sizeOf163
  t232 := Tryz.underlying192
  a232 := Tryz.isAgg192
  z232 := Tryz.sizeOf192
  v232 := Tryz.zeroValue192
  t233 := Tryz.underlying193
  a233 := Tryz.isAgg193
  z233 := Tryz.sizeOf193
  v233 := Tryz.zeroValue193
  g17 := by kernel_rfl
  g18 := by kernel_rfl
  g19 := by kernel_rfl
  i0 := by kernel_rfl
  i2 := by kernel_rfl
  i3 := by kernel_rfl
  i4 := by kernel_rfl
  i5 := by kernel_rfl
  i9 := by kernel_rfl
  i20 := by kernel_rfl
  i37 := by kernel_rfl
  i46 := by kernel_rfl
  i51 := by kernel_rfl
  i53 := by kernel_rfl
  i171 := by kernel_rfl
  i173 := by kernel_rfl
  i212 := by kernel_rfl
  i232 := by kernel_rfl
  i233 := by kernel_rfl
  m17 := by kernel_rfl
  m18 := by kernel_rfl
  m19 := by kernel_rfl }
def Tryz.lays171_ren : Go.Shelf.Ren := ⟨fun | 171 => 46 | 243 => 85 | 246 => 122 | 283 => 118 | 284 => 119 | 285 => 120 | 286 => 121 | 129 => 112 | 317 => 138 | 318 => 139 | 319 => 140 | 320 => 141 | 337 => 164 | 338 => 165 | n => n, fun | 3 => 3 | 9 => 9 | 2 => 2 | 4 => 4 | 171 => 140 | 0 => 0 | 53 => 22 | 37 => 47 | 5 => 5 | 173 => 142 | 212 => 161 | 51 => 162 | 20 => 20 | 213 => 163 | 46 => 95 | 232 => 192 | 233 => 193 | n => n, fun | 17 => 7 | 18 => 11 | 19 => 12 | n => n⟩
theorem Tryz.lays171 : Go.Proofs.Lays.n171 Tryz.prog Tryz.lays171_ren := {
  mixed := by kernel_rfl
  f129 := Tryz.func112.trans (congrArg some (by kernel_rfl))
  f171 := Tryz.func46.trans (congrArg some (by kernel_rfl))
  f243 := Tryz.func85.trans (congrArg some (by kernel_rfl))
  f246 := Tryz.func122.trans (congrArg some (by kernel_rfl))
  f283 := Tryz.func118.trans (congrArg some (by kernel_rfl))
  f284 := Tryz.func119.trans (congrArg some (by kernel_rfl))
  f285 := Tryz.func120.trans (congrArg some (by kernel_rfl))
  f286 := Tryz.func121.trans (congrArg some (by kernel_rfl))
  f317 := Tryz.func138.trans (congrArg some (by kernel_rfl))
  f318 := Tryz.func139.trans (congrArg some (by kernel_rfl))
  f319 := Tryz.func140.trans (congrArg some (by kernel_rfl))
  f320 := Tryz.func141.trans (congrArg some (by kernel_rfl))
  f337 := Tryz.func164.trans (congrArg some (by kernel_rfl))
  f338 := Tryz.func165.trans (congrArg some (by kernel_rfl))
  t0 := Tryz.underlying0
  a0 := Tryz.isAgg0
  z0 := Tryz.sizeOf0
  v0 := Tryz.zeroValue0
  t2 := Tryz.underlying2
  a2 := Tryz.isAgg2
  z2 := Tryz.sizeOf2
  v2 := Tryz.zeroValue2
  t3 := Tryz.underlying3
  a3 := Tryz.isAgg3
  z3 := Tryz.sizeOf3
  v3 := Tryz.zeroValue3
  t4 := Tryz.underlying4
  a4 := Tryz.isAgg4
  z4 := Tryz.sizeOf4
  v4 := Tryz.zeroValue4
  t5 := Tryz.underlying5
  a5 := Tryz.isAgg5
  z5 := Tryz.sizeOf5
  v5 := Tryz.zeroValue5
  t9 := Tryz.underlying9
  a9 := Tryz.isAgg9
  z9 := Tryz.sizeOf9
  v9 := Tryz.zeroValue9
  t20 := Tryz.underlying20
  a20 := Tryz.isAgg20
  z20 := Tryz.sizeOf20
  v20 := Tryz.zeroValue20
  t37 := Tryz.underlying47
  a37 := Tryz.isAgg47
  z37 := Tryz.sizeOf47
  v37 := Tryz.zeroValue47
  t46 := Tryz.underlying95
  a46 := Tryz.isAgg95
  z46 := Tryz.sizeOf95
  v46 := Tryz.zeroValue95
  t51 := Tryz.underlying162
  a51 := Tryz.isAgg162
  z51 := Tryz.sizeOf162
  v51 := Tryz.zeroValue162
  t53 := Tryz.underlying22
  a53 := Tryz.isAgg22
  z53 := Tryz.sizeOf22
  v53 := Tryz.zeroValue22
  t171 := Tryz.underlying140
  a171 := Tryz.isAgg140
  z171 := Tryz.sizeOf140
  v171 := Tryz.zeroValue140
  t173 := Tryz.underlying142
  a173 := Tryz.isAgg142
  z173 := Tryz.sizeOf142
  v173 := Tryz.zeroValue142
  t212 := Tryz.underlying161
  a212 := Tryz.isAgg161
  z212 := Tryz.sizeOf161
  v212 := Tryz.zeroValue161
  t213 := Tryz.underlying163
  a213 := Tryz.isAgg163
  z213 := Tryz.sizeOf163
  t232 := Tryz.underlying192
  a232 := Tryz.isAgg192
  z232 := Tryz.sizeOf192
  v232 := Tryz.zeroValue192
  t233 := Tryz.underlying193
  a233 := Tryz.isAgg193
  z233 := Tryz.sizeOf193
  v233 := Tryz.zeroValue193
  g17 := by kernel_rfl
  g18 := by kernel_rfl
  g19 := by kernel_rfl }
end Go.Proofs

namespace Go.Proofs.YtbkkepbmaadomaaGreatDoor
open Go.RowKit Go.Shelf Go.Sort

/-- The table of powers that strconv's numDigits asks. -/
def TP (w : World) : Prop := Lib.TabBelow Tryz.prog w.heap.size w "internal/strconv.uint64pow10" .u64 Lib.pow10Tab
theorem TP.below {w w' : World} (h : TP w) (hb : Below w.heap.size w w') : TP w' := fun w'' h2 => h w'' (bel_tr hb h2)
theorem holds_z0 (w : World) (T : TypeId) (nd : Nat) (hs : nd ≤ 24) : Holds (fun (b : UInt8) => Value.int .u8 (b.toNat : Int)) (w.alloc (.cells Lib.zeros24 T)) w.heap.size 0 (Array.replicate nd (0 : UInt8)) := fun j hj => by
  have hj' : j < nd := by simpa using hj
  refine ⟨?_, World.frozen?_alloc_new _ _ _ _⟩
  rw [World.cell?_alloc_new, Lib.zeros24_at _ (by omega), getElem!_pos _ j hj]
  simp
theorem fin_z0 (w : World) (o : Obj) (dk : Array UInt8) (k : Nat) : ∃ os, (putRow (fun (b : UInt8) => Value.int .u8 (b.toNat : Int)) (w.alloc o) w.heap.size 0 dk).drewN k = grow (w.drewN k) os := by
  rw [alloc_eq_grow]
  obtain ⟨os', _, e⟩ := putRow_grow_new (fun (b : UInt8) => Value.int .u8 (b.toNat : Int)) w #[o] w.heap.size 0 dk (Nat.le_refl _)
  exact ⟨os', by rw [e]; rfl⟩
set_option maxHeartbeats 6400000 in
set_option maxRecDepth 100000 in
theorem fmtI (u : Nat) (h1 : 1 ≤ u) (h2 : u < 18446744073709551616) (w : World) (hT : TP w) :
    Calls Tryz.prog 84 #[.int .u64 u, .int .i64 10] w fun e w' => e = .returned (.string ⟨(Lib.decDigits u).toArray⟩) ∧ Below w.heap.size w w' := by
  by_cases hs : u < 100
  · have hsI : (u : Int) < 100 := by omega
    have hw : IntKind.i64.wrap (u : Int) = (u : Int) := by rw [IntKind.wrap_i64]; omega
    clear hT
    go_enter Tryz.func84, Tryz.ntmps84
    go_wp2_with fail
    refine (Any.internal_strconv_small Tryz.lays283 u hs _).mono ?_
    rintro e w' ⟨rfl, rfl⟩
    go_wp2
    go_ret
    exact ⟨rfl, Below.refl _ _⟩
  · have hsI : ¬ (u : Int) < 100 := by omega
    have hnd20 : Lib.nDigits u ≤ 20 := by have := Lib.numDigits_eq u h1 h2; split at this <;> omega
    have hal : Tryz.prog.arrayLen 140 = 24 := by kernel_rfl
    have hsl : ∀ W, (Instr.sliceAt 140 (.pointer (some ⟨w.heap.size, 0, none⟩)) none (some (.int .i64 (Lib.nDigits u : Int))) none).run Tryz.prog W = .ok (.slice (some ⟨w.heap.size, 0, none⟩) (Lib.nDigits u) 24) W := fun W => by
      rw [run_sliceAt_array_h W 140 ⟨w.heap.size, 0, none⟩ (by kernel_rfl) .i64 (Lib.nDigits u : Int) (by omega) (by rw [hal]; omega)]
      go_simp
    have hH0 := holds_z0 w 140 (Lib.nDigits u) (by omega)
    have hfmt := Any.internal_strconv_formatBase10 Tryz.lays285 w.heap.size 0 24 u (Array.replicate (Lib.nDigits u) 0) (w.alloc (.cells Lib.zeros24 140)) hH0 (by rw [Array.size_replicate]; exact Lib.lt_pow_nDigits u) h2 (by rw [Array.size_replicate]; omega)
    rw [Array.size_replicate] at hfmt
    have HH0 := Lib.hid hH0
    have hnum := Any.internal_strconv_numDigits Tryz.laysM284 u h1 h2 (w.alloc (.cells Lib.zeros24 140)) (hT.below (bel_d0 w _)).here
    clear hH0 hal hT
    go_enter Tryz.func84, Tryz.ntmps84
    go_wp2_with fail
    refine hnum.mono ?_
    rintro e w' ⟨rfl, rfl⟩
    go_wp2_with fail
    refine hfmt.mono ?_
    rintro e w' ⟨rfl, k, v', dk, rfl, hF⟩
    have hcv : (convert 47 9 (.slice (some ⟨w.heap.size, 0, none⟩) (Lib.nDigits u) 24)).run Tryz.prog ((putRow (fun (b : UInt8) => Value.int .u8 (b.toNat : Int)) (w.alloc (.cells Lib.zeros24 140)) w.heap.size 0 dk).drewN k) = .ok (.string ⟨(Lib.decDigits u).toArray⟩) ((putRow (fun (b : UInt8) => Value.int .u8 (b.toNat : Int)) (w.alloc (.cells Lib.zeros24 140)) w.heap.size 0 dk).drewN k) := by
      have h := run_convert_bytes_back (P := Tryz.prog) ((putRow (fun (b : UInt8) => Value.int .u8 (b.toNat : Int)) (w.alloc (.cells Lib.zeros24 140)) w.heap.size 0 dk).drewN k) 47 9 5 ⟨w.heap.size, 0, none⟩ 24 (Lib.decDigits u) Tryz.underlying47 Tryz.underlying5 Tryz.underlying9 (fun j hj => by
        rw [Lib.row_is_numeral hF j hj, Lib.add_plain, World.cell?_drewN]
        exact cell?_putRow (fun (b : UInt8) => Value.int .u8 (b.toNat : Int)) _ w.heap.size 0 _ dk HH0.out (by rw [hF.size, Array.size_replicate]) j (by rw [hF.size]; rw [Lib.decDigits_length] at hj; exact hj))
      rw [Lib.decDigits_length] at h
      exact h
    go_wp2
    go_ret
    obtain ⟨os, eo⟩ := fin_z0 w (.cells Lib.zeros24 140) dk k
    refine ⟨rfl, ?_⟩
    rw [eo]
    exact Lib.below_grow _ _ (Nat.le_refl _) _ _
theorem fmtU (u : Nat) (h1 : 1 ≤ u) (h2 : u < 18446744073709551616) (w : World) (hT : TP w) :
    Calls Tryz.prog 45 #[.int .u64 u, .int .i64 10] w fun e w' => e = .returned (.string ⟨(Lib.decDigits u).toArray⟩) ∧ Below w.heap.size w w' := by
  go_enter Tryz.func45, Tryz.ntmps45
  go_wp2_with fail
  refine (fmtI u h1 h2 _ hT).mono ?_
  rintro e w' ⟨rfl, hx⟩
  go_wp2
  go_ret
  exact ⟨rfl, hx⟩
theorem itoaI (n : Int) (h0 : -9223372036854775808 ≤ n) (h1 : n ≤ 9223372036854775807) (w : World) (hT : TP w) :
    Calls Tryz.prog 46 #[.int .i64 n] w fun e w' => e = .returned (.string ⟨(Lib.itoa n).toArray⟩) ∧ Below w.heap.size w w' := by
  refine (Any.strconv_Itoa Tryz.laysM171 n h0 h1 w hT.here).mono ?_
  rintro e w' ⟨rfl, k, os, rfl⟩
  exact ⟨rfl, Lib.below_grow _ _ (Nat.le_refl _) _ _⟩
theorem dec_digs (u : Nat) (h : u ≠ 0) : Lib.decDigits u = (((decs u).map (48 + ·)).reverse).map fun n => UInt8.ofNat n.toNat := by
  induction u using Nat.strongRecOn with
  | _ u ih =>
    rw [Lib.decDigits, decs_pos h]
    by_cases hu : u < 10
    · rw [dif_pos hu, show u / 10 = 0 by omega, decs_zero]
      simp only [List.map_cons, List.map_nil, List.reverse_cons, List.reverse_nil, List.nil_append, List.cons.injEq, and_true]
      congr 1
      omega
    · rw [dif_neg hu, ih (u / 10) (by omega) (by omega)]
      simp only [List.map_cons, List.reverse_cons, List.map_append, List.map_nil]
      congr 2
theorem dec_txt (u : Nat) (h : u ≠ 0) : (⟨(Lib.decDigits u).toArray⟩ : ByteArray) = txt u := by
  unfold txt
  rw [if_neg h, dec_digs u h]
  rfl
theorem itoa_txt (n : Int) (h : n ≠ 0) : (⟨(Lib.itoa n).toArray⟩ : ByteArray) = txtI n := by
  unfold Lib.itoa txtI
  by_cases hn : n < 0
  · rw [if_pos hn, if_pos hn, ← dec_txt n.natAbs (by omega)]
    apply ByteArray.ext
    rw [ByteArray.data_append]
    simp [strOfNums]
  · rw [if_neg hn, if_neg hn, show n.toNat = n.natAbs by omega, dec_txt n.natAbs (by omega)]
end Go.Proofs.YtbkkepbmaadomaaGreatDoor

namespace Go.Proofs.YtbkkepbmaadomaaGreatDoor
open Go.RowKit Go.Shelf

/-- The text of d 10^x. -/
def dtx (d : Nat) (x : Int) : ByteArray := if x = 0 then txt d else txt d ++ (⟨#[101]⟩ ++ txtI x)
theorem litV_dec (d : Nat) (x : Int) : litV (d : Int) x 0 = dec d x := by
  unfold litV dec vT uT
  have e : ∀ n, p10 n = 10 ^ n := fun n => by
    induction n with
    | zero => rfl
    | succ n ih => show p10 n * 10 = _; rw [ih, Int.pow_succ]
  rw [e, e, show (x - ((0 : Nat) : Int)).toNat = x.toNat by omega, show (((0 : Nat) : Int) - x).toNat = (-x).toNat by omega]
theorem size_txt18 {d : Nat} (h : d < 9223372036854775808) : (txt d).size ≤ 20 ∧ 0 < (txt d).size := by
  refine ⟨?_, ?_⟩
  · unfold txt
    split
    · decide
    · rw [strOfNums_size, List.length_reverse, List.length_map]
      have := decs_le 20 d (by omega)
      omega
  · unfold txt
    split
    · decide
    · rename_i h0
      rw [strOfNums_size, List.length_reverse, List.length_map]
      have : decs d ≠ [] := fun e => h0 (decs_nil e)
      exact List.length_pos_iff.2 this
theorem dtx_parses {d : Nat} {x : Int} (hd2 : d < 9223372036854775808) (h1 : -340 ≤ x) (h2 : x ≤ 340) (w : World) (hT : TB w) : Parses (dtx d x) (dec d x) 10021 w := by
  obtain ⟨s1, s2⟩ := size_txt18 hd2
  rw [← litV_dec]
  unfold dtx
  have key : ∀ {s : ByteArray} {r : Rat} {S : Nat}, Parses s r S w → S ≤ 10021 → Parses s r 10021 w := fun h hS => h.mono (by
    rintro e w1 ⟨f, c, n, k, c', n', k', rfl, G, hx⟩
    exact ⟨f, c, n, k, c', n', k', rfl, G.le hS, hx⟩)
  split
  · rename_i h0
    subst h0
    have := lit_plain (txt d) (allD_txt d) s2 (by omega) w hT
    rw [rd_txt] at this
    exact key this (by omega)
  · have := lit_exp (txt d) (txtI x) 101 x (by decide) (allD_txt d) s2 (by omega) (asc_txtI x) (not_txtI x 47 (by decide)) (by have := size_txtI (k := x) (by omega); omega) (parsesX_txt x (by omega) (by omega) (by have := size_txtI (k := x) (by omega); omega)) (by omega) (by omega) w hT
    rw [rd_txt, ByteArray.append_assoc] at this
    exact key this (by omega)
end Go.Proofs.YtbkkepbmaadomaaGreatDoor

namespace Go.Proofs.YtbkkepbmaadomaaGreatDoor
open Go.RowKit Go.Shelf

theorem litV_neg (d : Nat) (x : Int) : litV (-(d : Int)) x 0 = -(dec d x) := by
  rw [← litV_dec]
  unfold litV
  rw [Int.neg_mul, Rat.neg_divInt]
theorem Pz.neg {r : Rat} {z : Int} (h : Pz r z) : Pz (-r) (-z) := by
  have e1 : (-r).num = -r.num := Rat.neg_num r
  have e2 : (-r).den = r.den := Rat.neg_den r
  unfold Pz
  rw [e1, e2]
  rcases h with ⟨h1, h2⟩ | ⟨h1, h2, h3⟩ | ⟨h1, h2, h3⟩
  · exact .inl ⟨by omega, by omega⟩
  · exact .inr (.inr ⟨by omega, by omega, by rw [Int.neg_neg, Int.neg_neg]; exact h3⟩)
  · exact .inr (.inl ⟨by omega, by omega, h3⟩)
theorem flz_neg (z : Int) : flz (-z) = -flz z := by
  unfold flz
  rcases Int.lt_trichotomy z 0 with h | h | h
  · rw [if_neg (by omega), if_pos h]; omega
  · subst h; rfl
  · rw [if_pos (by omega), if_neg (by omega), Int.neg_neg]
/-- a whole number's text in whatever form -/
theorem litM (a : ByteArray) (v : Int) (S : Nat) (h1 : Asc a) (hE : ∀ b ∈ a.data.toList, b ∉ ([101, 69] : List UInt8)) (h47 : (47 : UInt8) ∉ a.data.toList) (h46 : (46 : UInt8) ∉ a.data.toList) (hs : a.size ≤ 1000000) (hS : S ≤ 1000000) (HP : ParsesI a v S) (w : World) (hT : TB w) : Parses a (litV v 0 0) (S + 10001) w :=
  litG (ah := a) (be := ⟨#[]⟩) (S := S) w hT h47 (fun w => cutsE_none a (by omega) h1 hE w) (fun w => cutsP_none a h46 w) noSign_nil (fun w => by rw [app_nil]; exact HP w) parsesX_zero (by decide) (by decide) (by omega) (by decide) (by omega)
theorem litMx (a x : ByteArray) (v t : Int) (S : Nat) (h1 : Asc a) (hE : ∀ b ∈ a.data.toList, b ∉ ([101, 69] : List UInt8)) (h47 : (47 : UInt8) ∉ a.data.toList) (h46 : (46 : UInt8) ∉ a.data.toList) (hs : a.size ≤ 1000000) (hS : S ≤ 1000000) (HP : ParsesI a v S) (hx : Asc x) (hx47 : (47 : UInt8) ∉ x.data.toList) (hxs : x.size ≤ 1000) (hX : ParsesX x t) (h8 : -9999 ≤ t) (h9 : t ≤ 9999) (w : World) (hT : TB w) : Parses (a ++ ⟨#[101]⟩ ++ x) (litV v t 0) (S + 10001) w :=
  litG (ah := a) (be := ⟨#[]⟩) (S := S) w hT (notApp (notApp h47 (not_one (by decide))) hx47) (fun w => cutsE_some a x 101 (by decide) (by omega) ((h1.app (asc_one (by decide))).app hx) hE w) (fun w => cutsP_none a h46 w) noSign_nil (fun w => by rw [app_nil]; exact HP w) hX h8 h9 (by omega) (by decide) (by omega)
theorem dtxN_parses {d : Nat} {x : Int} (hd2 : d < 9223372036854775808) (h1 : -340 ≤ x) (h2 : x ≤ 340) (w : World) (hT : TB w) : Parses (⟨#[45]⟩ ++ dtx d x) (-(dec d x)) 10021 w := by
  obtain ⟨s1, s2⟩ := size_txt18 hd2
  rw [← litV_neg]
  have key : ∀ {s : ByteArray} {r : Rat} {S : Nat}, Parses s r S w → S ≤ 10021 → Parses s r 10021 w := fun h hS => h.mono (by
    rintro e w1 ⟨f, c, n, k, c', n', k', rfl, G, hx⟩
    exact ⟨f, c, n, k, c', n', k', rfl, G.le hS, hx⟩)
  have a1 : Asc (⟨#[45]⟩ ++ txt d) := (asc_one (by decide)).app (allD_txt d).asc
  have nE : ∀ b ∈ (⟨#[45]⟩ ++ txt d : ByteArray).data.toList, b ∉ ([101, 69] : List UInt8) := fun b hb => by
    rcases memApp hb with h | h
    · have : b ∈ ([45] : List UInt8) := h
      simp at this; subst this; decide
    · exact (allD_txt d).noE b h
  have n47 : (47 : UInt8) ∉ (⟨#[45]⟩ ++ txt d : ByteArray).data.toList := notApp (not_one (by decide)) ((allD_txt d).not 47 (by decide))
  have n46 : (46 : UInt8) ∉ (⟨#[45]⟩ ++ txt d : ByteArray).data.toList := notApp (not_one (by decide)) ((allD_txt d).not 46 (by decide))
  have sz : (⟨#[45]⟩ ++ txt d : ByteArray).size = 1 + (txt d).size := by rw [ByteArray.size_append]; rfl
  have HP : ParsesI (⟨#[45]⟩ ++ txt d) (-(d : Int)) (txt d).size := fun w => by
    have := parsesI_neg (txt d) (allD_txt d).digs s2 (by omega) w
    rw [rd_txt] at this
    exact this
  unfold dtx
  split
  · rename_i h0
    subst h0
    exact key (litM _ _ _ a1 nE n47 n46 (by omega) (by omega) HP w hT) (by omega)
  · have hx := size_txtI (k := x) (by omega)
    have := litMx _ (txtI x) _ x _ a1 nE n47 n46 (by omega) (by omega) HP (asc_txtI x) (not_txtI x 47 (by decide)) (by omega) (parsesX_txt x (by omega) (by omega) (by omega)) (by omega) (by omega) w hT
    rw [ByteArray.append_assoc, ByteArray.append_assoc] at this
    exact key this (by omega)
set_option maxRecDepth 100000 in
set_option maxHeartbeats 1000000 in
/-- near.showFrom0 of a float above nought -/
theorem show0 (k : Nat) (w : World) (hk : 1 ≤ k) (hki : k < 9218868437227405312) (hT : TP w) :
    Calls Tryz.prog 20 #[.float .f64 k] w fun e w' => ∃ (d : Nat) (x : Int), e = .returned (.string (dtx d x)) ∧ Dc k d x ∧ Sd k d x ∧ Below w.heap.size w w' := by
  have HI := fun u => isInf1 k u
  have hi : (decide (k % 9223372036854775808 = 9218868437227405312) && !(k / 9223372036854775808 % 2 == 1)) = false := by
    rw [decide_eq_false (by omega)]; rfl
  rw [hi] at HI
  have ho : (FloatKind.f64.format.order k 0 == some .eq) = false := by
    have := eqF (j := (k : Int)) (k := 0) ⟨by omega, by omega⟩ (by decide)
    rw [show fb (k : Int) = k by unfold fb; rw [if_neg (by omega)]; omega, show fb 0 = 0 from rfl] at this
    rw [this]; exact decide_eq_false (by omega)
  have HS := fun u => shortestQ k u hk hki
  clear hi hk hki
  go_enter Tryz.func20, Tryz.ntmps20
  go_wp2_with fail
  refine (HI _).mono ?_
  rintro e w1 ⟨rfl, e1⟩
  subst e1
  clear HI
  go_wp2_with fail
  refine (HS _).mono ?_
  rintro e w2 ⟨d, x, rfl, D, SD, hb0⟩
  replace hT := hT.below hb0
  clear HS
  have HSD : Hid (Sd k d x) := SD
  clear SD
  have hd1 := D.1
  have hd2 := D.2.1
  have hx1 := D.2.2.1
  have hx2 := D.2.2.2.1
  go_wp2_with fail
  refine (fmtU d hd1 (by omega) _ hT).mono ?_
  rintro e w3 ⟨rfl, hx⟩
  replace hT := hT.below hx
  replace hb0 := bel_tr hb0 hx
  clear hx
  rw [dec_txt d (by omega)]
  by_cases h0 : x = 0
  · have HE : dtx d x = txt d := by unfold dtx; rw [if_pos h0]
    have H2 : Hid (Dc k d x ∧ dtx d x = txt d) := ⟨D, HE⟩
    subst h0
    clear D HE hT hd1 hd2 hx1 hx2
    go_wp2
    go_ret
    exact ⟨d, 0, by rw [H2.out.2]; rfl, H2.out.1, HSD.out, hb0⟩
  · have HE : dtx d x = txt d ++ (⟨#[101]⟩ ++ txtI x) := by unfold dtx; rw [if_neg h0]
    have H2 : Hid (Dc k d x ∧ dtx d x = txt d ++ (⟨#[101]⟩ ++ txtI x)) := ⟨D, HE⟩
    have HIT := fun u hu => itoaI x (by omega) (by omega) u hu
    rw [itoa_txt x h0] at HIT
    have h0' : (x == 0) = false := beq_false_of_ne h0
    have hz1 := size_txtI (k := x) (by omega)
    have hz2 := (size_txt18 hd2).1
    clear D HE hd1 hd2 hx1 hx2
    go_wp2_with fail
    refine (HIT _ hT).mono ?_
    rintro e w4 ⟨rfl, hx⟩
    replace hb0 := bel_tr hb0 hx
    clear hx HIT hT
    generalize txtI x = tx at *
    generalize txt d = td at *
    have c1 : ¬ 9223372036854775807 < 1 + tx.size := by omega
    have c2 : ¬ 9223372036854775807 < td.size + (1 + tx.size) := by omega
    go_wp2
    go_ret
    exact ⟨d, x, by rw [H2.out.2]; rfl, H2.out.1, HSD.out, hb0⟩
end Go.Proofs.YtbkkepbmaadomaaGreatDoor

namespace Go.Proofs.YtbkkepbmaadomaaGreatDoor
open Go.RowKit Go.Shelf

-- a float by its bits b, its place key b
theorem neg_hi {b : Nat} (h : b < 9223372036854775808) : Op.negFloat .f64 (b + 9223372036854775808) = b := by
  have e : Op.negFloat .f64 b = b + 9223372036854775808 := neg_lo h
  rw [← e]
  show (b ^^^ 9223372036854775808) ^^^ 9223372036854775808 = b
  rw [Nat.xor_assoc, Nat.xor_self, Nat.xor_zero]
theorem key_fin {b : Nat} (hb : b < 18446744073709551616) (h : b % 9223372036854775808 < 9218868437227405312) : -9218868437227405312 < key b ∧ key b < 9218868437227405312 ∧ b % 9223372036854775808 = (key b).natAbs ∧ (9223372036854775808 ≤ b ∧ key b ≤ 0 ∨ b < 9223372036854775808 ∧ 0 ≤ key b) := by
  unfold key
  rcases Nat.lt_or_ge b 9223372036854775808 with h1 | h1
  · rw [show b / 9223372036854775808 = 0 by omega]
    simp only [show (0 % 2 == 1) = false from rfl, Bool.false_eq_true, if_false]; omega
  · rw [show b / 9223372036854775808 = 1 by omega]
    simp only [show (1 % 2 == 1) = true from rfl, if_true]; omega
theorem exactB {b : Nat} (w : World) (hl : b < 18446744073709551616) (h : b % 9223372036854775808 < 9218868437227405312) (hT : TB w) :
    Calls Tryz.prog 11 #[.float .f64 b] w fun e w' => ∃ f c n k2 c' n' k', e = .returned (.tuple #[.agg #[.bool f, .slice c n k2, .slice c' n' k'], .nilIface]) ∧ GR w' w.heap.size f c n k2 c' n' k' (exr (key b)) 1026 ∧ Below w.heap.size w w' := by
  obtain ⟨k1, k2, hm, k3⟩ := key_fin hl h
  have hs : (Ieee.double.order b 0 == some .lt) = decide (key b < 0) := by
    have : Ieee.double.order b 0 = some (compare (key b) (key 0)) := order_key (by omega) (by decide)
    rw [this, show key 0 = 0 from rfl, cmpLt]
  generalize key b = k at *
  obtain ⟨m, s, ek, hc⟩ := NB_at (B := 4503599627370496) (by decide) k.natAbs
  obtain ⟨e1, e2⟩ := NB_of hc
  rw [← ek] at e1 e2
  have hst : steps k.natAbs = s := e1
  have hN : ((NB 4503599627370496 k.natAbs : Nat) : Int) = (m : Int) * 2 ^ s := by rw [e2, Int.natCast_mul, Int.natCast_pow]; rfl
  have hmm : ((b % 9223372036854775808 : Nat) : Int) - (steps (b % 9223372036854775808) : Int) * 4503599627370496 = (m : Int) := by rw [hm, hst]; omega
  unfold exr
  rw [Gz_ws]
  by_cases h : 1074 ≤ s
  · refine (exactOkU (m := (m : Int)) (q := s - 1074) (sg := decide (k < 0)) w hl (by omega) hmm (by omega) (by omega) (by rw [hm, hst]; omega) (by omega) hs hT).mono ?_
    rintro e w1 ⟨f, c, n, k2, c', n', k', rfl, G, hx⟩
    exact ⟨f, c, n, k2, c', n', k', rfl, G.val (exrU hN (by omega)), hx⟩
  · refine (exactOkD (m := (m : Int)) (q := 1074 - s) (sg := decide (k < 0)) w hl (by omega) hmm (by omega) (by omega) (by rw [hm, hst]; omega) (by omega) hs hT).mono ?_
    rintro e w1 ⟨f, c, n, k2, c', n', k', rfl, G, hx⟩
    exact ⟨f, c, n, k2, c', n', k', rfl, G.val (exrD hN (by omega)), hx⟩
theorem fb_key {b : Nat} (hb : b < 18446744073709551616) (h : b % 9223372036854775808 ≤ 9218868437227405312) (h0 : ¬ b = 9223372036854775808) : fb (key b) = b := by
  unfold key fb
  rcases Nat.lt_or_ge b 9223372036854775808 with h1 | h1
  · rw [show b / 9223372036854775808 = 0 by omega]
    simp only [show (0 % 2 == 1) = false from rfl, Bool.false_eq_true, if_false]; split <;> omega
  · rw [show b / 9223372036854775808 = 1 by omega]
    simp only [show (1 % 2 == 1) = true from rfl, if_true]; split <;> omega
theorem nextB {b : Nat} (w : World) (hl : b < 18446744073709551616) (h : b % 9223372036854775808 < 9218868437227405312) : Calls Tryz.prog 12 #[.float .f64 b] w fun e w' => e = .returned (.float .f64 (fb (key b + 1))) ∧ w' = w := by
  by_cases h0 : b = 9223372036854775808
  · subst h0
    exact nextPos (r := 0) w (by decide) (by decide) (by decide) (.inl rfl)
  · obtain ⟨k1, k2, -, -⟩ := key_fin hl h
    have := nextK (k := key b) w (by omega) (by omega) rfl
    rwa [fb_key hl (by omega) h0] at this
theorem gz_eq (k : Int) : Gz k * (exr k).den = (exr k).num * E4 := Int.le_antisymm (exr_le.1 Rat.le_refl) (le_exr.1 Rat.le_refl)
theorem Nn_pos {n : Nat} (h : 0 < n) : 0 < Nn n := by
  have := NB_lt (B := 4503599627370496) (by decide) h
  unfold Nn; omega
theorem sg_pos {x : Int} (h : 0 < x * E4) : 0 < x := by
  have := E4_pos
  rcases Int.lt_or_le 0 x with h1 | h1
  · exact h1
  · have := Int.mul_nonpos_of_nonpos_of_nonneg h1 (Int.le_of_lt E4_pos); omega
/-- An exact float stands at its own place. -/
theorem exr_pz {k : Int} (h1 : -9218868437227405312 < k) (h2 : k < 9218868437227405312) : Pz (exr k) (4 * k) := by
  have e := gz_eq k
  have hd := den_pos (exr k)
  generalize exr k = r at *
  rcases Int.lt_trichotomy k 0 with h | h | h
  · obtain ⟨n, hn⟩ : ∃ n : Nat, k = -(n : Int) := ⟨k.natAbs, by omega⟩
    rw [Gz_neg hn, Int.neg_mul] at e
    have hp := Int.mul_pos (Nn_pos (n := n) (by omega)) hd
    have e' : Nn n * r.den = -r.num * E4 := by rw [Int.neg_mul]; omega
    have hr : 0 < -r.num := sg_pos (by rw [← e']; exact hp)
    refine .inr (.inr ⟨by omega, by omega, by omega, .inl ⟨by omega, ?_⟩⟩)
    rw [show (-(4 * k)).toNat / 2 = 2 * n by omega, Nn_two, Int.mul_assoc, e']
  · subst h
    have g0 : Gz 0 = 0 := by decide
    rw [g0, Int.zero_mul] at e
    refine .inl ⟨?_, by omega⟩
    rcases Int.mul_eq_zero.1 e.symm with h | h
    · exact h
    · have := E4_pos; omega
  · obtain ⟨n, hn⟩ : ∃ n : Nat, k = (n : Int) := ⟨k.natAbs, by omega⟩
    rw [Gz_pos (by omega) hn] at e
    have hp := Int.mul_pos (Nn_pos (n := n) (by omega)) hd
    have hr : 0 < r.num := sg_pos (by rw [← e]; exact hp)
    refine .inr (.inl ⟨by omega, by omega, by omega, .inl ⟨by omega, ?_⟩⟩)
    rw [show (4 * k).toNat / 2 = 2 * n by omega, Nn_two, Int.mul_assoc, e]
theorem flz4 (k : Int) : flz (4 * k) = k ∧ sdz (4 * k) = 0 ∧ dnz (4 * k) = k ∧ upz (4 * k) = k := by
  have h1 : dnz (4 * k) = k := by unfold dnz; omega
  have h2 : upz (4 * k) = k := by unfold upz; omega
  refine ⟨?_, by unfold sdz; rw [if_pos (by omega)], h1, h2⟩
  rcases flz_or (4 * k) with h | h
  · rw [h, h1]
  · rw [h, h2]
theorem Gz_succ (k : Int) : Gz k < Gz (k + 1) := by
  rcases Int.lt_or_le k 0 with h | h
  · obtain ⟨n, hn⟩ : ∃ n : Nat, k = -((n + 1 : Nat) : Int) := ⟨k.natAbs - 1, by omega⟩
    rw [Gz_neg hn, Gz_neg (k := k + 1) (n := n) (by omega)]
    have := NB_lt (B := 4503599627370496) (i := n) (j := n + 1) (by decide) (by omega)
    unfold Nn; omega
  · obtain ⟨n, hn⟩ : ∃ n : Nat, k = (n : Int) := ⟨k.natAbs, by omega⟩
    rw [Gz_pos h hn, Gz_pos (k := k + 1) (n := n + 1) (by omega) (by omega)]
    have := NB_lt (B := 4503599627370496) (i := n) (j := n + 1) (by decide) (by omega)
    unfold Nn; omega
theorem exr_succ (k : Int) : 0 < cs (exr (k + 1)) (exr k) := by
  rw [cs_gt, ← Rat.not_le, exr_le, Int.not_le, ← gz_eq k]
  exact Int.mul_lt_mul_of_pos_right (Gz_succ k) (den_pos _)
/-- A text that near.Read reads as the float of place k. -/
def Rd (s : ByteArray) (k : Int) : Prop := ∃ r z, (∀ w, TB w → Parses s r 10021 w) ∧ Pz r z ∧ flz z = k
theorem Rd.read {s : ByteArray} {k : Int} (h : Rd s k) {F : Nat} (hF : fb k = F) (w : World) (hT : TB w) : Calls Tryz.prog 14 #[.string s] w fun e w' => e = .returned (.tuple #[.float .f64 F, .nilIface]) ∧ Below w.heap.size w w' := by
  obtain ⟨r, z, h1, h2, h3⟩ := h
  exact readOk z w (h1 w hT) (by decide) h2 (by rw [h3]; exact hF)
theorem rd_pos {k d : Nat} {x : Int} (h : Dc k d x) : Rd (dtx d x) (k : Int) := by
  obtain ⟨h1, h2, h3, h4, z, h5, h6⟩ := h
  exact ⟨_, z, fun w hT => dtx_parses h2 h3 h4 w hT, h5, h6⟩
theorem rd_neg {k d : Nat} {x : Int} (h : Dc k d x) : Rd (⟨#[45]⟩ ++ dtx d x) (-(k : Int)) := by
  obtain ⟨h1, h2, h3, h4, z, h5, h6⟩ := h
  exact ⟨_, -z, fun w hT => dtxN_parses h2 h3 h4 w hT, h5.neg, by rw [flz_neg, h6]⟩
theorem rd_zero : Rd ⟨#[48]⟩ 0 := by
  refine ⟨dec 0 0, 0, fun w hT => ?_, .inl ⟨by decide, rfl⟩, by decide⟩
  have := dtx_parses (d := 0) (x := 0) (by decide) (by decide) (by decide) w hT
  exact this
set_option maxRecDepth 100000 in
theorem show00 (b : Nat) (w : World) (hb : b = 0 ∨ b = 9223372036854775808) : Calls Tryz.prog 20 #[.float .f64 b] w fun e w' => e = .returned (.string ⟨#[48]⟩) ∧ Below w.heap.size w w' := by
  have HI := fun u => isInf1 b u
  have hi : (decide (b % 9223372036854775808 = 9218868437227405312) && !(b / 9223372036854775808 % 2 == 1)) = false := by
    rw [decide_eq_false (by omega)]; rfl
  rw [hi] at HI
  have ho : (FloatKind.f64.format.order b 0 == some .eq) = true := by
    rcases hb with rfl | rfl <;> decide +kernel
  clear hi hb
  go_enter Tryz.func20, Tryz.ntmps20
  go_wp2_with fail
  refine (HI _).mono ?_
  rintro e w1 ⟨rfl, e1⟩
  subst e1
  clear HI
  go_wp2
  go_ret
  exact ⟨rfl, Below.refl _ _⟩
attribute [local go_sem] neg_f
set_option maxRecDepth 100000 in
set_option maxHeartbeats 1000000 in
/-- near.Show below nought -/
theorem showN (n : Nat) (w : World) (hk : 1 ≤ n) (hki : n < 9218868437227405312) (hT : TP w) :
    Calls Tryz.prog 7 #[.float .f64 (n + 9223372036854775808)] w fun e w' => ∃ d x, e = .returned (.string (⟨#[45]⟩ ++ dtx d x)) ∧ Dc n d x ∧ Sd n d x ∧ Below w.heap.size w w' := by
  have HN := fun u => isNaN_f (n + 9223372036854775808) u
  rw [decide_eq_false (by omega)] at HN
  have hK : key (n + 9223372036854775808) = -(n : Int) := by
    have := key_fin (b := n + 9223372036854775808) (by omega) (by omega)
    omega
  have ho : (FloatKind.f64.format.order (n + 9223372036854775808) 0 == some .lt) = true := by
    have : FloatKind.f64.format.order (n + 9223372036854775808) 0 = some (compare (key (n + 9223372036854775808)) (key 0)) := order_key (by omega) (by decide)
    rw [this, show key 0 = 0 from rfl, cmpLt, hK]
    exact decide_eq_true (by omega)
  have HG : Op.negFloat .f64 (n + 9223372036854775808) = n := neg_hi (by omega)
  have HS := fun u hu => show0 n u hk hki hu
  clear hK hk hki
  generalize n + 9223372036854775808 = b at *
  go_enter Tryz.func7, Tryz.ntmps7
  go_wp2_with fail
  refine (HN _).mono ?_
  rintro e w1 ⟨rfl, e1⟩
  subst e1
  clear HN
  go_wp2_with fail
  refine (HS _ hT).mono ?_
  rintro e w2 ⟨d, x, rfl, D, SD, hb0⟩
  have hz : ¬ 9223372036854775807 < 1 + (dtx d x).size := by
    unfold dtx
    have z1 := (size_txt18 D.2.1).1
    have z2 := size_txtI (k := x) (by have := D.2.2.1; have := D.2.2.2.1; omega)
    split
    · omega
    · rw [ByteArray.size_append, ByteArray.size_append, show (⟨#[101]⟩ : ByteArray).size = 1 from rfl]; omega
  have R : Hid (Dc n d x ∧ Sd n d x) := ⟨D, SD⟩
  obtain ⟨s, hs⟩ : ∃ s, dtx d x = s := ⟨_, rfl⟩
  have HSS : Hid (dtx d x = s) := hs
  rw [hs] at hz ⊢
  clear D SD HS HG ho hT hs
  go_wp2
  go_ret
  exact ⟨d, x, by rw [HSS.out]; rfl, R.out.1, R.out.2, hb0⟩
set_option maxRecDepth 100000 in
set_option maxHeartbeats 1000000 in
/-- .. and above it -/
theorem showP (b : Nat) (w : World) (hk : 1 ≤ b) (hki : b < 9218868437227405312) (hT : TP w) :
    Calls Tryz.prog 7 #[.float .f64 b] w fun e w' => ∃ d x, e = .returned (.string (dtx d x)) ∧ Dc b d x ∧ Sd b d x ∧ Below w.heap.size w w' := by
  have HN := fun u => isNaN_f b u
  rw [decide_eq_false (by omega)] at HN
  have hK : key b = (b : Int) := by
    have := key_fin (b := b) (by omega) (by omega)
    omega
  have ho : (FloatKind.f64.format.order b 0 == some .lt) = false := by
    have : FloatKind.f64.format.order b 0 = some (compare (key b) (key 0)) := order_key (by omega) (by decide)
    rw [this, show key 0 = 0 from rfl, cmpLt, hK]
    exact decide_eq_false (by omega)
  have HS := fun u hu => show0 b u hk hki hu
  clear hK hk hki
  go_enter Tryz.func7, Tryz.ntmps7
  go_wp2_with fail
  refine (HN _).mono ?_
  rintro e w1 ⟨rfl, e1⟩
  subst e1
  clear HN
  go_wp2_with fail
  refine (HS _ hT).mono ?_
  rintro e w2 ⟨d, x, rfl, D, SD, hb0⟩
  have R : Hid (Dc b d x ∧ Sd b d x) := ⟨D, SD⟩
  obtain ⟨s, hs⟩ : ∃ s, dtx d x = s := ⟨_, rfl⟩
  have HSS : Hid (dtx d x = s) := hs
  rw [hs]
  clear D SD HS ho hT hs
  go_wp2
  go_ret
  exact ⟨d, x, by rw [HSS.out]; rfl, R.out.1, R.out.2, hb0⟩
set_option maxRecDepth 100000 in
set_option maxHeartbeats 1000000 in
/-- .. and of either nought -/
theorem showZ (b : Nat) (w : World) (hb : b = 0 ∨ b = 9223372036854775808) : Calls Tryz.prog 7 #[.float .f64 b] w fun e w' => e = .returned (.string ⟨#[48]⟩) ∧ Below w.heap.size w w' := by
  have HN := fun u => isNaN_f b u
  rw [decide_eq_false (by omega)] at HN
  have ho : (FloatKind.f64.format.order b 0 == some .lt) = false := by
    rcases hb with rfl | rfl <;> decide +kernel
  have HS := fun u => show00 b u hb
  clear hb
  go_enter Tryz.func7, Tryz.ntmps7
  go_wp2_with fail
  refine (HN _).mono ?_
  rintro e w1 ⟨rfl, e1⟩
  subst e1
  clear HN
  go_wp2_with fail
  refine (HS _).mono ?_
  rintro e w2 ⟨rfl, hb0⟩
  clear HS ho
  go_wp2
  go_ret
  exact ⟨rfl, hb0⟩
theorem showQ (b : Nat) (w : World) (hl : b < 18446744073709551616) (h : b % 9223372036854775808 < 9218868437227405312) (hT : TP w) :
    Calls Tryz.prog 7 #[.float .f64 b] w fun e w' => ∃ s, e = .returned (.string s) ∧ Rd s (key b) ∧ Below w.heap.size w w' := by
  obtain ⟨k1, k2, hm, k3⟩ := key_fin hl h
  rcases Int.lt_trichotomy (key b) 0 with hk | hk | hk
  · obtain ⟨n, rfl⟩ : ∃ n, b = n + 9223372036854775808 := ⟨b - 9223372036854775808, by omega⟩
    refine (showN n w (by omega) (by omega) hT).mono ?_
    rintro e w' ⟨d, x, rfl, D, -, hb⟩
    exact ⟨_, rfl, by rw [show key (n + 9223372036854775808) = -(n : Int) by omega]; exact rd_neg D, hb⟩
  · refine (showZ b w (by omega)).mono ?_
    rintro e w' ⟨rfl, hb⟩
    exact ⟨_, rfl, by rw [hk]; exact rd_zero, hb⟩
  · refine (showP b w (by omega) (by omega) hT).mono ?_
    rintro e w' ⟨d, x, rfl, D, -, hb⟩
    exact ⟨_, rfl, by rw [show key b = (b : Int) by omega]; exact rd_pos D, hb⟩
end Go.Proofs.YtbkkepbmaadomaaGreatDoor

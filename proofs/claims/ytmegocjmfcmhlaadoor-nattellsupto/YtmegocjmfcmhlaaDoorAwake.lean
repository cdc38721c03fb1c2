import Derived.Test.YtmegocjmfcmhlaaDoorNumAll
namespace Go.Proofs.YtmegocjmfcmhlaaDoor
open Go.RowKit

theorem aw1 : tlen (addL [18446744073709551615] [1, 0]) = 2 ∧ (addL [18446744073709551615] [1, 0]).length = 2 ∧ lm (addL [18446744073709551615] [1, 0]) 0 = 0 ∧ lm (addL [18446744073709551615] [1, 0]) 1 = 1 := by decide +kernel
theorem aw2 : tlen (quoW [0, 0, 1] 18446744073709551615) = 2 ∧ tlen [(0 : Int), 0, 1] = 3 ∧ (quoW [0, 0, 1] 18446744073709551615).length = 3 ∧ lm (quoW [0, 0, 1] 18446744073709551615) 0 = 1 ∧ lm (quoW [0, 0, 1] 18446744073709551615) 1 = 1 ∧ remW [0, 0, 1] 18446744073709551615 = 1 := by decide +kernel
theorem aw3 : tlen [(1 : Int)] = 1 ∧ trimL [(1 : Int)] = [1] := by decide +kernel
theorem aw4 : tlen [(18446744073709551615 : Int)] = 1 := by decide +kernel
theorem allW1 : AllW [18446744073709551615] := by intro x hx; simp at hx; subst hx; unfold Word; omega
theorem allW2 : AllW [1, 0] := by intro x hx; simp at hx; unfold Word; omega
theorem allW3 : AllW [0, 0, 1] := by intro x hx; simp at hx; unfold Word; omega


set_option maxHeartbeats 1000000 in
theorem awake_any (w : World) : Calls Tryd.prog 7 #[] w fun e w' => e = .returned (.bool true) ∧ Below w.heap.size w w' := by
  go_enter Tryd.func7, Tryd.ntmps7
  go_wp2_with fail
  have k1 : Blk ((w.alloc (Obj.cells #[Value.int IntKind.u64 18446744073709551615] 37)).alloc (Obj.cells #[Value.int IntKind.u64 1, Value.int IntKind.u64 0] 37)) w.heap.size [18446744073709551615] := (blk_new [18446744073709551615]).alloc _
  have k2 : Blk ((w.alloc (Obj.cells #[Value.int IntKind.u64 18446744073709551615] 37)).alloc (Obj.cells #[Value.int IntKind.u64 1, Value.int IntKind.u64 0] 37)) (w.heap.size + 1) [1, 0] := blk_new2 _ [1, 0]
  refine (add_any _ _ 1 2 1 2 [18446744073709551615] [1, 0] _ rfl rfl (Nat.le_refl _) (Nat.le_refl _) (by omega) (by omega) k1.reads' k2.reads' allW1 allW2).mono ?_
  rintro e w1 ⟨g, rfl, hg, hb, hbel⟩
  have hbel1 : Below w.heap.size w w1 := bel_tr (below2 w _ _) hbel
  have hg1 : g < w1.heap.size := hb.lt
  clear hbel hg k1 k2
  obtain ⟨a1, a2, a3, a4⟩ := aw1
  rw [a1, a2]
  have c0 := hb.cell (i := 0) (by rw [a2]; decide)
  have c1 := hb.cell (i := 1) (by rw [a2]; decide)
  rw [a3] at c0
  rw [a4] at c1
  clear a1 a2 a3 a4 hb
  go_wp2_with fail
  have k1 : Blk ((w1.alloc (Obj.cells #[Value.int IntKind.u64 0, Value.int IntKind.u64 0, Value.int IntKind.u64 1] 37)).alloc (Obj.cells #[Value.int IntKind.u64 18446744073709551615] 37)) w1.heap.size [0, 0, 1] := (blk_new [0, 0, 1]).alloc _
  have k2 : Blk ((w1.alloc (Obj.cells #[Value.int IntKind.u64 0, Value.int IntKind.u64 0, Value.int IntKind.u64 1] 37)).alloc (Obj.cells #[Value.int IntKind.u64 18446744073709551615] 37)) (w1.heap.size + 1) [18446744073709551615] := blk_new2 _ [18446744073709551615]
  refine (divmod_word _ _ 3 1 3 1 [0, 0, 1] [18446744073709551615] _ rfl rfl (Nat.le_refl _) (Nat.le_refl _) (by omega) (by omega) k1.reads' k2.reads' allW3 allW1 aw4 (by rw [aw2.2.1]; omega) 18446744073709551615 rfl (by omega)).mono ?_
  rintro e w2 ⟨g2, c, capc, rfl, hg2, hb2, hown, hbel⟩
  have hbel2 : Below w1.heap.size w1 w2 := bel_tr (below2 w1 _ _) hbel
  clear hbel k1 k2
  obtain ⟨a1, a2, a5, a3, a4, a6⟩ := aw2
  rw [a1, a2, a6, aw3.1]
  rw [a6, aw3.2] at hown
  have d0 := hb2.cell (i := 0) (by rw [a5]; decide)
  have d1 := hb2.cell (i := 1) (by rw [a5]; decide)
  rw [a3] at d0
  rw [a4] at d1
  have c0' : w2.cell? ⟨g, 0, none⟩ = some (.int .u64 0) := by rw [hbel2.cell (p := ⟨g, 0, none⟩) hg1]; exact c0
  have c1' : w2.cell? ⟨g, 1, none⟩ = some (.int .u64 1) := by rw [hbel2.cell (p := ⟨g, 1, none⟩) hg1]; exact c1
  obtain ⟨b3, o3, rfl, hc3⟩ := hown.reads.at (by simp)
  have e0 := hc3 0 (by simp)
  have e0' : w2.cell? ⟨b3, o3, none⟩ = some (.int .u64 1) := e0
  have hfin : Below w.heap.size w w2 := bel_tr hbel1 hbel2
  clear a1 a2 a3 a4 a5 a6 c0 c1 hown hc3 e0 hb2 hbel1 hbel2 hg2
  go_wp2
  go_ret
  exact ⟨rfl, hfin⟩
end Go.Proofs.YtmegocjmfcmhlaaDoor

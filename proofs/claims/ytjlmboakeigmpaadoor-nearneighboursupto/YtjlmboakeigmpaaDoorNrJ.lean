import Derived.Test.YtjlmboakeigmpaaDoorNrGAll
import Derived.Test.YtjlmboakeigmpaaDoorSNAll
import Derived.Test.YtjlmboakeigmpaaDoorRefChoose
namespace Go.Proofs.YtjlmboakeigmpaaDoor
open Go.RowKit

theorem got_3 {w : World} : Got (w.alloc (.cells #[Value.int .u64 3] 38)) w.heap.size (.slice (some ⟨w.heap.size, 0, none⟩) 1 1) 3 1 := by
  have hbk : Blk (w.alloc (Obj.cells #[Value.int IntKind.u64 3] 38)) w.heap.size [3] := blk_new [3]
  have G0 := got_of_blk hbk (fun x hx => by simp at hx; subst hx; exact ⟨by omega, by omega⟩) (Nat.le_refl _) 1 rfl (S := 1) (by simp) (by simp)
  have e1 : tlen [(3 : Int)] = 1 := by decide
  have e2 : val [(3 : Int)] = 3 := by decide
  rwa [e1, e2] at G0
theorem got_8 {w : World} : Got (w.alloc (.cells #[Value.int .u64 8] 38)) w.heap.size (.slice (some ⟨w.heap.size, 0, none⟩) 1 1) 8 1 := by
  have hbk : Blk (w.alloc (Obj.cells #[Value.int IntKind.u64 8] 38)) w.heap.size [8] := blk_new [8]
  have G0 := got_of_blk hbk (fun x hx => by simp at hx; subst hx; exact ⟨by omega, by omega⟩) (Nat.le_refl _) 1 rfl (S := 1) (by simp) (by simp)
  have e1 : tlen [(8 : Int)] = 1 := by decide
  have e2 : val [(8 : Int)] = 8 := by decide
  rwa [e1, e2] at G0
theorem gr_three {w : World} {B : Nat} {f : Bool} {c : Option Addr} {n k : Nat} {c' : Option Addr} {n' k' : Nat} {S : Nat} (h : GR w B f c n k c' n' k' (Rat.divInt (ws false 6755399441055744) (ws false (1 * 2 ^ 54))) S) : f = false ∧ Got w B (.slice c n k) 3 S ∧ Got w B (.slice c' n' k') 8 S := by
  obtain ⟨⟨a, m, l, e, G⟩, H⟩ := h
  have hn : (Rat.divInt (ws false 6755399441055744) (ws false (1 * 2 ^ 54))).num = 3 := by decide +kernel
  have hd : ((Rat.divInt (ws false 6755399441055744) (ws false (1 * 2 ^ 54))).den : Int) = 8 := by decide +kernel
  rw [hn] at e G
  rw [hd] at H
  simp only [Value.agg.injEq, Array.mk.injEq, List.cons.injEq, Value.bool.injEq, Value.slice.injEq, and_true] at e
  obtain ⟨rfl, rfl, rfl, rfl⟩ := e
  exact ⟨rfl, G, H⟩
theorem exact38 (w : World) (hT : TB w) : Calls Tryd.prog 19 #[.float .f64 4600427019358961664] w fun e w' => ∃ c n k c' n' k', e = .returned (.tuple #[.agg #[.bool false, .slice c n k, .slice c' n' k'], .nilIface]) ∧ Got w' w.heap.size (.slice c n k) 3 1026 ∧ Got w' w.heap.size (.slice c' n' k') 8 1026 ∧ Below w.heap.size w w' := by
  refine (exactOkD (m := 6755399441055744) (q := 54) (sg := false) w (by decide) (by decide) (by decide) (by decide) (by decide) (by decide) (by decide) (by decide) hT).mono ?_
  rintro e w1 ⟨f, c, n, k, c', n', k', rfl, G, hx⟩
  obtain ⟨rfl, G1, G2⟩ := gr_three G
  exact ⟨_, _, _, _, _, _, rfl, G1, G2, hx⟩
theorem eq_tenth : (FloatKind.f64.format.order 4591870180066957722 4591870180066957722 == some .eq) = true := by decide +kernel
set_option maxRecDepth 100000 in
set_option maxHeartbeats 4000000 in
theorem awake4 (w : World) (hT : TB w) : Calls Tryd.prog 6 #[] w fun e w' => e = .returned (.bool true) ∧ Below w.heap.size w w' := by
  have HE := eq_tenth
  go_enter Tryd.func6, Tryd.ntmps6
  go_wp2_with fail
  have n1 := (reads_one (w := w) (z := 1)).2 (by decide)
  have n2 := (reads_one (w := w.alloc (.cells #[.int .u64 1] 38)) (z := 10)).2 (by decide)
  replace n1 := n1.below (bel_d0 _ (.cells #[.int .u64 10] 38))
  have hb0 := bel_tr (bel_d0 w (.cells #[.int .u64 1] 38)) (bel_d0 _ (.cells #[.int .u64 10] 38))
  rw [World.size_alloc] at n2
  generalize (w.alloc (.cells #[.int .u64 1] 38)).alloc (.cells #[.int .u64 10] 38) = W0 at *
  replace hT := hT.below hb0
  refine (floatTen _ n1 n2).mono ?_
  rintro e w1 ⟨rfl, hx⟩
  replace hT := hT.below hx
  replace hb0 := bel_tr hb0 hx
  clear hx n1 n2
  go_wp2_with fail
  refine (exact38 _ hT).mono ?_
  rintro e w2 ⟨c, n, k, c', n', k', rfl, G1, G2, hx⟩
  replace hb0 := bel_tr hb0 hx
  clear hx hT
  have P0 := var3_new w2 (.bool false) (.slice c n k) (.slice c' n' k') 27
  have hx := bel_d0 w2 (.cells #[.bool false, .slice c n k, .slice c' n' k'] 27)
  replace G1 := G1.below hx
  replace G2 := G2.below hx
  replace hb0 := bel_tr hb0 hx
  clear hx
  obtain ⟨c0, c1, c2, c3, c4, c5⟩ := id P0
  go_wp2_with fail
  have hs3 : (w2.alloc (.cells #[.bool false, .slice c n k, .slice c' n' k'] 27)).heap.size = w2.heap.size + 1 := by simp
  generalize w2.alloc (.cells #[.bool false, .slice c n k, .slice c' n' k'] 27) = w3 at *
  have g3 := got_3 (w := w3)
  rw [hs3] at g3
  have hx := bel_d0 w3 (.cells #[.int .u64 3] 38)
  replace G1 := G1.below hx
  replace G2 := G2.below hx
  replace P0 := P0.below hx
  replace hb0 := bel_tr hb0 hx
  clear hx c0 c1 c2 c3 c4 c5 hs3
  generalize w3.alloc (.cells #[.int .u64 3] 38) = w4 at *
  refine (sameG _ G1 g3 rfl (by decide)).mono ?_
  rintro e w5 ⟨rfl, hx⟩
  replace G2 := G2.below hx
  replace P0 := P0.below hx
  replace hb0 := bel_tr hb0 hx
  clear hx g3 G1
  obtain ⟨c0, c1, c2, c3, c4, c5⟩ := id P0
  go_wp2_with fail
  have g8 := got_8 (w := w5)
  have hx := bel_d0 w5 (.cells #[.int .u64 8] 38)
  replace G2 := G2.below hx
  replace P0 := P0.below hx
  replace hb0 := bel_tr hb0 hx
  clear hx c0 c1 c2 c3 c4 c5
  generalize w5.alloc (.cells #[.int .u64 8] 38) = w6 at *
  refine (sameG _ G2 g8 rfl (by decide)).mono ?_
  rintro e w7 ⟨rfl, hx⟩
  replace P0 := P0.below hx
  replace hb0 := bel_tr hb0 hx
  clear hx g8 G2
  obtain ⟨c0, c1, c2, c3, c4, c5⟩ := id P0
  go_wp2
  go_ret
  exact ⟨by simp, hb0⟩
end Go.Proofs.YtjlmboakeigmpaaDoor

import Derived.Test.YtkgnbcbcgnlodaaGreatDoorRatAll
namespace Go.Proofs.YtkgnbcbcgnlodaaGreatDoor
open Go.RowKit

set_option maxHeartbeats 4000000 in
/-- rat.Of -/
theorem ofQ (v : Int) (w : World) (h0 : -9223372036854775808 ≤ v) (h1 : v < 9223372036854775808) :
    Calls Tryz.prog 47 #[.int .i64 v] w fun e w' => ∃ f c n k c' n' k', e = .returned (.agg #[.bool f, .slice c n k, .slice c' n' k']) ∧ GR w' w.heap.size f c n k c' n' k' ((v : Rat)) (1) ∧ Below w.heap.size w w' := by
  have R0 := var3_new w (.bool false) (.slice none 0 0) (.slice none 0 0) 27
  have hb0 := bel_d0 w (.cells #[.bool false, .slice none 0 0, .slice none 0 0] 27)
  have hsz : (w.alloc (.cells #[.bool false, .slice none 0 0, .slice none 0 0] 27)).heap.size = w.heap.size + 1 := by simp
  go_enter Tryz.func47, Tryz.ntmps47
  go_wp2_with fail
  generalize w.alloc (.cells #[.bool false, .slice none 0 0, .slice none 0 0] 27) = W0 at *
  refine (ofT v _ h0 h1).mono ?_
  rintro e w1 ⟨g5, u5, m5, l5, rfl, K1, hx⟩
  replace R0 := R0.below hx
  replace hb0 := bel_tr hb0 hx
  have hsw1 : W0.heap.size ≤ w1.heap.size := Below.size hx
  clear hx
  go_wp2_with fail
  refine (ofG 1 _ (by decide) (by decide)).mono ?_
  rintro e w2 ⟨u6, m6, l6, rfl, K2, hx⟩
  replace R0 := R0.below hx
  replace K1 := K1.below hx
  replace hb0 := bel_tr hb0 hx
  have hsw2 : w1.heap.size ≤ w2.heap.size := Below.size hx
  clear hx
  have GG : GR w2 (w.heap.size + 1) g5 u5 m5 l5 u6 m6 l6 (v : Rat) 1 := ⟨K1.mono (by omega), K2.mono (by omega)⟩
  clear K1 K2
  obtain ⟨z0, z1, z2, z3, z4, z5⟩ := id R0
  obtain ⟨V, O⟩ := R0.set (.bool g5) (.slice u5 m5 l5) (.slice u6 m6 l6)
  have GF := (GG.mono (B' := w.heap.size + 1) (by omega)).off O (by omega)
  have hw := hb0.trans (O.below (by omega))
  clear R0 O GG hb0
  go_wp2
  refine bodyPost_ret (v := .agg #[.bool g5, .slice u5 m5 l5, .slice u6 m6 l6]) (by simp [results, Tryz.results47, go_sem, V.c0, V.c1, V.c2]) rfl ⟨_, _, _, _, _, _, _, rfl, GF.mono (by omega), hw⟩
end Go.Proofs.YtkgnbcbcgnlodaaGreatDoor

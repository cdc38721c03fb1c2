import Derived.Test.YtfaccnmiopcneaaGreatDoorRatAll
namespace Go.Proofs.YtfaccnmiopcneaaGreatDoor
open Go.RowKit

theorem TR.neg {w : World} {p : Bool} {a : Option Addr} {na ca : Nat} {d : Option Addr} {nd cd : Nat} {r : Rat} {S : Nat} (h : TR w p a na ca d nd cd r S) : TR w (!p) a na ca d nd cd (-r) S := by
  obtain ⟨x, y, ⟨m, h1, h2⟩, h3, h4⟩ := h
  exact ⟨-x, y, ⟨m, h1, by rw [ws_not, h2]⟩, h3, by rw [← h4, Rat.neg_divInt]⟩
theorem box_rrii (w : World) (u v z u' v' z' u2 v2 u3 v3 : Value) (t t' : TypeId) : Var3 ((((w.alloc (.cells #[u, v, z] t)).alloc (.cells #[u', v', z'] t)).alloc (.cells #[u2, v2] t')).alloc (.cells #[u3, v3] t')) w.heap.size u v z ∧ Var3 ((((w.alloc (.cells #[u, v, z] t)).alloc (.cells #[u', v', z'] t)).alloc (.cells #[u2, v2] t')).alloc (.cells #[u3, v3] t')) (w.heap.size + 1) u' v' z' ∧
    Var2 ((((w.alloc (.cells #[u, v, z] t)).alloc (.cells #[u', v', z'] t)).alloc (.cells #[u2, v2] t')).alloc (.cells #[u3, v3] t')) (w.heap.size + 2) u2 v2 ∧ Var2 ((((w.alloc (.cells #[u, v, z] t)).alloc (.cells #[u', v', z'] t)).alloc (.cells #[u2, v2] t')).alloc (.cells #[u3, v3] t')) (w.heap.size + 3) u3 v3 ∧
    Below w.heap.size w ((((w.alloc (.cells #[u, v, z] t)).alloc (.cells #[u', v', z'] t)).alloc (.cells #[u2, v2] t')).alloc (.cells #[u3, v3] t')) ∧ ((((w.alloc (.cells #[u, v, z] t)).alloc (.cells #[u', v', z'] t)).alloc (.cells #[u2, v2] t')).alloc (.cells #[u3, v3] t')).heap.size = w.heap.size + 4 := by
  obtain ⟨a1, a2, a3, a4⟩ := box_rr w u v z u' v' z' t
  obtain ⟨b1, b2, b3, b4⟩ := box2 ((w.alloc (.cells #[u, v, z] t)).alloc (.cells #[u', v', z'] t)) u2 v2 u3 v3 t'
  rw [a4] at b1 b2
  exact ⟨a1.below b3, a2.below b3, b1, b2, bel_tr a3 b3, by simp⟩
set_option maxHeartbeats 4000000 in
/-- rat.Of -/
theorem ofQ (v : Int) (w : World) (h0 : -9223372036854775808 ≤ v) (h1 : v < 9223372036854775808) :
    Calls Tryz.prog 17 #[.int .i64 v] w fun e w' => ∃ f c n k c' n' k', e = .returned (.agg #[.bool f, .slice c n k, .slice c' n' k']) ∧ GR w' w.heap.size f c n k c' n' k' ((v : Rat)) (1) ∧ Below w.heap.size w w' := by
  have R0 := var3_new w (.bool false) (.slice none 0 0) (.slice none 0 0) 27
  have hb0 := bel_d0 w (.cells #[.bool false, .slice none 0 0, .slice none 0 0] 27)
  have hsz : (w.alloc (.cells #[.bool false, .slice none 0 0, .slice none 0 0] 27)).heap.size = w.heap.size + 1 := by simp
  go_enter Tryz.func17, Tryz.ntmps17
  go_wp2_with fail
  generalize w.alloc (.cells #[.bool false, .slice none 0 0, .slice none 0 0] 27) = W0 at *
  refine (ofT v _ h0 h1).mono ?_
  rintro e w1 ⟨g5, u5, m5, l5, rfl, K1, hx⟩
  replace R0 := R0.below hx
  replace hb0 := bel_tr hb0 hx
  have hsw1 : W0.heap.size ≤ w1.heap.size := Below.size hx
  clear hx
  go_wp2_with fail
  refine (ofG 1 _ (by decide) (by decide)).mono ?_
  rintro e w2 ⟨u6, m6, l6, rfl, K2, hx⟩
  replace R0 := R0.below hx
  replace K1 := K1.below hx
  replace hb0 := bel_tr hb0 hx
  have hsw2 : w1.heap.size ≤ w2.heap.size := Below.size hx
  clear hx
  have GG : GR w2 (w.heap.size + 1) g5 u5 m5 l5 u6 m6 l6 (v : Rat) 1 := ⟨K1.mono (by omega), K2.mono (by omega)⟩
  clear K1 K2
  obtain ⟨z0, z1, z2, z3, z4, z5⟩ := id R0
  obtain ⟨V, O⟩ := R0.set (.bool g5) (.slice u5 m5 l5) (.slice u6 m6 l6)
  have GF := (GG.mono (B' := w.heap.size + 1) (by omega)).off O (by omega)
  have hw := hb0.trans (O.below (by omega))
  clear R0 O GG hb0
  go_wp2
  refine bodyPost_ret (v := .agg #[.bool g5, .slice u5 m5 l5, .slice u6 m6 l6]) (by simp [results, Tryz.results17, go_sem, V.c0, V.c1, V.c2]) rfl ⟨_, _, _, _, _, _, _, rfl, GF.mono (by omega), hw⟩
end Go.Proofs.YtfaccnmiopcneaaGreatDoor

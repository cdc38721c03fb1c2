import Derived.Test.YtfelogbfijomiaaDoorLow
namespace Go.Proofs.YtfelogbfijomiaaDoor
open Go.RowKit

set_option maxHeartbeats 1000000 in
/-- whole.Neg -/
theorem negI {a : Option Addr} {na ca : Nat} {m : Int} {S : Nat} (p : Bool) (w : World) (ha : Num w a na ca m S) (hS : S ≤ 10000000000) :
    Calls Tryd.prog 15 #[.agg #[.bool p, .slice a na ca]] w fun e w' => ∃ v, e = .returned v ∧ GI w' w.heap.size v (-ws p m) S ∧ Below w.heap.size w w' := by
  obtain ⟨P0, R0, hb0, hsz⟩ := box2 w (.bool p) (.slice a na ca) (.bool false) (.slice none 0 0) 25
  replace ha := ha.below hb0
  go_enter Tryd.func15, Tryd.ntmps15
  go_wp2_with fail
  generalize (w.alloc (.cells #[.bool p, .slice a na ca] 25)).alloc (.cells #[.bool false, .slice none 0 0] 25) = W0 at *
  obtain ⟨p00, p01, p02, p03⟩ := id P0
  refine (fromI (!p) _ ha (by omega)).mono ?_
  rintro e w2 ⟨v, rfl, G, hb1⟩
  obtain ⟨c1, n1, d1, rfl, GG⟩ := id G
  have GF : GI w2 W0.heap.size _ (-ws p m) S := G.val (ws_not p m)
  have R1 := R0.below hb1
  obtain ⟨r0, r1, r2, r3⟩ := id R1
  have hw2 := bel_tr hb0 hb1
  obtain ⟨V, O⟩ := R1.set (.bool (decide (ws (!p) m < 0))) (.slice c1 n1 d1)
  clear P0 R0 p00 p01 p02 p03 ha hb0 hb1 GG G
  go_wp2
  refine bodyPost_ret (v := .agg #[.bool (decide (ws (!p) m < 0)), .slice c1 n1 d1]) (by simp [results, Tryd.results15, go_sem, V.c0, V.c1]) rfl ⟨_, rfl, ((GF.off O (by omega)).mono (by omega)), hw2.trans (O.below (by omega))⟩

end Go.Proofs.YtfelogbfijomiaaDoor

import Derived.Test.YtfelogbfijomiaaDoorLow
namespace Go.Proofs.YtfelogbfijomiaaDoor
open Go.RowKit

set_option maxHeartbeats 1000000 in
/-- whole.Abs -/
theorem absI {a : Option Addr} {na ca : Nat} {m : Int} {S : Nat} (p : Bool) (w : World) (ha : Num w a na ca m S) (hS : S ≤ 10000000000) :
    Calls Tryd.prog 29 #[.agg #[.bool p, .slice a na ca]] w fun e w' => ∃ c1 n1 d1, e = .returned (.slice c1 n1 d1) ∧ Got w' w.heap.size (.slice c1 n1 d1) m S ∧ Below w.heap.size w w' := by
  obtain ⟨P0, hb0, hsz⟩ := box1 w (.bool p) (.slice a na ca) 25
  replace ha := ha.below hb0
  go_enter Tryd.func29, Tryd.ntmps29
  go_wp2_with fail
  generalize w.alloc (.cells #[.bool p, .slice a na ca] 25) = W0 at *
  obtain ⟨p00, p01, p02, p03⟩ := id P0
  refine (normG _ ha (by omega)).mono ?_
  rintro e w2 ⟨c1, n1, d1, rfl, G, hb1⟩
  have hw2 := bel_tr hb0 hb1
  clear P0 p00 p01 p02 p03 ha hb0 hb1
  go_wp2
  go_ret
  exact ⟨_, _, _, rfl, G.mono (by omega), hw2⟩

end Go.Proofs.YtfelogbfijomiaaDoor

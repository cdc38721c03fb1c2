import Derived.Test.YtimdohckhfmhiaaGreatDoorRatAll
import Derived.Test.YtimdohckhfmhiaaGreatDoorLentAll
namespace Go.Proofs.YtimdohckhfmhiaaGreatDoor
open Go.RowKit

set_option maxHeartbeats 4000000 in
theorem refSameP {f g : Bool} {c c2 : Option Addr} {n n2 k k2 : Nat} {d d2 : Option Addr} {nd nd2 kd kd2 : Nat} {x y : Int} {B B' S R : Nat} (w : World) (ha : GI w B (.agg #[.bool f, .slice c n k]) x S) (La : Got w B (.slice d nd kd) y S) (hb : GI w B' (.agg #[.bool g, .slice c2 n2 k2]) x R) (Lb : Got w B' (.slice d2 nd2 kd2) y R) (hS : S ≤ 100000000) :
    Calls Tryz.prog 34 #[.agg #[.bool f, .slice c n k, .slice d nd kd], .agg #[.bool g, .slice c2 n2 k2, .slice d2 nd2 kd2]] w fun e w' => e = .returned (.bool true) ∧ Below w.heap.size w w' := by
  obtain ⟨P0, P1, hb0, hsz⟩ := box_rr w (.bool f) (.slice c n k) (.slice d nd kd) (.bool g) (.slice c2 n2 k2) (.slice d2 nd2 kd2) 27
  obtain ⟨_, _, _, e1, Ka⟩ := ha
  obtain ⟨_, _, _, e2, Kb⟩ := hb
  simp only [Value.agg.injEq, Array.mk.injEq, List.cons.injEq, Value.bool.injEq, Value.slice.injEq, and_true] at e1 e2
  obtain ⟨rfl, rfl, rfl, rfl⟩ := e1
  obtain ⟨rfl, rfl, rfl, rfl⟩ := e2
  generalize decide (x < 0) = f at *
  replace Ka := Ka.below hb0
  replace La := La.below hb0
  replace Kb := Kb.below hb0
  replace Lb := Lb.below hb0
  go_enter Tryz.func34, Tryz.ntmps34
  obtain ⟨p0c0, p0c1, p0c2, p0c3, p0c4, p0c5⟩ := id P0
  obtain ⟨p1c0, p1c1, p1c2, p1c3, p1c4, p1c5⟩ := id P1
  go_wp2_with fail
  generalize (w.alloc (.cells #[.bool f, .slice c n k, .slice d nd kd] 27)).alloc (.cells #[.bool f, .slice c2 n2 k2, .slice d2 nd2 kd2] 27) = W0 at *
  refine (sameG _ Ka Kb rfl (by omega)).mono ?_
  rintro e w1 ⟨rfl, hx⟩
  clear p0c0 p0c1 p0c2 p0c3 p0c4 p0c5 p1c0 p1c1 p1c2 p1c3 p1c4 p1c5
  replace Ka := Ka.below hx
  replace La := La.below hx
  replace Kb := Kb.below hx
  replace Lb := Lb.below hx
  replace P0 := P0.below hx
  replace P1 := P1.below hx
  replace hb0 := bel_tr hb0 hx
  have hsw1 : W0.heap.size ≤ w1.heap.size := Below.size hx
  clear hx
  obtain ⟨p0c0, p0c1, p0c2, p0c3, p0c4, p0c5⟩ := id P0
  obtain ⟨p1c0, p1c1, p1c2, p1c3, p1c4, p1c5⟩ := id P1
  go_wp2_with fail
  refine (sameG _ La Lb rfl (by omega)).mono ?_
  rintro e w2 ⟨rfl, hx⟩
  clear p0c0 p0c1 p0c2 p0c3 p0c4 p0c5 p1c0 p1c1 p1c2 p1c3 p1c4 p1c5
  replace Ka := Ka.below hx
  replace La := La.below hx
  replace Kb := Kb.below hx
  replace Lb := Lb.below hx
  replace P0 := P0.below hx
  replace P1 := P1.below hx
  replace hb0 := bel_tr hb0 hx
  have hsw2 : w1.heap.size ≤ w2.heap.size := Below.size hx
  clear hx
  obtain ⟨p0c0, p0c1, p0c2, p0c3, p0c4, p0c5⟩ := id P0
  obtain ⟨p1c0, p1c1, p1c2, p1c3, p1c4, p1c5⟩ := id P1
  go_wp2_with (cases f <;> rfl)
  go_ret
  exact ⟨by simp, hb0⟩
end Go.Proofs.YtimdohckhfmhiaaGreatDoor

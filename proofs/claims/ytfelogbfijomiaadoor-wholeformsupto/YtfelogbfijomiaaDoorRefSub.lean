import Derived.Test.YtfelogbfijomiaaDoorRefC
namespace Go.Proofs.YtfelogbfijomiaaDoor
open Go.RowKit
set_option maxHeartbeats 400000 in
/-- The document's difference. -/
theorem rsubV {a b : Option Addr} {na nb ca cb : Nat} {x y : Int} {S R : Nat} (w : World) (ha : Num w a na ca x S) (hb : Num w b nb cb y R) (hS : S ≤ 100000000) (hR : R ≤ 100000000) (hxy : y ≤ x) :
    Calls Tryd.prog 79 #[.slice a na ca, .slice b nb cb] w fun e w' => ∃ c n cc, e = .returned (.slice c n cc) ∧ Got w' w.heap.size (.slice c n cc) (x - y) (2 * S) ∧ Below w.heap.size w w' := by
  have HXY : Hid (y ≤ x) := hxy
  clear hxy
  go_enter Tryd.func79, Tryd.ntmps79
  go_wp2_with fail
  refine (halvesV _ ha (by omega)).mono ?_
  rintro e w1 ⟨c1, n1, k1, rfl, H1, hb1⟩
  replace hb := hb.below hb1
  clear ha
  go_wp2_with fail
  refine (halvesV _ hb (by omega)).mono ?_
  rintro e w2 ⟨c2, n2, k2, rfl, H2, hb2⟩
  replace H1 := H1.below hb2
  replace hb1 := bel_tr hb1 hb2
  clear hb hb2
  go_wp2_with fail
  refine (rcmpV _ H1 H2 (by omega) (by omega)).mono ?_
  rintro e w3 ⟨c, rfl, hc, hb2⟩
  replace H1 := H1.below hb2
  replace H2 := H2.below hb2
  replace hb1 := bel_tr hb1 hb2
  have hc0 : ¬ c < 0 := by have := HXY.out; omega
  clear hb2 hc
  go_wp2_with fail
  refine (minusV _ H1 H2 (by omega) (by omega) HXY.out).mono ?_
  rintro e w4 ⟨c4, n4, k4, rfl, H4, hb2⟩
  replace hb1 := bel_tr hb1 hb2
  clear hb2 H1 H2
  go_wp2_with fail
  refine (numberV _ H4 (by omega)).mono ?_
  rintro e w5 ⟨c5, n5, k5, rfl, H5, hb2⟩
  replace H5 := H5.mono (hb1.size)
  replace hb1 := bel_tr hb1 hb2
  clear hb2 H4
  go_wp2
  go_ret
  exact ⟨c5, n5, k5, rfl, H5, hb1⟩
end Go.Proofs.YtfelogbfijomiaaDoor

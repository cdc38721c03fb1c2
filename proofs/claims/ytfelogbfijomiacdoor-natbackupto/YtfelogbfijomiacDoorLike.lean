import Derived.Test.YtfelogbfijomiacDoorNum
namespace Go.Proofs.YtfelogbfijomiacDoor
open Go.RowKit
set_option maxHeartbeats 400000 in
theorem likeV {a b : Option Addr} {na nb ca cb : Nat} {x y : Int} {S R : Nat} (w : World) (ha : Num w a na ca x S) (hb : Num w b nb cb y R) (hS : S ≤ 1000000000000) (hR : R ≤ 1000000000000) (hxy : x = y) :
    Calls Tryd.prog 9 #[.slice a na ca, .slice b nb cb] w fun e w' => e = .returned (.bool true) ∧ Below w.heap.size w w' := by
  have HXY : Hid (x = y) := hxy
  clear hxy
  go_enter Tryd.func9, Tryd.ntmps9
  go_wp2_with fail
  refine (cmpV w ha hb hS hR).mono ?_
  rintro e w1 ⟨c, rfl, hc, m, rfl⟩
  obtain rfl : c = 0 := by have := HXY.out; omega
  clear hc
  go_wp2
  go_ret
  exact ⟨rfl, belN (Below.refl _ _) m⟩
end Go.Proofs.YtfelogbfijomiacDoor

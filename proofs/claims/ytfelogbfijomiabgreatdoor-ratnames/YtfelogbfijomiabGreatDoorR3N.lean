import Derived.Test.YtfelogbfijomiabGreatDoorLawAll
import Derived.Test.YtfelogbfijomiabGreatDoorLaid3
namespace Go.Proofs.YtfelogbfijomiabGreatDoor
open Go.RowKit

set_option maxRecDepth 100000 in
set_option maxHeartbeats 4000000 in
theorem names_walk (w : World) (hT : TB w) {a b c d : Addr} {x y z u : List UInt8} (A : Err3 w 0 a x) (B : Err3 w 1 b y) (C : Err3 w 2 c z) (D : Err3 w 3 d u)
    (h1 : x ≠ y) (h2 : x ≠ z) (h3 : x ≠ u) (h4 : y ≠ z) (h5 : y ≠ u) (h6 : z ≠ u) :
    Calls Tryz.prog 3 #[] w fun e w' => e = .returned (.bool true) ∧ Below w.heap.size w w' := by
  go_enter Tryz.func3, Tryz.ntmps3
  go_wp2_with fail
  refine (shownQ _ hT B.errs).mono ?_
  rintro e w1 ⟨rfl, hb⟩
  replace A := A.below hb
  replace B := B.below hb
  replace C := C.below hb
  replace D := D.below hb
  have n1 := neq3 A B h1
  have n2 := neq3 A C h2
  have n3 := neq3 A D h3
  have n4 := neq3 B C h4
  have n5 := neq3 B D h5
  have n6 := neq3 C D h6
  obtain ⟨ca, _⟩ := A
  obtain ⟨cb, _⟩ := B
  obtain ⟨cc, _⟩ := C
  obtain ⟨cd, _⟩ := D
  go_wp2_with fail
  go_ret
  exact ⟨rfl, hb⟩
end Go.Proofs.YtfelogbfijomiabGreatDoor

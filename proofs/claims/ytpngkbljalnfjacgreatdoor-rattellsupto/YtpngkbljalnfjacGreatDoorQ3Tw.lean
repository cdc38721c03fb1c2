import Derived.Test.YtpngkbljalnfjacGreatDoorQ3T
import Derived.Test.YtpngkbljalnfjacGreatDoorR3S
namespace Go.Proofs.YtpngkbljalnfjacGreatDoor
open Go.RowKit

theorem textB (t : ByteArray) {p : Bool} {a : Option Addr} {na ca : Nat} {d : Option Addr} {nd cd : Nat} {r : Rat} {S : Nat} (w : World) (hr : TR w p a na ca d nd cd r S) (hS : S ≤ 7000000) (hS1 : 1 ≤ S) (hT : TB w) (ht : t = txtQ r) :
    Calls Tryz.prog 14 #[.agg #[.bool p, .slice a na ca, .slice d nd cd]] w fun e w' => e = .returned (.string t) ∧ Below w.heap.size w w' := by
  rw [ht]; exact textQ w hr hS hS1 hT
theorem textDB (t : ByteArray) {p : Bool} {a : Option Addr} {na ca : Nat} {d : Option Addr} {nd cd : Nat} {r : Rat} {S : Nat} (w : World) (hr : TR w p a na ca d nd cd r S) (hS : S ≤ 7000000) (hS1 : 1 ≤ S) (ht : t = txtQ r) :
    Calls Tryz.prog 18 #[.agg #[.bool p, .slice a na ca, .slice d nd cd]] w fun e w' => e = .returned (.string t) ∧ Below w.heap.size w w' := by
  rw [ht]; exact textD w hr hS hS1
set_option maxRecDepth 100000 in
set_option maxHeartbeats 20000000 in
theorem tells_w {p1 : Bool} {a1 : Option Addr} {na1 ca1 : Nat} {d1 : Option Addr} {nd1 cd1 : Nat} {x : Rat} {S : Nat} (w : World) (hA : TR w p1 a1 na1 ca1 d1 nd1 cd1 x S) (hS : S ≤ 1100000) (hS1 : 1 ≤ S) (hT : TB w) {ev : Value} (E : Errs w 1 ev) {tv : ByteArray} (HTX : Hid (tv = txtQ x)) :
    Calls Tryz.prog 5 #[.agg #[.bool p1, .slice a1 na1 ca1, .slice d1 nd1 cd1]] w fun e w' => e = .returned (.bool true) ∧ Below w.heap.size w w' := by
  have VA := var3_new w (.bool p1) (.slice a1 na1 ca1) (.slice d1 nd1 cd1) 28
  have hb0 := bel_d0 w (.cells #[.bool p1, .slice a1 na1 ca1, .slice d1 nd1 cd1] 28)
  have hsz : w.heap.size + 1 ≤ (w.alloc (.cells #[.bool p1, .slice a1 na1 ca1, .slice d1 nd1 cd1] 28)).heap.size := by simp
  replace hA := hA.below hb0
  replace hT := hT.below hb0
  replace E := E.below hb0
  go_enter Tryz.func5, Tryz.ntmps5
  go_wp2_with fail
  generalize w.alloc (.cells #[.bool p1, .slice a1 na1 ca1, .slice d1 nd1 cd1] 28) = W0 at *
  refine (shownQ _ hT E).mono ?_
  rintro e w1 ⟨rfl, hx⟩
  replace hA := hA.below hx
  replace hT := hT.below hx
  replace E := E.below hx
  replace VA := VA.below hx
  replace hb0 := bel_tr hb0 hx
  replace hsz := Nat.le_trans hsz (Below.size hx)
  clear hx
  obtain ⟨vac0, vac1, vac2, vac3, vac4, vac5⟩ := id VA
  clear E
  go_wp2_with fail
  refine (textB tv _ hA (by omega) hS1 hT HTX.out).mono ?_
  rintro e w2 ⟨rfl, hx⟩
  clear vac0 vac1 vac2 vac3 vac4 vac5
  replace hA := hA.below hx
  replace hT := hT.below hx
  replace VA := VA.below hx
  replace hb0 := bel_tr hb0 hx
  replace hsz := Nat.le_trans hsz (Below.size hx)
  clear hx
  obtain ⟨vac0, vac1, vac2, vac3, vac4, vac5⟩ := id VA
  go_wp2_with fail
  refine (textDB tv _ hA (by omega) hS1 HTX.out).mono ?_
  rintro e w3 ⟨rfl, hx⟩
  clear vac0 vac1 vac2 vac3 vac4 vac5
  replace hA := hA.below hx
  replace hT := hT.below hx
  replace VA := VA.below hx
  replace hb0 := bel_tr hb0 hx
  replace hsz := Nat.le_trans hsz (Below.size hx)
  clear hx
  go_wp2
  go_ret
  exact ⟨by first | rfl | simp, hb0⟩
theorem tells_walk {p1 : Bool} {a1 : Option Addr} {na1 ca1 : Nat} {d1 : Option Addr} {nd1 cd1 : Nat} {x : Rat} {S : Nat} (w : World) (hA : TR w p1 a1 na1 ca1 d1 nd1 cd1 x S) (hS : S ≤ 1100000) (hS1 : 1 ≤ S) (hT : TB w) {ev : Value} (E : Errs w 1 ev) :
    Calls Tryz.prog 5 #[.agg #[.bool p1, .slice a1 na1 ca1, .slice d1 nd1 cd1]] w fun e w' => e = .returned (.bool true) ∧ Below w.heap.size w w' :=
  tells_w (tv := txtQ x) w hA hS hS1 hT E (show txtQ x = txtQ x from rfl)
end Go.Proofs.YtpngkbljalnfjacGreatDoor

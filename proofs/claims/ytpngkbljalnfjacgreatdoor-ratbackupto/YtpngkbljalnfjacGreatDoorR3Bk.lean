import Derived.Test.YtpngkbljalnfjacGreatDoorR3B0
import Derived.Test.YtpngkbljalnfjacGreatDoorR3Cm
import Derived.Test.YtpngkbljalnfjacGreatDoorR3S
import Derived.Test.YtpngkbljalnfjacGreatDoorR3SM
namespace Go.Proofs.YtpngkbljalnfjacGreatDoor
open Go.RowKit

theorem textB (t : ByteArray) {p : Bool} {a : Option Addr} {na ca : Nat} {d : Option Addr} {nd cd : Nat} {r : Rat} {S : Nat} (w : World) (hr : TR w p a na ca d nd cd r S) (hS : S ≤ 7000000) (hS1 : 1 ≤ S) (hT : TB w) (ht : t = txtQ r) :
    Calls Tryz.prog 14 #[.agg #[.bool p, .slice a na ca, .slice d nd cd]] w fun e w' => e = .returned (.string t) ∧ Below w.heap.size w w' := by
  rw [ht]; exact textQ w hr hS hS1 hT
theorem parseB (t : ByteArray) {r : Rat} {S : Nat} (w : World) (ht : t = txtQ r) (hs : t.size ≤ 100000000) (LX : (r.num.natAbs : Int) < pw S) (LV : (r.den : Int) < pw S) (hS : S ≤ 6000000) (hT : TB w) :
    Calls Tryz.prog 15 #[.string t] w fun e w' => ∃ f c n k c' n' k', e = .returned (.tuple #[.agg #[.bool f, .slice c n k, .slice c' n' k'], .nilIface]) ∧ GR w' w.heap.size f c n k c' n' k' r (S + 1) ∧ Below w.heap.size w w' := by
  subst ht; exact parseTxt r w hs LX LV hS hT
set_option maxRecDepth 100000 in
set_option maxHeartbeats 20000000 in
theorem back_eq {p1 : Bool} {a1 : Option Addr} {na1 ca1 : Nat} {d1 : Option Addr} {nd1 cd1 : Nat} {p2 : Bool} {a2 : Option Addr} {na2 ca2 : Nat} {d2 : Option Addr} {nd2 cd2 : Nat} {x y : Rat} {S : Nat} (w : World) (hA : TR w p1 a1 na1 ca1 d1 nd1 cd1 x S) (hB : TR w p2 a2 na2 ca2 d2 nd2 cd2 y S) (hS : S ≤ 1100000) (hS1 : 1 ≤ S) (hT : TB w) {ev : Value} (E : Errs w 1 ev) {sv : ByteArray} (HSV : Hid (sv = txtQ x)) (HTV : Hid (sv = txtQ y)) (HC : Hid ((0 : Int) = cs x y)) (LX : (x.num.natAbs : Int) < pw S) (LV : (x.den : Int) < pw S) (hz : sv.size ≤ 100000000) (HBY : Hid (∀ i, i < sv.size → (48 ≤ byt sv i ∧ byt sv i ≤ 57) ∨ (byt sv i = 45 ∧ i = 0) ∨ byt sv i = 47)) (HP : Hid (0 < sv.size)) :
    Calls Tryz.prog 4 #[.agg #[.bool p1, .slice a1 na1 ca1, .slice d1 nd1 cd1], .agg #[.bool p2, .slice a2 na2 ca2, .slice d2 nd2 cd2]] w fun e w' => e = .returned (.bool true) ∧ Below w.heap.size w w' := by
  obtain ⟨VA, VB, hb0, hsz⟩ := box_rr w (.bool p1) (.slice a1 na1 ca1) (.slice d1 nd1 cd1) (.bool p2) (.slice a2 na2 ca2) (.slice d2 nd2 cd2) 28
  replace hA := hA.below hb0
  replace hB := hB.below hb0
  replace hT := hT.below hb0
  replace E := E.below hb0
  go_enter Tryz.func4, Tryz.ntmps4
  go_wp2_with fail
  generalize (w.alloc (.cells #[.bool p1, .slice a1 na1 ca1, .slice d1 nd1 cd1] 28)).alloc (.cells #[.bool p2, .slice a2 na2 ca2, .slice d2 nd2 cd2] 28) = W0 at *
  replace hsz := Nat.le_of_eq hsz.symm
  refine (shownQ _ hT E).mono ?_
  rintro e w1 ⟨rfl, hx⟩
  replace hA := hA.below hx
  replace hB := hB.below hx
  replace hT := hT.below hx
  replace E := E.below hx
  replace VA := VA.below hx
  replace VB := VB.below hx
  replace hb0 := bel_tr hb0 hx
  replace hsz := Nat.le_trans hsz (Below.size hx)
  clear hx
  obtain ⟨vac0, vac1, vac2, vac3, vac4, vac5⟩ := id VA
  clear E
  go_wp2_with fail
  refine (textB sv _ hA (by omega) hS1 hT HSV.out).mono ?_
  rintro e w2 ⟨rfl, hx⟩
  clear vac0 vac1 vac2 vac3 vac4 vac5
  replace hA := hA.below hx
  replace hB := hB.below hx
  replace hT := hT.below hx
  replace VA := VA.below hx
  replace VB := VB.below hx
  replace hb0 := bel_tr hb0 hx
  replace hsz := Nat.le_trans hsz (Below.size hx)
  clear hx
  obtain ⟨vbc0, vbc1, vbc2, vbc3, vbc4, vbc5⟩ := id VB
  go_wp2_with fail
  refine (textB sv _ hB (by omega) hS1 hT HTV.out).mono ?_
  rintro e w3 ⟨rfl, hx⟩
  clear vbc0 vbc1 vbc2 vbc3 vbc4 vbc5
  replace hA := hA.below hx
  replace hB := hB.below hx
  replace hT := hT.below hx
  replace VA := VA.below hx
  replace VB := VB.below hx
  replace hb0 := bel_tr hb0 hx
  replace hsz := Nat.le_trans hsz (Below.size hx)
  clear hx
  go_wp2_with fail
  refine (parseB sv _ HSV.out (by omega) LX LV (by omega) hT).mono ?_
  rintro e w4 ⟨fx, cx, nx, kx, dX, mx, lx, rfl, Gx, hx⟩
  replace Gx := Gx.mono (B' := w.heap.size + 2) hsz
  replace hA := hA.below hx
  replace hB := hB.below hx
  replace hT := hT.below hx
  replace VA := VA.below hx
  replace VB := VB.below hx
  replace hb0 := bel_tr hb0 hx
  replace hsz := Nat.le_trans hsz (Below.size hx)
  clear hx
  have hx := bel_d0 w4 (.cells #[.bool fx, .slice cx nx kx, .slice dX mx lx] 28)
  replace hA := hA.below hx
  replace hB := hB.below hx
  replace hT := hT.below hx
  replace Gx := Gx.below hx
  replace VA := VA.below hx
  replace VB := VB.below hx
  replace hb0 := bel_tr hb0 hx
  replace hsz := Nat.le_trans hsz (Below.size hx)
  have Vx := var3_new w4 (.bool fx) (.slice cx nx kx) (.slice dX mx lx) 28
  clear hx
  obtain ⟨vac0, vac1, vac2, vac3, vac4, vac5⟩ := id VA
  go_wp2_with fail
  generalize w4.alloc (.cells #[.bool fx, .slice cx nx kx, .slice dX mx lx] 28) = w5 at *
  refine (normR _ hA (by omega) hS1 hT).mono ?_
  rintro e w6 ⟨fn, cn, nn, kn, dn, mn, ln, rfl, Gn, hx⟩
  replace Gn := Gn.mono (B' := w.heap.size + 2) hsz
  clear vac0 vac1 vac2 vac3 vac4 vac5
  replace hA := hA.below hx
  replace hB := hB.below hx
  replace hT := hT.below hx
  replace Gx := Gx.below hx
  replace VA := VA.below hx
  replace VB := VB.below hx
  replace Vx := Vx.below hx
  replace hb0 := bel_tr hb0 hx
  replace hsz := Nat.le_trans hsz (Below.size hx)
  clear hx
  have hx := bel_d0 w6 (.cells #[.bool fn, .slice cn nn kn, .slice dn mn ln] 28)
  replace hA := hA.below hx
  replace hB := hB.below hx
  replace hT := hT.below hx
  replace Gx := Gx.below hx
  replace Gn := Gn.below hx
  replace VA := VA.below hx
  replace VB := VB.below hx
  replace Vx := Vx.below hx
  replace hb0 := bel_tr hb0 hx
  replace hsz := Nat.le_trans hsz (Below.size hx)
  have Vn := var3_new w6 (.bool fn) (.slice cn nn kn) (.slice dn mn ln) 28
  clear hx
  obtain ⟨vac0, vac1, vac2, vac3, vac4, vac5⟩ := id VA
  obtain ⟨vbc0, vbc1, vbc2, vbc3, vbc4, vbc5⟩ := id VB
  go_wp2_with fail
  generalize w6.alloc (.cells #[.bool fn, .slice cn nn kn, .slice dn mn ln] 28) = w7 at *
  refine (cmpB 0 _ hA hB (by omega) (by omega) (by omega) HC.out).mono ?_
  rintro e w8 ⟨rfl, hx⟩
  clear vac0 vac1 vac2 vac3 vac4 vac5 vbc0 vbc1 vbc2 vbc3 vbc4 vbc5
  replace hA := hA.below hx
  replace hB := hB.below hx
  replace hT := hT.below hx
  replace Gx := Gx.below hx
  replace Gn := Gn.below hx
  replace VA := VA.below hx
  replace VB := VB.below hx
  replace Vx := Vx.below hx
  replace Vn := Vn.below hx
  replace hb0 := bel_tr hb0 hx
  replace hsz := Nat.le_trans hsz (Below.size hx)
  clear hx
  obtain ⟨vxc0, vxc1, vxc2, vxc3, vxc4, vxc5⟩ := id Vx
  obtain ⟨vnc0, vnc1, vnc2, vnc3, vnc4, vnc5⟩ := id Vn
  go_wp2_with fail
  refine (sameQ _ Gx Gn rfl (by omega)).mono ?_
  rintro e w9 ⟨rfl, hx⟩
  clear vxc0 vxc1 vxc2 vxc3 vxc4 vxc5 vnc0 vnc1 vnc2 vnc3 vnc4 vnc5
  replace hA := hA.below hx
  replace hB := hB.below hx
  replace hT := hT.below hx
  replace Gx := Gx.below hx
  replace Gn := Gn.below hx
  replace VA := VA.below hx
  replace VB := VB.below hx
  replace Vx := Vx.below hx
  replace Vn := Vn.below hx
  replace hb0 := bel_tr hb0 hx
  replace hsz := Nat.le_trans hsz (Below.size hx)
  clear hx
  clear Vx
  clear Vn
  clear Gx
  clear Gn
  clear VA
  clear VB
  clear hA
  clear hB
  clear hT
  go_wp2
  go_loopw [12] (fun t wr => ∃ (i : Nat), i ≤ sv.size ∧ t = .int .i64 i ∧ wr = w9) (fun t _ => sv.size - (intOf t).toNat)
  case atStart => exact ⟨0, Nat.zero_le _, rfl, rfl⟩
  case round =>
    obtain ⟨i, hi, rfl, rfl⟩ := hrel
    by_cases hlt : i < sv.size
    · have hil : (i : Int) < (sv.size : Int) := by omega
      have hby := byt_get hlt
      have hB := HBY.out i hlt
      generalize byt sv i = B at *
      rcases hB with ⟨b1, b2⟩ | ⟨b1, b2⟩ | b1
      · go_wp2
        go_roundw
        case rel => first | exact ⟨i + 1, by omega, by go_num, trivial⟩ | exact ⟨i + 1, by omega, by go_num, rfl⟩ | ((repeat apply Exists.intro); refine ⟨?_, rfl⟩; exact ⟨i + 1, by omega, by go_num, rfl⟩)
        case measure => simp [intOf]; omega
      · subst b1 b2
        go_wp2
        go_roundw
        case rel => first | exact ⟨1, by omega, by go_num, trivial⟩ | exact ⟨1, by omega, by go_num, rfl⟩ | ((repeat apply Exists.intro); refine ⟨?_, rfl⟩; exact ⟨1, by omega, by go_num, rfl⟩)
        case measure => simp [intOf]; omega
      · subst b1
        go_wp2
        go_roundw
        case rel => first | exact ⟨i + 1, by omega, by go_num, trivial⟩ | exact ⟨i + 1, by omega, by go_num, rfl⟩ | ((repeat apply Exists.intro); refine ⟨?_, rfl⟩; exact ⟨i + 1, by omega, by go_num, rfl⟩)
        case measure => simp [intOf]; omega
    · have hil : ¬ (i : Int) < (sv.size : Int) := by omega
      have hp : (0 : Int) < (sv.size : Int) := by have := HP.out; omega
      have hp' : 0 < sv.size := HP.out
      go_wp2
      go_ret
      exact ⟨by first | rfl | simp [hp, hp'], hb0⟩
set_option maxRecDepth 100000 in
set_option maxHeartbeats 20000000 in
theorem back_ne {p1 : Bool} {a1 : Option Addr} {na1 ca1 : Nat} {d1 : Option Addr} {nd1 cd1 : Nat} {p2 : Bool} {a2 : Option Addr} {na2 ca2 : Nat} {d2 : Option Addr} {nd2 cd2 : Nat} {x y : Rat} {S : Nat} (w : World) (hA : TR w p1 a1 na1 ca1 d1 nd1 cd1 x S) (hB : TR w p2 a2 na2 ca2 d2 nd2 cd2 y S) (hS : S ≤ 1100000) (hS1 : 1 ≤ S) (hT : TB w) {ev : Value} (E : Errs w 1 ev) {sv tv : ByteArray} {cv : Int} (HSV : Hid (sv = txtQ x)) (HTV : Hid (tv = txtQ y)) (HC : Hid ((cv : Int) = cs x y)) (LX : (x.num.natAbs : Int) < pw S) (LV : (x.den : Int) < pw S) (hz : sv.size ≤ 100000000) (HBY : Hid (∀ i, i < sv.size → (48 ≤ byt sv i ∧ byt sv i ≤ 57) ∨ (byt sv i = 45 ∧ i = 0) ∨ byt sv i = 47)) (HP : Hid (0 < sv.size)) (hne : (sv.toList == tv.toList) = false) (hcv : (cv == 0) = false) :
    Calls Tryz.prog 4 #[.agg #[.bool p1, .slice a1 na1 ca1, .slice d1 nd1 cd1], .agg #[.bool p2, .slice a2 na2 ca2, .slice d2 nd2 cd2]] w fun e w' => e = .returned (.bool true) ∧ Below w.heap.size w w' := by
  obtain ⟨VA, VB, hb0, hsz⟩ := box_rr w (.bool p1) (.slice a1 na1 ca1) (.slice d1 nd1 cd1) (.bool p2) (.slice a2 na2 ca2) (.slice d2 nd2 cd2) 28
  replace hA := hA.below hb0
  replace hB := hB.below hb0
  replace hT := hT.below hb0
  replace E := E.below hb0
  go_enter Tryz.func4, Tryz.ntmps4
  go_wp2_with fail
  generalize (w.alloc (.cells #[.bool p1, .slice a1 na1 ca1, .slice d1 nd1 cd1] 28)).alloc (.cells #[.bool p2, .slice a2 na2 ca2, .slice d2 nd2 cd2] 28) = W0 at *
  replace hsz := Nat.le_of_eq hsz.symm
  refine (shownQ _ hT E).mono ?_
  rintro e w1 ⟨rfl, hx⟩
  replace hA := hA.below hx
  replace hB := hB.below hx
  replace hT := hT.below hx
  replace E := E.below hx
  replace VA := VA.below hx
  replace VB := VB.below hx
  replace hb0 := bel_tr hb0 hx
  replace hsz := Nat.le_trans hsz (Below.size hx)
  clear hx
  obtain ⟨vac0, vac1, vac2, vac3, vac4, vac5⟩ := id VA
  clear E
  go_wp2_with fail
  refine (textB sv _ hA (by omega) hS1 hT HSV.out).mono ?_
  rintro e w2 ⟨rfl, hx⟩
  clear vac0 vac1 vac2 vac3 vac4 vac5
  replace hA := hA.below hx
  replace hB := hB.below hx
  replace hT := hT.below hx
  replace VA := VA.below hx
  replace VB := VB.below hx
  replace hb0 := bel_tr hb0 hx
  replace hsz := Nat.le_trans hsz (Below.size hx)
  clear hx
  obtain ⟨vbc0, vbc1, vbc2, vbc3, vbc4, vbc5⟩ := id VB
  go_wp2_with fail
  refine (textB tv _ hB (by omega) hS1 hT HTV.out).mono ?_
  rintro e w3 ⟨rfl, hx⟩
  clear vbc0 vbc1 vbc2 vbc3 vbc4 vbc5
  replace hA := hA.below hx
  replace hB := hB.below hx
  replace hT := hT.below hx
  replace VA := VA.below hx
  replace VB := VB.below hx
  replace hb0 := bel_tr hb0 hx
  replace hsz := Nat.le_trans hsz (Below.size hx)
  clear hx
  go_wp2_with fail
  refine (parseB sv _ HSV.out (by omega) LX LV (by omega) hT).mono ?_
  rintro e w4 ⟨fx, cx, nx, kx, dX, mx, lx, rfl, Gx, hx⟩
  replace Gx := Gx.mono (B' := w.heap.size + 2) hsz
  replace hA := hA.below hx
  replace hB := hB.below hx
  replace hT := hT.below hx
  replace VA := VA.below hx
  replace VB := VB.below hx
  replace hb0 := bel_tr hb0 hx
  replace hsz := Nat.le_trans hsz (Below.size hx)
  clear hx
  have hx := bel_d0 w4 (.cells #[.bool fx, .slice cx nx kx, .slice dX mx lx] 28)
  replace hA := hA.below hx
  replace hB := hB.below hx
  replace hT := hT.below hx
  replace Gx := Gx.below hx
  replace VA := VA.below hx
  replace VB := VB.below hx
  replace hb0 := bel_tr hb0 hx
  replace hsz := Nat.le_trans hsz (Below.size hx)
  have Vx := var3_new w4 (.bool fx) (.slice cx nx kx) (.slice dX mx lx) 28
  clear hx
  obtain ⟨vac0, vac1, vac2, vac3, vac4, vac5⟩ := id VA
  go_wp2_with fail
  generalize w4.alloc (.cells #[.bool fx, .slice cx nx kx, .slice dX mx lx] 28) = w5 at *
  refine (normR _ hA (by omega) hS1 hT).mono ?_
  rintro e w6 ⟨fn, cn, nn, kn, dn, mn, ln, rfl, Gn, hx⟩
  replace Gn := Gn.mono (B' := w.heap.size + 2) hsz
  clear vac0 vac1 vac2 vac3 vac4 vac5
  replace hA := hA.below hx
  replace hB := hB.below hx
  replace hT := hT.below hx
  replace Gx := Gx.below hx
  replace VA := VA.below hx
  replace VB := VB.below hx
  replace Vx := Vx.below hx
  replace hb0 := bel_tr hb0 hx
  replace hsz := Nat.le_trans hsz (Below.size hx)
  clear hx
  have hx := bel_d0 w6 (.cells #[.bool fn, .slice cn nn kn, .slice dn mn ln] 28)
  replace hA := hA.below hx
  replace hB := hB.below hx
  replace hT := hT.below hx
  replace Gx := Gx.below hx
  replace Gn := Gn.below hx
  replace VA := VA.below hx
  replace VB := VB.below hx
  replace Vx := Vx.below hx
  replace hb0 := bel_tr hb0 hx
  replace hsz := Nat.le_trans hsz (Below.size hx)
  have Vn := var3_new w6 (.bool fn) (.slice cn nn kn) (.slice dn mn ln) 28
  clear hx
  obtain ⟨vac0, vac1, vac2, vac3, vac4, vac5⟩ := id VA
  obtain ⟨vbc0, vbc1, vbc2, vbc3, vbc4, vbc5⟩ := id VB
  go_wp2_with fail
  generalize w6.alloc (.cells #[.bool fn, .slice cn nn kn, .slice dn mn ln] 28) = w7 at *
  refine (cmpB cv _ hA hB (by omega) (by omega) (by omega) HC.out).mono ?_
  rintro e w8 ⟨rfl, hx⟩
  clear vac0 vac1 vac2 vac3 vac4 vac5 vbc0 vbc1 vbc2 vbc3 vbc4 vbc5
  replace hA := hA.below hx
  replace hB := hB.below hx
  replace hT := hT.below hx
  replace Gx := Gx.below hx
  replace Gn := Gn.below hx
  replace VA := VA.below hx
  replace VB := VB.below hx
  replace Vx := Vx.below hx
  replace Vn := Vn.below hx
  replace hb0 := bel_tr hb0 hx
  replace hsz := Nat.le_trans hsz (Below.size hx)
  clear hx
  obtain ⟨vxc0, vxc1, vxc2, vxc3, vxc4, vxc5⟩ := id Vx
  obtain ⟨vnc0, vnc1, vnc2, vnc3, vnc4, vnc5⟩ := id Vn
  go_wp2_with fail
  refine (sameQ _ Gx Gn rfl (by omega)).mono ?_
  rintro e w9 ⟨rfl, hx⟩
  clear vxc0 vxc1 vxc2 vxc3 vxc4 vxc5 vnc0 vnc1 vnc2 vnc3 vnc4 vnc5
  replace hA := hA.below hx
  replace hB := hB.below hx
  replace hT := hT.below hx
  replace Gx := Gx.below hx
  replace Gn := Gn.below hx
  replace VA := VA.below hx
  replace VB := VB.below hx
  replace Vx := Vx.below hx
  replace Vn := Vn.below hx
  replace hb0 := bel_tr hb0 hx
  replace hsz := Nat.le_trans hsz (Below.size hx)
  clear hx
  clear Vx
  clear Vn
  clear Gx
  clear Gn
  clear VA
  clear VB
  clear hA
  clear hB
  clear hT
  go_wp2
  go_loopw [12] (fun t wr => ∃ (i : Nat), i ≤ sv.size ∧ t = .int .i64 i ∧ wr = w9) (fun t _ => sv.size - (intOf t).toNat)
  case atStart => exact ⟨0, Nat.zero_le _, rfl, rfl⟩
  case round =>
    obtain ⟨i, hi, rfl, rfl⟩ := hrel
    by_cases hlt : i < sv.size
    · have hil : (i : Int) < (sv.size : Int) := by omega
      have hby := byt_get hlt
      have hB := HBY.out i hlt
      generalize byt sv i = B at *
      rcases hB with ⟨b1, b2⟩ | ⟨b1, b2⟩ | b1
      · go_wp2
        go_roundw
        case rel => first | exact ⟨i + 1, by omega, by go_num, trivial⟩ | exact ⟨i + 1, by omega, by go_num, rfl⟩ | ((repeat apply Exists.intro); refine ⟨?_, rfl⟩; exact ⟨i + 1, by omega, by go_num, rfl⟩)
        case measure => simp [intOf]; omega
      · subst b1 b2
        go_wp2
        go_roundw
        case rel => first | exact ⟨1, by omega, by go_num, trivial⟩ | exact ⟨1, by omega, by go_num, rfl⟩ | ((repeat apply Exists.intro); refine ⟨?_, rfl⟩; exact ⟨1, by omega, by go_num, rfl⟩)
        case measure => simp [intOf]; omega
      · subst b1
        go_wp2
        go_roundw
        case rel => first | exact ⟨i + 1, by omega, by go_num, trivial⟩ | exact ⟨i + 1, by omega, by go_num, rfl⟩ | ((repeat apply Exists.intro); refine ⟨?_, rfl⟩; exact ⟨i + 1, by omega, by go_num, rfl⟩)
        case measure => simp [intOf]; omega
    · have hil : ¬ (i : Int) < (sv.size : Int) := by omega
      have hp : (0 : Int) < (sv.size : Int) := by have := HP.out; omega
      have hp' : 0 < sv.size := HP.out
      go_wp2
      go_ret
      exact ⟨by first | rfl | simp [hp, hp'], hb0⟩
theorem back_walk {p1 : Bool} {a1 : Option Addr} {na1 ca1 : Nat} {d1 : Option Addr} {nd1 cd1 : Nat} {p2 : Bool} {a2 : Option Addr} {na2 ca2 : Nat} {d2 : Option Addr} {nd2 cd2 : Nat} {x y : Rat} {S : Nat} (w : World) (hA : TR w p1 a1 na1 ca1 d1 nd1 cd1 x S) (hB : TR w p2 a2 na2 ca2 d2 nd2 cd2 y S) (hS : S ≤ 1100000) (hS1 : 1 ≤ S) (hT : TB w) {ev : Value} (E : Errs w 1 ev) :
    Calls Tryz.prog 4 #[.agg #[.bool p1, .slice a1 na1 ca1, .slice d1 nd1 cd1], .agg #[.bool p2, .slice a2 na2 ca2, .slice d2 nd2 cd2]] w fun e w' => e = .returned (.bool true) ∧ Below w.heap.size w w' := by
  obtain ⟨LX, LV⟩ := hA.bd hS1
  have hz := txtQ_bd LX LV
  have hby : ∀ i, i < (txtQ x).size → _ := fun i h => txtQ_byte x h
  by_cases h : x = y
  · exact back_eq (sv := txtQ x) w hA hB hS hS1 hT E rfl (by rw [h]; rfl) (show (0 : Int) = cs x y from (cs_eq.2 h).symm) LX LV (by omega) hby (txtQ_pos x)
  · have hn : txtQ x ≠ txtQ y := fun e => h (txtQ_inj e)
    exact back_ne (sv := txtQ x) (tv := txtQ y) (cv := cs x y) w hA hB hS hS1 hT E rfl rfl rfl LX LV (by omega) hby (txtQ_pos x) (by rw [beq_eq_false_iff_ne, ByteArray.toList_eq, ByteArray.toList_eq]; exact fun e => hn (ByteArray.ext (Array.toList_inj.1 e))) (by simpa using fun e => h (cs_eq.1 e))
end Go.Proofs.YtpngkbljalnfjacGreatDoor

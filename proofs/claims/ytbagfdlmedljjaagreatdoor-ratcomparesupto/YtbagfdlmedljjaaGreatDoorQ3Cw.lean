import Derived.Test.YtbagfdlmedljjaaGreatDoorQ3G
import Derived.Test.YtbagfdlmedljjaaGreatDoorR3Cm
import Derived.Test.YtbagfdlmedljjaaGreatDoorR3S
namespace Go.Proofs.YtbagfdlmedljjaaGreatDoor
open Go.RowKit

theorem isWholeB (t : Bool) {p : Bool} {a : Option Addr} {na ca : Nat} {d : Option Addr} {nd cd : Nat} {r : Rat} {S : Nat} (w : World) (hr : TR w p a na ca d nd cd r S) (hS : S ≤ 9000000) (hS1 : 1 ≤ S) (ht : t = decide (r.den = 1)) :
    Calls Tryz.prog 18 #[.agg #[.bool p, .slice a na ca, .slice d nd cd]] w fun e w' => e = .returned (.bool t) ∧ Below w.heap.size w w' := by
  rw [ht]; exact isWholeQ w hr hS hS1
set_option maxRecDepth 100000 in
set_option maxHeartbeats 20000000 in
theorem compares_w {p1 : Bool} {a1 : Option Addr} {na1 ca1 : Nat} {d1 : Option Addr} {nd1 cd1 : Nat} {p2 : Bool} {a2 : Option Addr} {na2 ca2 : Nat} {d2 : Option Addr} {nd2 cd2 : Nat} {x y : Rat} {S : Nat} (w : World) (hA : TR w p1 a1 na1 ca1 d1 nd1 cd1 x S) (hB : TR w p2 a2 na2 ca2 d2 nd2 cd2 y S) (hS : S ≤ 1100000) (hS1 : 1 ≤ S) (hT : TB w) {ev : Value} (E : Errs w 1 ev) {ss cv : Int} {wv : Bool} (HS : Hid (ss = x.num.sign)) (HC : Hid (cv = cs x y)) (HW : Hid (wv = decide (x.den = 1))) :
    Calls Tryz.prog 4 #[.agg #[.bool p1, .slice a1 na1 ca1, .slice d1 nd1 cd1], .agg #[.bool p2, .slice a2 na2 ca2, .slice d2 nd2 cd2]] w fun e w' => e = .returned (.bool true) ∧ Below w.heap.size w w' := by
  obtain ⟨VA, VB, hb0, hsz⟩ := box_rr w (.bool p1) (.slice a1 na1 ca1) (.slice d1 nd1 cd1) (.bool p2) (.slice a2 na2 ca2) (.slice d2 nd2 cd2) 28
  replace hA := hA.below hb0
  replace hB := hB.below hb0
  replace hT := hT.below hb0
  replace E := E.below hb0
  go_enter Tryz.func4, Tryz.ntmps4
  go_wp2_with fail
  generalize (w.alloc (.cells #[.bool p1, .slice a1 na1 ca1, .slice d1 nd1 cd1] 28)).alloc (.cells #[.bool p2, .slice a2 na2 ca2, .slice d2 nd2 cd2] 28) = W0 at *
  replace hsz := Nat.le_of_eq hsz.symm
  refine (shownQ _ hT E).mono ?_
  rintro e w1 ⟨rfl, hx⟩
  replace hA := hA.below hx
  replace hB := hB.below hx
  replace hT := hT.below hx
  replace E := E.below hx
  replace VA := VA.below hx
  replace VB := VB.below hx
  replace hb0 := bel_tr hb0 hx
  replace hsz := Nat.le_trans hsz (Below.size hx)
  clear hx
  obtain ⟨vac0, vac1, vac2, vac3, vac4, vac5⟩ := id VA
  clear E
  go_wp2_with fail
  refine (rsignB ss _ hA (by omega) hS1 HS.out).mono ?_
  rintro e w2 ⟨rfl, hx⟩
  clear vac0 vac1 vac2 vac3 vac4 vac5
  replace hA := hA.below hx
  replace hB := hB.below hx
  replace hT := hT.below hx
  replace VA := VA.below hx
  replace VB := VB.below hx
  replace hb0 := bel_tr hb0 hx
  replace hsz := Nat.le_trans hsz (Below.size hx)
  clear hx
  obtain ⟨vac0, vac1, vac2, vac3, vac4, vac5⟩ := id VA
  go_wp2_with fail
  refine (signB ss _ hA (by omega) hS1 HS.out).mono ?_
  rintro e w3 ⟨rfl, hx⟩
  clear vac0 vac1 vac2 vac3 vac4 vac5
  replace hA := hA.below hx
  replace hB := hB.below hx
  replace hT := hT.below hx
  replace VA := VA.below hx
  replace VB := VB.below hx
  replace hb0 := bel_tr hb0 hx
  replace hsz := Nat.le_trans hsz (Below.size hx)
  clear hx
  obtain ⟨vac0, vac1, vac2, vac3, vac4, vac5⟩ := id VA
  obtain ⟨vbc0, vbc1, vbc2, vbc3, vbc4, vbc5⟩ := id VB
  go_wp2_with fail
  refine (cmpB cv _ hA hB (by omega) (by omega) (by omega) HC.out).mono ?_
  rintro e w4 ⟨rfl, hx⟩
  clear vac0 vac1 vac2 vac3 vac4 vac5 vbc0 vbc1 vbc2 vbc3 vbc4 vbc5
  replace hA := hA.below hx
  replace hB := hB.below hx
  replace hT := hT.below hx
  replace VA := VA.below hx
  replace VB := VB.below hx
  replace hb0 := bel_tr hb0 hx
  replace hsz := Nat.le_trans hsz (Below.size hx)
  clear hx
  obtain ⟨vac0, vac1, vac2, vac3, vac4, vac5⟩ := id VA
  obtain ⟨vbc0, vbc1, vbc2, vbc3, vbc4, vbc5⟩ := id VB
  go_wp2_with fail
  refine (cmpD cv _ hA hB (by omega) (by omega) (by omega) HC.out).mono ?_
  rintro e w5 ⟨rfl, hx⟩
  clear vac0 vac1 vac2 vac3 vac4 vac5 vbc0 vbc1 vbc2 vbc3 vbc4 vbc5
  replace hA := hA.below hx
  replace hB := hB.below hx
  replace hT := hT.below hx
  replace VA := VA.below hx
  replace VB := VB.below hx
  replace hb0 := bel_tr hb0 hx
  replace hsz := Nat.le_trans hsz (Below.size hx)
  clear hx
  obtain ⟨vac0, vac1, vac2, vac3, vac4, vac5⟩ := id VA
  go_wp2_with fail
  refine (isWholeB wv _ hA (by omega) hS1 HW.out).mono ?_
  rintro e w6 ⟨rfl, hx⟩
  clear vac0 vac1 vac2 vac3 vac4 vac5
  replace hA := hA.below hx
  replace hB := hB.below hx
  replace hT := hT.below hx
  replace VA := VA.below hx
  replace VB := VB.below hx
  replace hb0 := bel_tr hb0 hx
  replace hsz := Nat.le_trans hsz (Below.size hx)
  clear hx
  obtain ⟨vac0, vac1, vac2, vac3, vac4, vac5⟩ := id VA
  go_wp2_with fail
  refine (isWholeD wv _ hA (by omega) hS1 HW.out).mono ?_
  rintro e w7 ⟨rfl, hx⟩
  clear vac0 vac1 vac2 vac3 vac4 vac5
  replace hA := hA.below hx
  replace hB := hB.below hx
  replace hT := hT.below hx
  replace VA := VA.below hx
  replace VB := VB.below hx
  replace hb0 := bel_tr hb0 hx
  replace hsz := Nat.le_trans hsz (Below.size hx)
  clear hx
  obtain ⟨vac0, vac1, vac2, vac3, vac4, vac5⟩ := id VA
  go_wp2_with fail
  refine (floorQ _ hA (by omega) hS1).mono ?_
  rintro e w8 ⟨ff, cf, nf, kf, rfl, Kf, hx⟩
  replace Kf := Kf.mono (B' := w.heap.size + 2) hsz
  clear vac0 vac1 vac2 vac3 vac4 vac5
  replace hA := hA.below hx
  replace hB := hB.below hx
  replace hT := hT.below hx
  replace VA := VA.below hx
  replace VB := VB.below hx
  replace hb0 := bel_tr hb0 hx
  replace hsz := Nat.le_trans hsz (Below.size hx)
  clear hx
  have hx := bel_d0 w8 (.cells #[.bool ff, .slice cf nf kf] 26)
  replace hA := hA.below hx
  replace hB := hB.below hx
  replace hT := hT.below hx
  replace Kf := Kf.below hx
  replace VA := VA.below hx
  replace VB := VB.below hx
  replace hb0 := bel_tr hb0 hx
  replace hsz := Nat.le_trans hsz (Below.size hx)
  have Vf := var2_new w8 (.bool ff) (.slice cf nf kf) 26
  clear hx
  obtain ⟨vac0, vac1, vac2, vac3, vac4, vac5⟩ := id VA
  go_wp2_with fail
  generalize w8.alloc (.cells #[.bool ff, .slice cf nf kf] 26) = w9 at *
  refine (floorD _ hA (by omega) hS1).mono ?_
  rintro e w10 ⟨fg, cg, ng, kg, rfl, Kg, hx⟩
  replace Kg := Kg.mono (B' := w.heap.size + 2) hsz
  clear vac0 vac1 vac2 vac3 vac4 vac5
  replace hA := hA.below hx
  replace hB := hB.below hx
  replace hT := hT.below hx
  replace Kf := Kf.below hx
  replace VA := VA.below hx
  replace VB := VB.below hx
  replace Vf := Vf.below hx
  replace hb0 := bel_tr hb0 hx
  replace hsz := Nat.le_trans hsz (Below.size hx)
  clear hx
  have hx := bel_d0 w10 (.cells #[.bool fg, .slice cg ng kg] 26)
  replace hA := hA.below hx
  replace hB := hB.below hx
  replace hT := hT.below hx
  replace Kf := Kf.below hx
  replace Kg := Kg.below hx
  replace VA := VA.below hx
  replace VB := VB.below hx
  replace Vf := Vf.below hx
  replace hb0 := bel_tr hb0 hx
  replace hsz := Nat.le_trans hsz (Below.size hx)
  have Vg := var2_new w10 (.bool fg) (.slice cg ng kg) 26
  clear hx
  obtain ⟨vac0, vac1, vac2, vac3, vac4, vac5⟩ := id VA
  go_wp2_with fail
  generalize w10.alloc (.cells #[.bool fg, .slice cg ng kg] 26) = w11 at *
  refine (ceilQ _ hA (by omega) hS1 hT).mono ?_
  rintro e w12 ⟨fh, ch, nh, kh, rfl, Kh, hx⟩
  replace Kh := Kh.mono (B' := w.heap.size + 2) hsz
  clear vac0 vac1 vac2 vac3 vac4 vac5
  replace hA := hA.below hx
  replace hB := hB.below hx
  replace hT := hT.below hx
  replace Kf := Kf.below hx
  replace Kg := Kg.below hx
  replace VA := VA.below hx
  replace VB := VB.below hx
  replace Vf := Vf.below hx
  replace Vg := Vg.below hx
  replace hb0 := bel_tr hb0 hx
  replace hsz := Nat.le_trans hsz (Below.size hx)
  clear hx
  have hx := bel_d0 w12 (.cells #[.bool fh, .slice ch nh kh] 26)
  replace hA := hA.below hx
  replace hB := hB.below hx
  replace hT := hT.below hx
  replace Kf := Kf.below hx
  replace Kg := Kg.below hx
  replace Kh := Kh.below hx
  replace VA := VA.below hx
  replace VB := VB.below hx
  replace Vf := Vf.below hx
  replace Vg := Vg.below hx
  replace hb0 := bel_tr hb0 hx
  replace hsz := Nat.le_trans hsz (Below.size hx)
  have Vh := var2_new w12 (.bool fh) (.slice ch nh kh) 26
  clear hx
  obtain ⟨vac0, vac1, vac2, vac3, vac4, vac5⟩ := id VA
  go_wp2_with fail
  generalize w12.alloc (.cells #[.bool fh, .slice ch nh kh] 26) = w13 at *
  refine (ceilD _ hA (by omega) hS1).mono ?_
  rintro e w14 ⟨fi, ci, ni, ki, rfl, Ki, hx⟩
  replace Ki := Ki.mono (B' := w.heap.size + 2) hsz
  clear vac0 vac1 vac2 vac3 vac4 vac5
  replace hA := hA.below hx
  replace hB := hB.below hx
  replace hT := hT.below hx
  replace Kf := Kf.below hx
  replace Kg := Kg.below hx
  replace Kh := Kh.below hx
  replace VA := VA.below hx
  replace VB := VB.below hx
  replace Vf := Vf.below hx
  replace Vg := Vg.below hx
  replace Vh := Vh.below hx
  replace hb0 := bel_tr hb0 hx
  replace hsz := Nat.le_trans hsz (Below.size hx)
  clear hx
  have hx := bel_d0 w14 (.cells #[.bool fi, .slice ci ni ki] 26)
  replace hA := hA.below hx
  replace hB := hB.below hx
  replace hT := hT.below hx
  replace Kf := Kf.below hx
  replace Kg := Kg.below hx
  replace Kh := Kh.below hx
  replace Ki := Ki.below hx
  replace VA := VA.below hx
  replace VB := VB.below hx
  replace Vf := Vf.below hx
  replace Vg := Vg.below hx
  replace Vh := Vh.below hx
  replace hb0 := bel_tr hb0 hx
  replace hsz := Nat.le_trans hsz (Below.size hx)
  have Vi := var2_new w14 (.bool fi) (.slice ci ni ki) 26
  clear hx
  obtain ⟨vfc0, vfc1, vfc2, vfc3⟩ := id Vf
  obtain ⟨vgc0, vgc1, vgc2, vgc3⟩ := id Vg
  go_wp2_with fail
  generalize w14.alloc (.cells #[.bool fi, .slice ci ni ki] 26) = w15 at *
  clear VA
  clear VB
  clear hA
  clear hB
  clear hT
  refine (refSameP _ Kf ((Got.nil _ _).le (Nat.zero_le _)) Kg ((Got.nil _ _).le (Nat.zero_le _)) (by omega)).mono ?_
  rintro e w16 ⟨rfl, hx⟩
  clear vfc0 vfc1 vfc2 vfc3 vgc0 vgc1 vgc2 vgc3
  replace Kf := Kf.below hx
  replace Kg := Kg.below hx
  replace Kh := Kh.below hx
  replace Ki := Ki.below hx
  replace Vf := Vf.below hx
  replace Vg := Vg.below hx
  replace Vh := Vh.below hx
  replace Vi := Vi.below hx
  replace hb0 := bel_tr hb0 hx
  replace hsz := Nat.le_trans hsz (Below.size hx)
  clear hx
  obtain ⟨vhc0, vhc1, vhc2, vhc3⟩ := id Vh
  obtain ⟨vic0, vic1, vic2, vic3⟩ := id Vi
  go_wp2_with fail
  refine (refSameP _ Kh ((Got.nil _ _).le (Nat.zero_le _)) Ki ((Got.nil _ _).le (Nat.zero_le _)) (by omega)).mono ?_
  rintro e w17 ⟨rfl, hx⟩
  clear vhc0 vhc1 vhc2 vhc3 vic0 vic1 vic2 vic3
  replace Kf := Kf.below hx
  replace Kg := Kg.below hx
  replace Kh := Kh.below hx
  replace Ki := Ki.below hx
  replace Vf := Vf.below hx
  replace Vg := Vg.below hx
  replace Vh := Vh.below hx
  replace Vi := Vi.below hx
  replace hb0 := bel_tr hb0 hx
  replace hsz := Nat.le_trans hsz (Below.size hx)
  clear hx
  go_wp2
  go_ret
  exact ⟨by first | rfl | simp, hb0⟩
set_option maxRecDepth 100000 in
set_option maxHeartbeats 20000000 in
theorem compares_walk {p1 : Bool} {a1 : Option Addr} {na1 ca1 : Nat} {d1 : Option Addr} {nd1 cd1 : Nat} {p2 : Bool} {a2 : Option Addr} {na2 ca2 : Nat} {d2 : Option Addr} {nd2 cd2 : Nat} {x y : Rat} {S : Nat} (w : World) (hA : TR w p1 a1 na1 ca1 d1 nd1 cd1 x S) (hB : TR w p2 a2 na2 ca2 d2 nd2 cd2 y S) (hS : S ≤ 1100000) (hS1 : 1 ≤ S) (hT : TB w) {ev : Value} (E : Errs w 1 ev) :
    Calls Tryz.prog 4 #[.agg #[.bool p1, .slice a1 na1 ca1, .slice d1 nd1 cd1], .agg #[.bool p2, .slice a2 na2 ca2, .slice d2 nd2 cd2]] w fun e w' => e = .returned (.bool true) ∧ Below w.heap.size w w' :=
  compares_w (ss := x.num.sign) (cv := cs x y) (wv := decide (x.den = 1)) w hA hB hS hS1 hT E (show x.num.sign = x.num.sign from rfl) (show cs x y = cs x y from rfl) (show decide (x.den = 1) = decide (x.den = 1) from rfl)
end Go.Proofs.YtbagfdlmedljjaaGreatDoor

import Derived.Test.YtfaccnmiopcneaaGreatDoorR3Tc
import Derived.Test.YtfaccnmiopcneaaGreatDoorR3Sf
namespace Go.Proofs.YtfaccnmiopcneaaGreatDoor
open Go.RowKit

theorem isA (w : World) {ev : Value} (E : Errs w 1 ev) : Calls Tryz.prog 24 #[ev, .int .i64 1] w fun e w' => e = .returned (.bool true) ∧ Below w.heap.size w w' := by
  obtain ⟨i, hi, hcmp⟩ := Option.map_eq_some_iff.1 Tryz.errCompR
  obtain ⟨jj, hj, _⟩ := Option.map_eq_some_iff.1 Tryz.errSizeR
  obtain ⟨ec, pp, rfl⟩ := E
  have heq := run_eql_iface_ptr_same (P := Tryz.prog) w pp Tryz.underlying30 Tryz.underlying173 hi hcmp hj
  go_enter Tryz.func24, Tryz.ntmps24
  go_wp2
  go_ret
  exact ⟨rfl, Below.refl _ _⟩
set_option maxHeartbeats 4000000 in
theorem toldA {f g : Bool} {c c2 : Option Addr} {n n2 k k2 : Nat} {d d2 : Option Addr} {nd nd2 kd kd2 : Nat} {S : Nat} (w : World) (ha : TR w f c n k d nd kd 0 S) (hS : S ≤ 7000000) (hS1 : 1 ≤ S) {ev : Value} (E : Errs w 1 ev) :
    Calls Tryz.prog 7 #[.agg #[.bool f, .slice c n k, .slice d nd kd], ev, .agg #[.bool g, .slice c2 n2 k2, .slice d2 nd2 kd2], .int .i64 1] w fun e w' => e = .returned (.bool true) ∧ Below w.heap.size w w' := by
  obtain ⟨P0, P1, hb0, hsz⟩ := box_rr w (.bool f) (.slice c n k) (.slice d nd kd) (.bool g) (.slice c2 n2 k2) (.slice d2 nd2 kd2) 27
  replace ha := ha.below hb0
  replace E := E.below hb0
  go_enter Tryz.func7, Tryz.ntmps7
  obtain ⟨p0c0, p0c1, p0c2, p0c3, p0c4, p0c5⟩ := id P0
  obtain ⟨p1c0, p1c1, p1c2, p1c3, p1c4, p1c5⟩ := id P1
  go_wp2_with fail
  generalize (w.alloc (.cells #[.bool f, .slice c n k, .slice d nd kd] 27)).alloc (.cells #[.bool g, .slice c2 n2 k2, .slice d2 nd2 kd2] 27) = W0 at *
  replace hsz := Nat.le_of_eq hsz.symm
  refine (likeDZ _ ha hS hS1).mono ?_
  rintro e w1 ⟨rfl, hx⟩
  clear p0c0 p0c1 p0c2 p0c3 p0c4 p0c5 p1c0 p1c1 p1c2 p1c3 p1c4 p1c5
  replace ha := ha.below hx
  replace E := E.below hx
  replace P0 := P0.below hx
  replace P1 := P1.below hx
  replace hb0 := bel_tr hb0 hx
  replace hsz := Nat.le_trans hsz (Below.size hx)
  clear hx
  go_wp2_with fail
  refine (isA _ E).mono ?_
  rintro e w2 ⟨rfl, hx⟩
  replace ha := ha.below hx
  replace E := E.below hx
  replace P0 := P0.below hx
  replace P1 := P1.below hx
  replace hb0 := bel_tr hb0 hx
  replace hsz := Nat.le_trans hsz (Below.size hx)
  clear hx
  go_wp2
  go_ret
  exact ⟨rfl, hb0⟩
set_option maxRecDepth 100000 in
set_option maxHeartbeats 20000000 in
theorem simples_walkE {p1 : Bool} {a1 : Option Addr} {na1 ca1 : Nat} {d1 : Option Addr} {nd1 cd1 : Nat} {p2 : Bool} {a2 : Option Addr} {na2 ca2 : Nat} {d2 : Option Addr} {nd2 cd2 : Nat} {x y : Rat} {S : Nat} (w : World) (hA : TR w p1 a1 na1 ca1 d1 nd1 cd1 x S) (hB : TR w p2 a2 na2 ca2 d2 nd2 cd2 y S) (hS : S ≤ 1100000) (hS1 : 1 ≤ S) (hT : TB w) {ev ea : Value} (E : Errs w 0 ev) (EA : Errs w 1 ea) (hxy : y < x) :
    Calls Tryz.prog 3 #[.agg #[.bool p1, .slice a1 na1 ca1, .slice d1 nd1 cd1], .agg #[.bool p2, .slice a2 na2 ca2, .slice d2 nd2 cd2]] w fun e w' => e = .returned (.bool true) ∧ Below w.heap.size w w' := by
  obtain ⟨VA, VB, hb0, hsz⟩ := box_rr w (.bool p1) (.slice a1 na1 ca1) (.slice d1 nd1 cd1) (.bool p2) (.slice a2 na2 ca2) (.slice d2 nd2 cd2) 27
  clear hsz
  replace hA := hA.below hb0
  replace hB := hB.below hb0
  replace hT := hT.below hb0
  replace E := E.below hb0
  replace EA := EA.below hb0
  go_enter Tryz.func3, Tryz.ntmps3
  go_wp2_with fail
  generalize (w.alloc (.cells #[.bool p1, .slice a1 na1 ca1, .slice d1 nd1 cd1] 27)).alloc (.cells #[.bool p2, .slice a2 na2 ca2, .slice d2 nd2 cd2] 27) = W0 at *
  refine (shownQ _ hT E).mono ?_
  rintro e w1 ⟨rfl, hx⟩
  replace hA := hA.below hx
  replace hB := hB.below hx
  replace hT := hT.below hx
  replace E := E.below hx
  replace EA := EA.below hx
  replace VA := VA.below hx
  replace VB := VB.below hx
  replace hb0 := bel_tr hb0 hx
  clear hx
  obtain ⟨vac0, vac1, vac2, vac3, vac4, vac5⟩ := id VA
  obtain ⟨vbc0, vbc1, vbc2, vbc3, vbc4, vbc5⟩ := id VB
  clear E
  go_wp2_with fail
  refine (simplestE _ hA hB (by omega) hS1 hxy EA).mono ?_
  rintro e w2 ⟨rfl, hx⟩
  clear vac0 vac1 vac2 vac3 vac4 vac5 vbc0 vbc1 vbc2 vbc3 vbc4 vbc5
  replace hA := hA.below hx
  replace hB := hB.below hx
  replace hT := hT.below hx
  replace EA := EA.below hx
  replace VA := VA.below hx
  replace VB := VB.below hx
  replace hb0 := bel_tr hb0 hx
  clear hx
  have hx := bel_d0 w2 (.cells #[.bool false, .slice none 0 0, .slice none 0 0] 27)
  replace hA := hA.below hx
  replace hB := hB.below hx
  replace hT := hT.below hx
  replace EA := EA.below hx
  replace VA := VA.below hx
  replace VB := VB.below hx
  replace hb0 := bel_tr hb0 hx
  have Vs := var3_new w2 (.bool false) (.slice none 0 0) (.slice none 0 0) 27
  clear hx
  obtain ⟨vac0, vac1, vac2, vac3, vac4, vac5⟩ := id VA
  obtain ⟨vbc0, vbc1, vbc2, vbc3, vbc4, vbc5⟩ := id VB
  go_wp2_with fail
  generalize w2.alloc (.cells #[.bool false, .slice none 0 0, .slice none 0 0] 27) = w3 at *
  refine (simplestDE _ hA hB hS hS1 hxy).mono ?_
  rintro e w4 ⟨rfl, hx⟩
  clear vac0 vac1 vac2 vac3 vac4 vac5 vbc0 vbc1 vbc2 vbc3 vbc4 vbc5
  replace hA := hA.below hx
  replace hB := hB.below hx
  replace hT := hT.below hx
  replace EA := EA.below hx
  replace VA := VA.below hx
  replace VB := VB.below hx
  replace Vs := Vs.below hx
  replace hb0 := bel_tr hb0 hx
  clear hx
  have hx := bel_d0 w4 (.cells #[.bool false, .slice none 0 0, .slice none 0 0] 27)
  replace hA := hA.below hx
  replace hB := hB.below hx
  replace hT := hT.below hx
  replace EA := EA.below hx
  replace VA := VA.below hx
  replace VB := VB.below hx
  replace Vs := Vs.below hx
  replace hb0 := bel_tr hb0 hx
  have Vw := var3_new w4 (.bool false) (.slice none 0 0) (.slice none 0 0) 27
  clear hx
  obtain ⟨vsc0, vsc1, vsc2, vsc3, vsc4, vsc5⟩ := id Vs
  obtain ⟨vwc0, vwc1, vwc2, vwc3, vwc4, vwc5⟩ := id Vw
  go_wp2_with fail
  generalize w4.alloc (.cells #[.bool false, .slice none 0 0, .slice none 0 0] 27) = w5 at *
  refine (toldA _ (tr_nil _ 1) (by decide) (by decide) EA).mono ?_
  rintro e w6 ⟨rfl, hx⟩
  clear vsc0 vsc1 vsc2 vsc3 vsc4 vsc5 vwc0 vwc1 vwc2 vwc3 vwc4 vwc5
  replace hA := hA.below hx
  replace hB := hB.below hx
  replace hT := hT.below hx
  replace EA := EA.below hx
  replace VA := VA.below hx
  replace VB := VB.below hx
  replace Vs := Vs.below hx
  replace Vw := Vw.below hx
  replace hb0 := bel_tr hb0 hx
  clear hx
  go_wp2
  go_ret
  exact ⟨rfl, hb0⟩
set_option maxRecDepth 100000 in
set_option maxHeartbeats 20000000 in
theorem simples_walkQ {p1 : Bool} {a1 : Option Addr} {na1 ca1 : Nat} {d1 : Option Addr} {nd1 cd1 : Nat} {p2 : Bool} {a2 : Option Addr} {na2 ca2 : Nat} {d2 : Option Addr} {nd2 cd2 : Nat} {x y : Rat} {S : Nat} (w : World) (hA : TR w p1 a1 na1 ca1 d1 nd1 cd1 x S) (hB : TR w p2 a2 na2 ca2 d2 nd2 cd2 y S) (hS : S ≤ 1100000) (hS1 : 1 ≤ S) (hT : TB w) {ev ea : Value} (E : Errs w 0 ev) (EA : Errs w 1 ea) (hxy : x ≤ y) :
    Calls Tryz.prog 3 #[.agg #[.bool p1, .slice a1 na1 ca1, .slice d1 nd1 cd1], .agg #[.bool p2, .slice a2 na2 ca2, .slice d2 nd2 cd2]] w fun e w' => e = .returned (.bool true) ∧ Below w.heap.size w w' := by
  obtain ⟨VA, VB, hb0, hsz⟩ := box_rr w (.bool p1) (.slice a1 na1 ca1) (.slice d1 nd1 cd1) (.bool p2) (.slice a2 na2 ca2) (.slice d2 nd2 cd2) 27
  clear hsz
  replace hA := hA.below hb0
  replace hB := hB.below hb0
  replace hT := hT.below hb0
  replace E := E.below hb0
  replace EA := EA.below hb0
  go_enter Tryz.func3, Tryz.ntmps3
  go_wp2_with fail
  generalize (w.alloc (.cells #[.bool p1, .slice a1 na1 ca1, .slice d1 nd1 cd1] 27)).alloc (.cells #[.bool p2, .slice a2 na2 ca2, .slice d2 nd2 cd2] 27) = W0 at *
  refine (shownQ _ hT E).mono ?_
  rintro e w1 ⟨rfl, hx⟩
  replace hA := hA.below hx
  replace hB := hB.below hx
  replace hT := hT.below hx
  replace E := E.below hx
  replace EA := EA.below hx
  replace VA := VA.below hx
  replace VB := VB.below hx
  replace hb0 := bel_tr hb0 hx
  clear hx
  obtain ⟨vac0, vac1, vac2, vac3, vac4, vac5⟩ := id VA
  obtain ⟨vbc0, vbc1, vbc2, vbc3, vbc4, vbc5⟩ := id VB
  clear E
  go_wp2_with fail
  refine (simplestQ _ hA hB (by omega) hS1 hxy hT).mono ?_
  rintro e w2 ⟨fs, cs', ns, ks, ds, ms, ls, zs, rfl, Gs, hBst, hx⟩
  clear vac0 vac1 vac2 vac3 vac4 vac5 vbc0 vbc1 vbc2 vbc3 vbc4 vbc5
  replace hA := hA.below hx
  replace hB := hB.below hx
  replace hT := hT.below hx
  replace EA := EA.below hx
  replace VA := VA.below hx
  replace VB := VB.below hx
  replace hb0 := bel_tr hb0 hx
  clear hx
  have HB : Hid (Best x y zs) := hBst
  clear hBst
  clear EA
  have hx := bel_d0 w2 (.cells #[.bool fs, .slice cs' ns ks, .slice ds ms ls] 27)
  replace hA := hA.below hx
  replace hB := hB.below hx
  replace hT := hT.below hx
  replace Gs := Gs.below hx
  replace VA := VA.below hx
  replace VB := VB.below hx
  replace hb0 := bel_tr hb0 hx
  have Vs := var3_new w2 (.bool fs) (.slice cs' ns ks) (.slice ds ms ls) 27
  clear hx
  obtain ⟨vac0, vac1, vac2, vac3, vac4, vac5⟩ := id VA
  obtain ⟨vbc0, vbc1, vbc2, vbc3, vbc4, vbc5⟩ := id VB
  go_wp2_with fail
  generalize w2.alloc (.cells #[.bool fs, .slice cs' ns ks, .slice ds ms ls] 27) = w3 at *
  refine (simplestDQ _ hA hB hS hS1 hxy).mono ?_
  rintro e w4 ⟨fw, cw, nw, kw, dw, mw, lw, zw, rfl, Gw, hBst, hx⟩
  clear vac0 vac1 vac2 vac3 vac4 vac5 vbc0 vbc1 vbc2 vbc3 vbc4 vbc5
  replace hA := hA.below hx
  replace hB := hB.below hx
  replace hT := hT.below hx
  replace Gs := Gs.below hx
  replace VA := VA.below hx
  replace VB := VB.below hx
  replace Vs := Vs.below hx
  replace hb0 := bel_tr hb0 hx
  clear hx
  have HW : Hid (Best x y zw) := hBst
  clear hBst
  have hx := bel_d0 w4 (.cells #[.bool fw, .slice cw nw kw, .slice dw mw lw] 27)
  replace hA := hA.below hx
  replace hB := hB.below hx
  replace hT := hT.below hx
  replace Gs := Gs.below hx
  replace Gw := Gw.below hx
  replace VA := VA.below hx
  replace VB := VB.below hx
  replace Vs := Vs.below hx
  replace hb0 := bel_tr hb0 hx
  have Vw := var3_new w4 (.bool fw) (.slice cw nw kw) (.slice dw mw lw) 27
  clear hx
  obtain ⟨vsc0, vsc1, vsc2, vsc3, vsc4, vsc5⟩ := id Vs
  obtain ⟨vwc0, vwc1, vwc2, vwc3, vwc4, vwc5⟩ := id Vw
  go_wp2_with fail
  generalize w4.alloc (.cells #[.bool fw, .slice cw nw kw, .slice dw mw lw] 27) = w5 at *
  refine (toldQ _ Gs Gw (HB.out.uniq HW.out) (by omega)).mono ?_
  rintro e w6 ⟨rfl, hx⟩
  clear vsc0 vsc1 vsc2 vsc3 vsc4 vsc5 vwc0 vwc1 vwc2 vwc3 vwc4 vwc5
  replace hA := hA.below hx
  replace hB := hB.below hx
  replace hT := hT.below hx
  replace Gs := Gs.below hx
  replace Gw := Gw.below hx
  replace VA := VA.below hx
  replace VB := VB.below hx
  replace Vs := Vs.below hx
  replace Vw := Vw.below hx
  replace hb0 := bel_tr hb0 hx
  clear hx
  go_wp2
  go_ret
  exact ⟨rfl, hb0⟩
theorem simples_walk {p1 : Bool} {a1 : Option Addr} {na1 ca1 : Nat} {d1 : Option Addr} {nd1 cd1 : Nat} {p2 : Bool} {a2 : Option Addr} {na2 ca2 : Nat} {d2 : Option Addr} {nd2 cd2 : Nat} {x y : Rat} {S : Nat} (w : World) (hA : TR w p1 a1 na1 ca1 d1 nd1 cd1 x S) (hB : TR w p2 a2 na2 ca2 d2 nd2 cd2 y S) (hS : S ≤ 1100000) (hS1 : 1 ≤ S) (hT : TB w) {ev ea : Value} (E : Errs w 0 ev) (EA : Errs w 1 ea) :
    Calls Tryz.prog 3 #[.agg #[.bool p1, .slice a1 na1 ca1, .slice d1 nd1 cd1], .agg #[.bool p2, .slice a2 na2 ca2, .slice d2 nd2 cd2]] w fun e w' => e = .returned (.bool true) ∧ Below w.heap.size w w' := by
  rcases Decidable.em (x ≤ y) with h | h
  · exact simples_walkQ w hA hB hS hS1 hT E EA h
  · exact simples_walkE w hA hB hS hS1 hT E EA (Rat.not_le.1 h)
end Go.Proofs.YtfaccnmiopcneaaGreatDoor

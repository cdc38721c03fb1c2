import Derived.Test.YtfelogbfijomiabGreatDoorLawAll
import Derived.Test.YtfelogbfijomiabGreatDoorR3K
import Derived.Test.YtfelogbfijomiabGreatDoorR3SN
namespace Go.Proofs.YtfelogbfijomiabGreatDoor
open Go.RowKit

theorem div_one1 (z : Int) : Rat.divInt z 1 = (z : Rat) := Rat.num_divInt_den (z : Rat)
theorem sgn_le {a : Int} (h : a ≤ 0) : a.sign ≤ 0 := by
  rcases (by omega : a = 0 ∨ a < 0) with h | h
  · rw [h]; decide
  · rw [Int.sign_eq_neg_one_of_neg h]; decide
theorem fl_under (x : Rat) : (((x.num / x.den : Int) : Rat).num * x.den - x.num * ((x.num / x.den : Int) : Rat).den).sign ≤ 0 := by
  have h : (x.den : Int) ≠ 0 := by have := x.den_pos; omega
  have h1 := Int.ediv_mul_le x.num h
  apply sgn_le
  rw [Rat.num_intCast, Rat.den_intCast]
  omega
theorem fl_over (x : Rat) : 0 < ((((x.num / x.den : Int) : Rat) + ((1 : Int) : Rat)).num * x.den - x.num * (((x.num / x.den : Int) : Rat) + ((1 : Int) : Rat)).den).sign := by
  have h : 0 < (x.den : Int) := by have := x.den_pos; omega
  have h1 := Int.lt_ediv_add_one_mul_self x.num h
  rw [← Rat.intCast_add, Rat.num_intCast, Rat.den_intCast, Int.sign_eq_one_of_pos (by omega)]
  decide
theorem fl_one {x : Rat} (h : x.den = 1) : ((x.num / x.den : Int) : Rat) = x := by
  apply Rat.ext
  · rw [Rat.num_intCast, h]; simp
  · rw [Rat.den_intCast, h]
theorem ce_one {x : Rat} (h : x.den = 1) : ((-((-x).num / (-x).den) : Int) : Rat) = x := by
  have h1 : (-x).den = 1 := h
  rw [Rat.intCast_neg, fl_one h1, Rat.neg_neg]
theorem no_one {x : Rat} (h : ¬ x.den = 1) (z : Int) : ((z : Int) : Rat) ≠ x := fun e => h (by rw [← e, Rat.den_intCast])
theorem isWholeB (t : Bool) {p : Bool} {a : Option Addr} {na ca : Nat} {d : Option Addr} {nd cd : Nat} {r : Rat} {S : Nat} (w : World) (hr : TR w p a na ca d nd cd r S) (hS : S ≤ 9000000) (hS1 : 1 ≤ S) (ht : t = decide (r.den = 1)) :
    Calls Tryz.prog 22 #[.agg #[.bool p, .slice a na ca, .slice d nd cd]] w fun e w' => e = .returned (.bool t) ∧ Below w.heap.size w w' := by
  rw [ht]; exact isWholeQ w hr hS hS1
theorem cmpB (t : Int) {p q : Bool} {a b : Option Addr} {na nb ca cb : Nat} {d e0 : Option Addr} {nd ne cd ce : Nat} {r s : Rat} {S R : Nat} (w : World) (hr : TR w p a na ca d nd cd r S) (hs : TR w q b nb cb e0 ne ce s R) (hSR : S + R ≤ 4000000) (hS1 : 1 ≤ S) (hR1 : 1 ≤ R) (ht : t = (r.num * s.den - s.num * r.den).sign) :
    Calls Tryz.prog 23 #[.agg #[.bool p, .slice a na ca, .slice d nd cd], .agg #[.bool q, .slice b nb cb, .slice e0 ne ce]] w fun e w' => e = .returned (.int .i64 t) ∧ Below w.heap.size w w' := by
  rw [ht]; exact cmpQ w hr hs hSR hS1 hR1
set_option maxRecDepth 100000 in
set_option maxHeartbeats 20000000 in
theorem floors_walk {p : Bool} {a : Option Addr} {na ca : Nat} {d : Option Addr} {nd cd : Nat} {x : Rat} {S : Nat} (w : World) (hA : TR w p a na ca d nd cd x S) (hS : S ≤ 1100000) (hS1 : 1 ≤ S) (hT : TB w) {ev : Value} (E : Errs w 1 ev) :
    Calls Tryz.prog 5 #[.agg #[.bool p, .slice a na ca, .slice d nd cd]] w fun e w' => e = .returned (.bool true) ∧ Below w.heap.size w w' := by
  have VA := var3_new w (.bool p) (.slice a na ca) (.slice d nd cd) 30
  have hb0 := bel_d0 w (.cells #[.bool p, .slice a na ca, .slice d nd cd] 30)
  replace hA := hA.below hb0
  replace hT := hT.below hb0
  replace E := E.below hb0
  go_enter Tryz.func5, Tryz.ntmps5
  go_wp2_with fail
  generalize w.alloc (.cells #[.bool p, .slice a na ca, .slice d nd cd] 30) = W0 at *
  refine (shownQ _ hT E).mono ?_
  rintro e w1 ⟨rfl, hx⟩
  replace hA := hA.below hx
  replace hT := hT.below hx
  replace E := E.below hx
  replace VA := VA.below hx
  replace hb0 := bel_tr hb0 hx
  clear hx
  clear E
  go_wp2_with fail
  refine (ofQ 1 _ (by decide) (by decide)).mono ?_
  rintro e w2 ⟨fo, co, no, ko, dO, mo, lo, rfl, Go, hx⟩
  replace hA := hA.below hx
  replace hT := hT.below hx
  replace VA := VA.below hx
  replace hb0 := bel_tr hb0 hx
  clear hx
  have hx : Below w2.heap.size w2 ((w2.alloc (.cells #[.bool fo, .slice co no ko, .slice dO mo lo] 30)).alloc (.cells #[.bool fo, .slice co no ko] 28)) := bel_tr (bel_d0 _ _) (bel_d0 _ _)
  replace hA := hA.below hx
  replace hT := hT.below hx
  replace Go := Go.below hx
  replace VA := VA.below hx
  replace hb0 := bel_tr hb0 hx
  have Vo := (var3_new w2 (.bool fo) (.slice co no ko) (.slice dO mo lo) 30).alloc (.cells #[.bool fo, .slice co no ko] 28)
  have Vu := var2_new (w2.alloc (.cells #[.bool fo, .slice co no ko, .slice dO mo lo] 30)) (.bool fo) (.slice co no ko) 28
  rw [World.size_alloc] at Vu
  clear hx
  obtain ⟨vac0, vac1, vac2, vac3, vac4, vac5⟩ := id VA
  go_wp2_with fail
  generalize (w2.alloc (.cells #[.bool fo, .slice co no ko, .slice dO mo lo] 30)).alloc (.cells #[.bool fo, .slice co no ko] 28) = wu at *
  have U : TI wu fo co no ko 1 (S + 4) := (Go.1.ti).le (by omega)
  refine (floorQ _ hA (by omega) hS1).mono ?_
  rintro e w3 ⟨ff, cf, nf, kf, rfl, Kf, hx⟩
  clear vac0 vac1 vac2 vac3 vac4 vac5
  replace hA := hA.below hx
  replace hT := hT.below hx
  replace Go := Go.below hx
  replace U := U.below hx
  replace VA := VA.below hx
  replace Vo := Vo.below hx
  replace Vu := Vu.below hx
  replace hb0 := bel_tr hb0 hx
  clear hx
  have hx := bel_d0 w3 (.cells #[.bool ff, .slice cf nf kf] 28)
  replace hA := hA.below hx
  replace hT := hT.below hx
  replace Go := Go.below hx
  replace U := U.below hx
  replace Kf := Kf.below hx
  replace VA := VA.below hx
  replace Vo := Vo.below hx
  replace Vu := Vu.below hx
  replace hb0 := bel_tr hb0 hx
  have Vf := var2_new w3 (.bool ff) (.slice cf nf kf) 28
  clear hx
  obtain ⟨vfc0, vfc1, vfc2, vfc3⟩ := id Vf
  obtain ⟨vuc0, vuc1, vuc2, vuc3⟩ := id Vu
  go_wp2_with fail
  generalize w3.alloc (.cells #[.bool ff, .slice cf nf kf] 28) = w4 at *
  refine (makeQ _ Kf.ti U (by decide) (by omega) hT).mono ?_
  rintro e w5 ⟨flw, clw, nlw, klw, dlw, mlw, llw, rfl, Glw, hx⟩
  clear vfc0 vfc1 vfc2 vfc3 vuc0 vuc1 vuc2 vuc3
  replace hA := hA.below hx
  replace hT := hT.below hx
  replace Go := Go.below hx
  replace U := U.below hx
  replace Kf := Kf.below hx
  replace VA := VA.below hx
  replace Vo := Vo.below hx
  replace Vu := Vu.below hx
  replace Vf := Vf.below hx
  replace hb0 := bel_tr hb0 hx
  clear hx
  replace Glw := Glw.val (div_one1 _)
  have hx := bel_d0 w5 (.cells #[.bool flw, .slice clw nlw klw, .slice dlw mlw llw] 30)
  replace hA := hA.below hx
  replace hT := hT.below hx
  replace Go := Go.below hx
  replace U := U.below hx
  replace Kf := Kf.below hx
  replace Glw := Glw.below hx
  replace VA := VA.below hx
  replace Vo := Vo.below hx
  replace Vu := Vu.below hx
  replace Vf := Vf.below hx
  replace hb0 := bel_tr hb0 hx
  have Vlw := var3_new w5 (.bool flw) (.slice clw nlw klw) (.slice dlw mlw llw) 30
  clear hx
  obtain ⟨vlwc0, vlwc1, vlwc2, vlwc3, vlwc4, vlwc5⟩ := id Vlw
  obtain ⟨voc0, voc1, voc2, voc3, voc4, voc5⟩ := id Vo
  go_wp2_with fail
  generalize w5.alloc (.cells #[.bool flw, .slice clw nlw klw, .slice dlw mlw llw] 30) = w6 at *
  clear Vf
  clear Kf
  refine (addQ _ Glw.tr Go.tr (by omega) (by omega) (by omega) hT).mono ?_
  rintro e w7 ⟨fnx, cnx, nnx, knx, dnx, mnx, lnx, rfl, Gnx, hx⟩
  clear vlwc0 vlwc1 vlwc2 vlwc3 vlwc4 vlwc5 voc0 voc1 voc2 voc3 voc4 voc5
  replace hA := hA.below hx
  replace hT := hT.below hx
  replace Go := Go.below hx
  replace U := U.below hx
  replace Glw := Glw.below hx
  replace VA := VA.below hx
  replace Vo := Vo.below hx
  replace Vu := Vu.below hx
  replace Vlw := Vlw.below hx
  replace hb0 := bel_tr hb0 hx
  clear hx
  have hx := bel_d0 w7 (.cells #[.bool fnx, .slice cnx nnx knx, .slice dnx mnx lnx] 30)
  replace hA := hA.below hx
  replace hT := hT.below hx
  replace Go := Go.below hx
  replace U := U.below hx
  replace Glw := Glw.below hx
  replace Gnx := Gnx.below hx
  replace VA := VA.below hx
  replace Vo := Vo.below hx
  replace Vu := Vu.below hx
  replace Vlw := Vlw.below hx
  replace hb0 := bel_tr hb0 hx
  have Vnx := var3_new w7 (.bool fnx) (.slice cnx nnx knx) (.slice dnx mnx lnx) 30
  clear hx
  obtain ⟨vac0, vac1, vac2, vac3, vac4, vac5⟩ := id VA
  go_wp2_with fail
  generalize w7.alloc (.cells #[.bool fnx, .slice cnx nnx knx, .slice dnx mnx lnx] 30) = w8 at *
  clear Vo
  clear Go
  refine (negQ _ hA (by omega) (by omega) hT).mono ?_
  rintro e w9 ⟨fng, cng, nng, kng, dng, mng, lng, rfl, Gng, hx⟩
  clear vac0 vac1 vac2 vac3 vac4 vac5
  replace hA := hA.below hx
  replace hT := hT.below hx
  replace U := U.below hx
  replace Glw := Glw.below hx
  replace Gnx := Gnx.below hx
  replace VA := VA.below hx
  replace Vu := Vu.below hx
  replace Vlw := Vlw.below hx
  replace Vnx := Vnx.below hx
  replace hb0 := bel_tr hb0 hx
  clear hx
  have hx := bel_d0 w9 (.cells #[.bool fng, .slice cng nng kng, .slice dng mng lng] 30)
  replace hA := hA.below hx
  replace hT := hT.below hx
  replace U := U.below hx
  replace Glw := Glw.below hx
  replace Gnx := Gnx.below hx
  replace Gng := Gng.below hx
  replace VA := VA.below hx
  replace Vu := Vu.below hx
  replace Vlw := Vlw.below hx
  replace Vnx := Vnx.below hx
  replace hb0 := bel_tr hb0 hx
  have Vng := var3_new w9 (.bool fng) (.slice cng nng kng) (.slice dng mng lng) 30
  clear hx
  obtain ⟨vngc0, vngc1, vngc2, vngc3, vngc4, vngc5⟩ := id Vng
  go_wp2_with fail
  generalize w9.alloc (.cells #[.bool fng, .slice cng nng kng, .slice dng mng lng] 30) = w10 at *
  refine (floorQ _ Gng.tr (by omega) (by omega)).mono ?_
  rintro e w11 ⟨fg, cg, ng, kg, rfl, Kg, hx⟩
  clear vngc0 vngc1 vngc2 vngc3 vngc4 vngc5
  replace hA := hA.below hx
  replace hT := hT.below hx
  replace U := U.below hx
  replace Glw := Glw.below hx
  replace Gnx := Gnx.below hx
  replace Gng := Gng.below hx
  replace VA := VA.below hx
  replace Vu := Vu.below hx
  replace Vlw := Vlw.below hx
  replace Vnx := Vnx.below hx
  replace Vng := Vng.below hx
  replace hb0 := bel_tr hb0 hx
  clear hx
  have hx := bel_d0 w11 (.cells #[.bool fg, .slice cg ng kg] 28)
  replace hA := hA.below hx
  replace hT := hT.below hx
  replace U := U.below hx
  replace Glw := Glw.below hx
  replace Gnx := Gnx.below hx
  replace Gng := Gng.below hx
  replace Kg := Kg.below hx
  replace VA := VA.below hx
  replace Vu := Vu.below hx
  replace Vlw := Vlw.below hx
  replace Vnx := Vnx.below hx
  replace Vng := Vng.below hx
  replace hb0 := bel_tr hb0 hx
  have Vg := var2_new w11 (.bool fg) (.slice cg ng kg) 28
  clear hx
  obtain ⟨vac0, vac1, vac2, vac3, vac4, vac5⟩ := id VA
  go_wp2_with fail
  generalize w11.alloc (.cells #[.bool fg, .slice cg ng kg] 28) = w12 at *
  clear Vng
  clear Gng
  refine (ceilQ _ hA (by omega) (by omega) hT).mono ?_
  rintro e w13 ⟨fc, cc, nc, kc, rfl, Kc, hx⟩
  clear vac0 vac1 vac2 vac3 vac4 vac5
  replace hA := hA.below hx
  replace hT := hT.below hx
  replace U := U.below hx
  replace Glw := Glw.below hx
  replace Gnx := Gnx.below hx
  replace Kg := Kg.below hx
  replace VA := VA.below hx
  replace Vu := Vu.below hx
  replace Vlw := Vlw.below hx
  replace Vnx := Vnx.below hx
  replace Vg := Vg.below hx
  replace hb0 := bel_tr hb0 hx
  clear hx
  have hx := bel_d0 w13 (.cells #[.bool fc, .slice cc nc kc] 28)
  replace hA := hA.below hx
  replace hT := hT.below hx
  replace U := U.below hx
  replace Glw := Glw.below hx
  replace Gnx := Gnx.below hx
  replace Kg := Kg.below hx
  replace Kc := Kc.below hx
  replace VA := VA.below hx
  replace Vu := Vu.below hx
  replace Vlw := Vlw.below hx
  replace Vnx := Vnx.below hx
  replace Vg := Vg.below hx
  replace hb0 := bel_tr hb0 hx
  have Vc := var2_new w13 (.bool fc) (.slice cc nc kc) 28
  clear hx
  obtain ⟨vcc0, vcc1, vcc2, vcc3⟩ := id Vc
  obtain ⟨vuc0, vuc1, vuc2, vuc3⟩ := id Vu
  go_wp2_with fail
  generalize w13.alloc (.cells #[.bool fc, .slice cc nc kc] 28) = w14 at *
  refine (makeQ _ Kc.ti U (by decide) (by omega) hT).mono ?_
  rintro e w15 ⟨fhi, chi, nhi, khi, dhi, mhi, lhi, rfl, Ghi, hx⟩
  clear vcc0 vcc1 vcc2 vcc3 vuc0 vuc1 vuc2 vuc3
  replace hA := hA.below hx
  replace hT := hT.below hx
  replace U := U.below hx
  replace Glw := Glw.below hx
  replace Gnx := Gnx.below hx
  replace Kg := Kg.below hx
  replace Kc := Kc.below hx
  replace VA := VA.below hx
  replace Vu := Vu.below hx
  replace Vlw := Vlw.below hx
  replace Vnx := Vnx.below hx
  replace Vg := Vg.below hx
  replace Vc := Vc.below hx
  replace hb0 := bel_tr hb0 hx
  clear hx
  replace Ghi := Ghi.val (div_one1 _)
  have hx := bel_d0 w15 (.cells #[.bool fhi, .slice chi nhi khi, .slice dhi mhi lhi] 30)
  replace hA := hA.below hx
  replace hT := hT.below hx
  replace U := U.below hx
  replace Glw := Glw.below hx
  replace Gnx := Gnx.below hx
  replace Kg := Kg.below hx
  replace Kc := Kc.below hx
  replace Ghi := Ghi.below hx
  replace VA := VA.below hx
  replace Vu := Vu.below hx
  replace Vlw := Vlw.below hx
  replace Vnx := Vnx.below hx
  replace Vg := Vg.below hx
  replace Vc := Vc.below hx
  replace hb0 := bel_tr hb0 hx
  have Vhi := var3_new w15 (.bool fhi) (.slice chi nhi khi) (.slice dhi mhi lhi) 30
  clear hx
  obtain ⟨vgc0, vgc1, vgc2, vgc3⟩ := id Vg
  obtain ⟨vuc0, vuc1, vuc2, vuc3⟩ := id Vu
  go_wp2_with fail
  generalize w15.alloc (.cells #[.bool fhi, .slice chi nhi khi, .slice dhi mhi lhi] 30) = w16 at *
  clear Vc
  clear Kc
  refine (makeQ _ Kg.ti U (by decide) (by omega) hT).mono ?_
  rintro e w17 ⟨fdn, cdn, ndn, kdn, ddn, mdn, ldn, rfl, Gdn, hx⟩
  clear vgc0 vgc1 vgc2 vgc3 vuc0 vuc1 vuc2 vuc3
  replace hA := hA.below hx
  replace hT := hT.below hx
  replace U := U.below hx
  replace Glw := Glw.below hx
  replace Gnx := Gnx.below hx
  replace Kg := Kg.below hx
  replace Ghi := Ghi.below hx
  replace VA := VA.below hx
  replace Vu := Vu.below hx
  replace Vlw := Vlw.below hx
  replace Vnx := Vnx.below hx
  replace Vg := Vg.below hx
  replace Vhi := Vhi.below hx
  replace hb0 := bel_tr hb0 hx
  clear hx
  replace Gdn := Gdn.val (div_one1 _)
  have hx := bel_d0 w17 (.cells #[.bool fdn, .slice cdn ndn kdn, .slice ddn mdn ldn] 30)
  replace hA := hA.below hx
  replace hT := hT.below hx
  replace U := U.below hx
  replace Glw := Glw.below hx
  replace Gnx := Gnx.below hx
  replace Kg := Kg.below hx
  replace Ghi := Ghi.below hx
  replace Gdn := Gdn.below hx
  replace VA := VA.below hx
  replace Vu := Vu.below hx
  replace Vlw := Vlw.below hx
  replace Vnx := Vnx.below hx
  replace Vg := Vg.below hx
  replace Vhi := Vhi.below hx
  replace hb0 := bel_tr hb0 hx
  have Vdn := var3_new w17 (.bool fdn) (.slice cdn ndn kdn) (.slice ddn mdn ldn) 30
  clear hx
  obtain ⟨vdnc0, vdnc1, vdnc2, vdnc3, vdnc4, vdnc5⟩ := id Vdn
  go_wp2_with fail
  generalize w17.alloc (.cells #[.bool fdn, .slice cdn ndn kdn, .slice ddn mdn ldn] 30) = w18 at *
  clear Vg
  clear Kg
  clear Vu
  clear U
  refine (negQ _ Gdn.tr (by omega) (by omega) hT).mono ?_
  rintro e w19 ⟨fup, cup, nup, kup, dup, mup, lup, rfl, Gup, hx⟩
  clear vdnc0 vdnc1 vdnc2 vdnc3 vdnc4 vdnc5
  replace hA := hA.below hx
  replace hT := hT.below hx
  replace Glw := Glw.below hx
  replace Gnx := Gnx.below hx
  replace Ghi := Ghi.below hx
  replace Gdn := Gdn.below hx
  replace VA := VA.below hx
  replace Vlw := Vlw.below hx
  replace Vnx := Vnx.below hx
  replace Vhi := Vhi.below hx
  replace Vdn := Vdn.below hx
  replace hb0 := bel_tr hb0 hx
  clear hx
  have hx := bel_d0 w19 (.cells #[.bool fup, .slice cup nup kup, .slice dup mup lup] 30)
  replace hA := hA.below hx
  replace hT := hT.below hx
  replace Glw := Glw.below hx
  replace Gnx := Gnx.below hx
  replace Ghi := Ghi.below hx
  replace Gdn := Gdn.below hx
  replace Gup := Gup.below hx
  replace VA := VA.below hx
  replace Vlw := Vlw.below hx
  replace Vnx := Vnx.below hx
  replace Vhi := Vhi.below hx
  replace Vdn := Vdn.below hx
  replace hb0 := bel_tr hb0 hx
  have Vup := var3_new w19 (.bool fup) (.slice cup nup kup) (.slice dup mup lup) 30
  clear hx
  obtain ⟨vac0, vac1, vac2, vac3, vac4, vac5⟩ := id VA
  go_wp2_with fail
  generalize w19.alloc (.cells #[.bool fup, .slice cup nup kup, .slice dup mup lup] 30) = w20 at *
  clear Vdn
  clear Gdn
  refine (normR _ hA (by omega) (by omega) hT).mono ?_
  rintro e w21 ⟨fx, cx, nx, kx, dX, mx, lx, rfl, Gx, hx⟩
  clear vac0 vac1 vac2 vac3 vac4 vac5
  replace hA := hA.below hx
  replace hT := hT.below hx
  replace Glw := Glw.below hx
  replace Gnx := Gnx.below hx
  replace Ghi := Ghi.below hx
  replace Gup := Gup.below hx
  replace VA := VA.below hx
  replace Vlw := Vlw.below hx
  replace Vnx := Vnx.below hx
  replace Vhi := Vhi.below hx
  replace Vup := Vup.below hx
  replace hb0 := bel_tr hb0 hx
  clear hx
  have hx := bel_d0 w21 (.cells #[.bool fx, .slice cx nx kx, .slice dX mx lx] 30)
  replace hA := hA.below hx
  replace hT := hT.below hx
  replace Glw := Glw.below hx
  replace Gnx := Gnx.below hx
  replace Ghi := Ghi.below hx
  replace Gup := Gup.below hx
  replace Gx := Gx.below hx
  replace VA := VA.below hx
  replace Vlw := Vlw.below hx
  replace Vnx := Vnx.below hx
  replace Vhi := Vhi.below hx
  replace Vup := Vup.below hx
  replace hb0 := bel_tr hb0 hx
  have Vx := var3_new w21 (.bool fx) (.slice cx nx kx) (.slice dX mx lx) 30
  clear hx
  obtain ⟨vac0, vac1, vac2, vac3, vac4, vac5⟩ := id VA
  go_wp2_with fail
  generalize w21.alloc (.cells #[.bool fx, .slice cx nx kx, .slice dX mx lx] 30) = w22 at *
  clear hT
  obtain ⟨un, hun, hu0⟩ : ∃ u : Int, u = _ ∧ u ≤ 0 := ⟨_, rfl, fl_under x⟩
  obtain ⟨ov, hov, ho0⟩ : ∃ u : Int, u = _ ∧ 0 < u := ⟨_, rfl, fl_over x⟩
  have HU : Hid (un = _) := hun
  have HO : Hid (ov = _) := hov
  clear hun hov
  by_cases hd : x.den = 1
  · refine (isWholeB true _ hA (by omega) (by omega) (by simp [hd])).mono ?_
    rintro e w23 ⟨rfl, hx⟩
    clear vac0 vac1 vac2 vac3 vac4 vac5
    replace hA := hA.below hx
    replace Glw := Glw.below hx
    replace Gnx := Gnx.below hx
    replace Ghi := Ghi.below hx
    replace Gup := Gup.below hx
    replace Gx := Gx.below hx
    replace VA := VA.below hx
    replace Vlw := Vlw.below hx
    replace Vnx := Vnx.below hx
    replace Vhi := Vhi.below hx
    replace Vup := Vup.below hx
    replace Vx := Vx.below hx
    replace hb0 := bel_tr hb0 hx
    clear hx
    obtain ⟨vlwc0, vlwc1, vlwc2, vlwc3, vlwc4, vlwc5⟩ := id Vlw
    obtain ⟨vac0, vac1, vac2, vac3, vac4, vac5⟩ := id VA
    go_wp2_with fail
    refine (cmpB un _ Glw.tr hA (by omega) (by omega) (by omega) HU.out).mono ?_
    rintro e w24 ⟨rfl, hx⟩
    clear vlwc0 vlwc1 vlwc2 vlwc3 vlwc4 vlwc5 vac0 vac1 vac2 vac3 vac4 vac5
    replace hA := hA.below hx
    replace Glw := Glw.below hx
    replace Gnx := Gnx.below hx
    replace Ghi := Ghi.below hx
    replace Gup := Gup.below hx
    replace Gx := Gx.below hx
    replace VA := VA.below hx
    replace Vlw := Vlw.below hx
    replace Vnx := Vnx.below hx
    replace Vhi := Vhi.below hx
    replace Vup := Vup.below hx
    replace Vx := Vx.below hx
    replace hb0 := bel_tr hb0 hx
    clear hx
    obtain ⟨vnxc0, vnxc1, vnxc2, vnxc3, vnxc4, vnxc5⟩ := id Vnx
    obtain ⟨vac0, vac1, vac2, vac3, vac4, vac5⟩ := id VA
    go_wp2_with fail
    refine (cmpB ov _ Gnx.tr hA (by omega) (by omega) (by omega) HO.out).mono ?_
    rintro e w25 ⟨rfl, hx⟩
    clear vnxc0 vnxc1 vnxc2 vnxc3 vnxc4 vnxc5 vac0 vac1 vac2 vac3 vac4 vac5
    replace hA := hA.below hx
    replace Glw := Glw.below hx
    replace Gnx := Gnx.below hx
    replace Ghi := Ghi.below hx
    replace Gup := Gup.below hx
    replace Gx := Gx.below hx
    replace VA := VA.below hx
    replace Vlw := Vlw.below hx
    replace Vnx := Vnx.below hx
    replace Vhi := Vhi.below hx
    replace Vup := Vup.below hx
    replace Vx := Vx.below hx
    replace hb0 := bel_tr hb0 hx
    clear hx
    obtain ⟨vhic0, vhic1, vhic2, vhic3, vhic4, vhic5⟩ := id Vhi
    obtain ⟨vupc0, vupc1, vupc2, vupc3, vupc4, vupc5⟩ := id Vup
    clear VA
    clear hA
    clear Vnx
    clear Gnx
    clear HU HO
    go_wp2_with fail
    refine (sameQ _ Ghi Gup (Rat.intCast_neg _) (by omega)).mono ?_
    rintro e w26 ⟨rfl, hx⟩
    clear vhic0 vhic1 vhic2 vhic3 vhic4 vhic5 vupc0 vupc1 vupc2 vupc3 vupc4 vupc5
    replace Glw := Glw.below hx
    replace Ghi := Ghi.below hx
    replace Gup := Gup.below hx
    replace Gx := Gx.below hx
    replace Vlw := Vlw.below hx
    replace Vhi := Vhi.below hx
    replace Vup := Vup.below hx
    replace Vx := Vx.below hx
    replace hb0 := bel_tr hb0 hx
    clear hx
    obtain ⟨vlwc0, vlwc1, vlwc2, vlwc3, vlwc4, vlwc5⟩ := id Vlw
    obtain ⟨vxc0, vxc1, vxc2, vxc3, vxc4, vxc5⟩ := id Vx
    clear Vup
    clear Gup
    go_wp2_with fail
    refine (sameQ _ Glw Gx (fl_one hd) (by omega)).mono ?_
    rintro e w27 ⟨rfl, hx⟩
    clear vlwc0 vlwc1 vlwc2 vlwc3 vlwc4 vlwc5 vxc0 vxc1 vxc2 vxc3 vxc4 vxc5
    replace Glw := Glw.below hx
    replace Ghi := Ghi.below hx
    replace Gx := Gx.below hx
    replace Vlw := Vlw.below hx
    replace Vhi := Vhi.below hx
    replace Vx := Vx.below hx
    replace hb0 := bel_tr hb0 hx
    clear hx
    obtain ⟨vhic0, vhic1, vhic2, vhic3, vhic4, vhic5⟩ := id Vhi
    obtain ⟨vxc0, vxc1, vxc2, vxc3, vxc4, vxc5⟩ := id Vx
    go_wp2_with fail
    refine (sameQ _ Ghi Gx (ce_one hd) (by omega)).mono ?_
    rintro e w28 ⟨rfl, hx⟩
    clear vhic0 vhic1 vhic2 vhic3 vhic4 vhic5 vxc0 vxc1 vxc2 vxc3 vxc4 vxc5
    replace Glw := Glw.below hx
    replace Ghi := Ghi.below hx
    replace Gx := Gx.below hx
    replace Vlw := Vlw.below hx
    replace Vhi := Vhi.below hx
    replace Vx := Vx.below hx
    replace hb0 := bel_tr hb0 hx
    clear hx
    obtain ⟨vhic0, vhic1, vhic2, vhic3, vhic4, vhic5⟩ := id Vhi
    obtain ⟨vxc0, vxc1, vxc2, vxc3, vxc4, vxc5⟩ := id Vx
    go_wp2
    go_ret
    exact ⟨rfl, hb0⟩
  · refine (isWholeB false _ hA (by omega) (by omega) (by simp [hd])).mono ?_
    rintro e w23 ⟨rfl, hx⟩
    clear vac0 vac1 vac2 vac3 vac4 vac5
    replace hA := hA.below hx
    replace Glw := Glw.below hx
    replace Gnx := Gnx.below hx
    replace Ghi := Ghi.below hx
    replace Gup := Gup.below hx
    replace Gx := Gx.below hx
    replace VA := VA.below hx
    replace Vlw := Vlw.below hx
    replace Vnx := Vnx.below hx
    replace Vhi := Vhi.below hx
    replace Vup := Vup.below hx
    replace Vx := Vx.below hx
    replace hb0 := bel_tr hb0 hx
    clear hx
    obtain ⟨vlwc0, vlwc1, vlwc2, vlwc3, vlwc4, vlwc5⟩ := id Vlw
    obtain ⟨vac0, vac1, vac2, vac3, vac4, vac5⟩ := id VA
    go_wp2_with fail
    refine (cmpB un _ Glw.tr hA (by omega) (by omega) (by omega) HU.out).mono ?_
    rintro e w24 ⟨rfl, hx⟩
    clear vlwc0 vlwc1 vlwc2 vlwc3 vlwc4 vlwc5 vac0 vac1 vac2 vac3 vac4 vac5
    replace hA := hA.below hx
    replace Glw := Glw.below hx
    replace Gnx := Gnx.below hx
    replace Ghi := Ghi.below hx
    replace Gup := Gup.below hx
    replace Gx := Gx.below hx
    replace VA := VA.below hx
    replace Vlw := Vlw.below hx
    replace Vnx := Vnx.below hx
    replace Vhi := Vhi.below hx
    replace Vup := Vup.below hx
    replace Vx := Vx.below hx
    replace hb0 := bel_tr hb0 hx
    clear hx
    obtain ⟨vnxc0, vnxc1, vnxc2, vnxc3, vnxc4, vnxc5⟩ := id Vnx
    obtain ⟨vac0, vac1, vac2, vac3, vac4, vac5⟩ := id VA
    go_wp2_with fail
    refine (cmpB ov _ Gnx.tr hA (by omega) (by omega) (by omega) HO.out).mono ?_
    rintro e w25 ⟨rfl, hx⟩
    clear vnxc0 vnxc1 vnxc2 vnxc3 vnxc4 vnxc5 vac0 vac1 vac2 vac3 vac4 vac5
    replace hA := hA.below hx
    replace Glw := Glw.below hx
    replace Gnx := Gnx.below hx
    replace Ghi := Ghi.below hx
    replace Gup := Gup.below hx
    replace Gx := Gx.below hx
    replace VA := VA.below hx
    replace Vlw := Vlw.below hx
    replace Vnx := Vnx.below hx
    replace Vhi := Vhi.below hx
    replace Vup := Vup.below hx
    replace Vx := Vx.below hx
    replace hb0 := bel_tr hb0 hx
    clear hx
    obtain ⟨vhic0, vhic1, vhic2, vhic3, vhic4, vhic5⟩ := id Vhi
    obtain ⟨vupc0, vupc1, vupc2, vupc3, vupc4, vupc5⟩ := id Vup
    clear VA
    clear hA
    clear Vnx
    clear Gnx
    clear HU HO
    go_wp2_with fail
    refine (sameQ _ Ghi Gup (Rat.intCast_neg _) (by omega)).mono ?_
    rintro e w26 ⟨rfl, hx⟩
    clear vhic0 vhic1 vhic2 vhic3 vhic4 vhic5 vupc0 vupc1 vupc2 vupc3 vupc4 vupc5
    replace Glw := Glw.below hx
    replace Ghi := Ghi.below hx
    replace Gup := Gup.below hx
    replace Gx := Gx.below hx
    replace Vlw := Vlw.below hx
    replace Vhi := Vhi.below hx
    replace Vup := Vup.below hx
    replace Vx := Vx.below hx
    replace hb0 := bel_tr hb0 hx
    clear hx
    obtain ⟨vlwc0, vlwc1, vlwc2, vlwc3, vlwc4, vlwc5⟩ := id Vlw
    obtain ⟨vxc0, vxc1, vxc2, vxc3, vxc4, vxc5⟩ := id Vx
    clear Vup
    clear Gup
    go_wp2_with fail
    refine (sameN _ Glw Gx (no_one hd _) (by omega) (by omega)).mono ?_
    rintro e w27 ⟨rfl, hx⟩
    clear vlwc0 vlwc1 vlwc2 vlwc3 vlwc4 vlwc5 vxc0 vxc1 vxc2 vxc3 vxc4 vxc5
    replace Glw := Glw.below hx
    replace Ghi := Ghi.below hx
    replace Gx := Gx.below hx
    replace Vlw := Vlw.below hx
    replace Vhi := Vhi.below hx
    replace Vx := Vx.below hx
    replace hb0 := bel_tr hb0 hx
    clear hx
    obtain ⟨vhic0, vhic1, vhic2, vhic3, vhic4, vhic5⟩ := id Vhi
    obtain ⟨vxc0, vxc1, vxc2, vxc3, vxc4, vxc5⟩ := id Vx
    go_wp2_with fail
    refine (sameN _ Ghi Gx (no_one hd _) (by omega) (by omega)).mono ?_
    rintro e w28 ⟨rfl, hx⟩
    clear vhic0 vhic1 vhic2 vhic3 vhic4 vhic5 vxc0 vxc1 vxc2 vxc3 vxc4 vxc5
    replace Glw := Glw.below hx
    replace Ghi := Ghi.below hx
    replace Gx := Gx.below hx
    replace Vlw := Vlw.below hx
    replace Vhi := Vhi.below hx
    replace Vx := Vx.below hx
    replace hb0 := bel_tr hb0 hx
    clear hx
    obtain ⟨vhic0, vhic1, vhic2, vhic3, vhic4, vhic5⟩ := id Vhi
    obtain ⟨vxc0, vxc1, vxc2, vxc3, vxc4, vxc5⟩ := id Vx
    go_wp2
    go_ret
    exact ⟨rfl, hb0⟩
end Go.Proofs.YtfelogbfijomiabGreatDoor

import Derived.Test.YtfelogbfijomiabGreatDoorLawAll
import Derived.Test.YtfelogbfijomiabGreatDoorR3SM
namespace Go.Proofs.YtfelogbfijomiabGreatDoor
open Go.RowKit

theorem add_nought (x : Rat) : x + ((0 : Int) : Rat) = x := by rw [show ((0 : Int) : Rat) = 0 from rfl, Rat.add_zero]
theorem add_gone (x : Rat) : x + -x = ((0 : Int) : Rat) := by rw [show ((0 : Int) : Rat) = 0 from rfl, Rat.add_neg_cancel]
theorem mul_unit (x : Rat) : x * ((1 : Int) : Rat) = x := by rw [show ((1 : Int) : Rat) = 1 from rfl, Rat.mul_one]
theorem inv_unit {x : Rat} (h : x ≠ 0) : x⁻¹ * x = ((1 : Int) : Rat) := by rw [show ((1 : Int) : Rat) = 1 from rfl, Rat.inv_mul_cancel x h]
set_option maxRecDepth 100000 in
set_option maxHeartbeats 20000000 in
theorem field_walk {p1 : Bool} {a1 : Option Addr} {na1 ca1 : Nat} {d1 : Option Addr} {nd1 cd1 : Nat} {p2 : Bool} {a2 : Option Addr} {na2 ca2 : Nat} {d2 : Option Addr} {nd2 cd2 : Nat} {p3 : Bool} {a3 : Option Addr} {na3 ca3 : Nat} {d3 : Option Addr} {nd3 cd3 : Nat} {x y z : Rat} {S : Nat} (w : World) (hA : TR w p1 a1 na1 ca1 d1 nd1 cd1 x S) (hB : TR w p2 a2 na2 ca2 d2 nd2 cd2 y S) (hC : TR w p3 a3 na3 ca3 d3 nd3 cd3 z S) (hS : S ≤ 1100000) (hS1 : 1 ≤ S) (hT : TB w) {ev : Value} (E : Errs w 1 ev) :
    Calls Tryz.prog 4 #[.agg #[.bool p1, .slice a1 na1 ca1, .slice d1 nd1 cd1], .agg #[.bool p2, .slice a2 na2 ca2, .slice d2 nd2 cd2], .agg #[.bool p3, .slice a3 na3 ca3, .slice d3 nd3 cd3]] w fun e w' => e = .returned (.bool true) ∧ Below w.heap.size w w' := by
  obtain ⟨i, hi, hcmp⟩ := Option.map_eq_some_iff.1 Tryz.errCompR
  obtain ⟨jj, hj, _⟩ := Option.map_eq_some_iff.1 Tryz.errSizeR
  obtain ⟨VA, VB, VC0, hb0, hsz⟩ := box_rrr w (.bool p1) (.slice a1 na1 ca1) (.slice d1 nd1 cd1) (.bool p2) (.slice a2 na2 ca2) (.slice d2 nd2 cd2) (.bool p3) (.slice a3 na3 ca3) (.slice d3 nd3 cd3) 30
  have VC : Var3 _ (w.heap.size + 1 + 1) _ _ _ := VC0
  clear VC0 hsz
  replace hA := hA.below hb0
  replace hB := hB.below hb0
  replace hC := hC.below hb0
  replace hT := hT.below hb0
  replace E := E.below hb0
  go_enter Tryz.func4, Tryz.ntmps4
  go_wp2_with fail
  generalize ((w.alloc (.cells #[.bool p1, .slice a1 na1 ca1, .slice d1 nd1 cd1] 30)).alloc (.cells #[.bool p2, .slice a2 na2 ca2, .slice d2 nd2 cd2] 30)).alloc (.cells #[.bool p3, .slice a3 na3 ca3, .slice d3 nd3 cd3] 30) = W0 at *
  refine (shownQ _ hT E).mono ?_
  rintro e w1 ⟨rfl, hx⟩
  replace hA := hA.below hx
  replace hB := hB.below hx
  replace hC := hC.below hx
  replace hT := hT.below hx
  replace E := E.below hx
  replace VA := VA.below hx
  replace VB := VB.below hx
  replace VC := VC.below hx
  replace hb0 := bel_tr hb0 hx
  clear hx
  obtain ⟨vac0, vac1, vac2, vac3, vac4, vac5⟩ := id VA
  go_wp2_with fail
  refine (normR _ hA (by omega) hS1 hT).mono ?_
  rintro e w2 ⟨fx, cx, nx, kx, dx, mx, lx, rfl, Gx, hx⟩
  clear vac0 vac1 vac2 vac3 vac4 vac5
  replace hA := hA.below hx
  replace hB := hB.below hx
  replace hC := hC.below hx
  replace hT := hT.below hx
  replace E := E.below hx
  replace VA := VA.below hx
  replace VB := VB.below hx
  replace VC := VC.below hx
  replace hb0 := bel_tr hb0 hx
  clear hx
  obtain ⟨vac0, vac1, vac2, vac3, vac4, vac5⟩ := id VA
  have hx := bel_d0 w2 (.cells #[.bool fx, .slice cx nx kx, .slice dx mx lx] 30)
  clear vac0 vac1 vac2 vac3 vac4 vac5
  replace hA := hA.below hx
  replace hB := hB.below hx
  replace hC := hC.below hx
  replace hT := hT.below hx
  replace E := E.below hx
  replace Gx := Gx.below hx
  replace VA := VA.below hx
  replace VB := VB.below hx
  replace VC := VC.below hx
  replace hb0 := bel_tr hb0 hx
  have Vx := var3_new w2 (.bool fx) (.slice cx nx kx) (.slice dx mx lx) 30
  clear hx
  go_wp2_with fail
  generalize w2.alloc (.cells #[.bool fx, .slice cx nx kx, .slice dx mx lx] 30) = w3 at *
  refine (ofQ 0 _ (by decide) (by decide)).mono ?_
  rintro e w4 ⟨fo0, co0, no0, ko0, do0, mo0, lo0, rfl, Go0, hx⟩
  replace hA := hA.below hx
  replace hB := hB.below hx
  replace hC := hC.below hx
  replace hT := hT.below hx
  replace E := E.below hx
  replace Gx := Gx.below hx
  replace VA := VA.below hx
  replace VB := VB.below hx
  replace VC := VC.below hx
  replace Vx := Vx.below hx
  replace hb0 := bel_tr hb0 hx
  clear hx
  have hx := bel_d0 w4 (.cells #[.bool fo0, .slice co0 no0 ko0, .slice do0 mo0 lo0] 30)
  replace hA := hA.below hx
  replace hB := hB.below hx
  replace hC := hC.below hx
  replace hT := hT.below hx
  replace E := E.below hx
  replace Gx := Gx.below hx
  replace Go0 := Go0.below hx
  replace VA := VA.below hx
  replace VB := VB.below hx
  replace VC := VC.below hx
  replace Vx := Vx.below hx
  replace hb0 := bel_tr hb0 hx
  have Vo0 := var3_new w4 (.bool fo0) (.slice co0 no0 ko0) (.slice do0 mo0 lo0) 30
  clear hx
  go_wp2_with fail
  generalize w4.alloc (.cells #[.bool fo0, .slice co0 no0 ko0, .slice do0 mo0 lo0] 30) = w5 at *
  refine (ofQ 1 _ (by decide) (by decide)).mono ?_
  rintro e w6 ⟨fo1, co1, no1, ko1, do1, mo1, lo1, rfl, Go1, hx⟩
  replace hA := hA.below hx
  replace hB := hB.below hx
  replace hC := hC.below hx
  replace hT := hT.below hx
  replace E := E.below hx
  replace Gx := Gx.below hx
  replace Go0 := Go0.below hx
  replace VA := VA.below hx
  replace VB := VB.below hx
  replace VC := VC.below hx
  replace Vx := Vx.below hx
  replace Vo0 := Vo0.below hx
  replace hb0 := bel_tr hb0 hx
  clear hx
  have hx := bel_d0 w6 (.cells #[.bool fo1, .slice co1 no1 ko1, .slice do1 mo1 lo1] 30)
  replace hA := hA.below hx
  replace hB := hB.below hx
  replace hC := hC.below hx
  replace hT := hT.below hx
  replace E := E.below hx
  replace Gx := Gx.below hx
  replace Go0 := Go0.below hx
  replace Go1 := Go1.below hx
  replace VA := VA.below hx
  replace VB := VB.below hx
  replace VC := VC.below hx
  replace Vx := Vx.below hx
  replace Vo0 := Vo0.below hx
  replace hb0 := bel_tr hb0 hx
  have Vo1 := var3_new w6 (.bool fo1) (.slice co1 no1 ko1) (.slice do1 mo1 lo1) 30
  clear hx
  obtain ⟨vac0, vac1, vac2, vac3, vac4, vac5⟩ := id VA
  obtain ⟨vbc0, vbc1, vbc2, vbc3, vbc4, vbc5⟩ := id VB
  go_wp2_with fail
  generalize w6.alloc (.cells #[.bool fo1, .slice co1 no1 ko1, .slice do1 mo1 lo1] 30) = w7 at *
  refine (addQ _ hA hB (by omega) (by omega) (by omega) hT).mono ?_
  rintro e w8 ⟨fab, cab, nab, kab, dab, mab, lab, rfl, Gab, hx⟩
  clear vac0 vac1 vac2 vac3 vac4 vac5 vbc0 vbc1 vbc2 vbc3 vbc4 vbc5
  replace hA := hA.below hx
  replace hB := hB.below hx
  replace hC := hC.below hx
  replace hT := hT.below hx
  replace E := E.below hx
  replace Gx := Gx.below hx
  replace Go0 := Go0.below hx
  replace Go1 := Go1.below hx
  replace VA := VA.below hx
  replace VB := VB.below hx
  replace VC := VC.below hx
  replace Vx := Vx.below hx
  replace Vo0 := Vo0.below hx
  replace Vo1 := Vo1.below hx
  replace hb0 := bel_tr hb0 hx
  clear hx
  have hx := bel_d0 w8 (.cells #[.bool fab, .slice cab nab kab, .slice dab mab lab] 30)
  replace hA := hA.below hx
  replace hB := hB.below hx
  replace hC := hC.below hx
  replace hT := hT.below hx
  replace E := E.below hx
  replace Gx := Gx.below hx
  replace Go0 := Go0.below hx
  replace Go1 := Go1.below hx
  replace Gab := Gab.below hx
  replace VA := VA.below hx
  replace VB := VB.below hx
  replace VC := VC.below hx
  replace Vx := Vx.below hx
  replace Vo0 := Vo0.below hx
  replace Vo1 := Vo1.below hx
  replace hb0 := bel_tr hb0 hx
  have Vab := var3_new w8 (.bool fab) (.slice cab nab kab) (.slice dab mab lab) 30
  clear hx
  obtain ⟨vbc0, vbc1, vbc2, vbc3, vbc4, vbc5⟩ := id VB
  obtain ⟨vac0, vac1, vac2, vac3, vac4, vac5⟩ := id VA
  go_wp2_with fail
  generalize w8.alloc (.cells #[.bool fab, .slice cab nab kab, .slice dab mab lab] 30) = w9 at *
  refine (addQ _ hB hA (by omega) (by omega) (by omega) hT).mono ?_
  rintro e w10 ⟨fba, cba, nba, kba, dba, mba, lba, rfl, Gba, hx⟩
  clear vbc0 vbc1 vbc2 vbc3 vbc4 vbc5 vac0 vac1 vac2 vac3 vac4 vac5
  replace hA := hA.below hx
  replace hB := hB.below hx
  replace hC := hC.below hx
  replace hT := hT.below hx
  replace E := E.below hx
  replace Gx := Gx.below hx
  replace Go0 := Go0.below hx
  replace Go1 := Go1.below hx
  replace Gab := Gab.below hx
  replace VA := VA.below hx
  replace VB := VB.below hx
  replace VC := VC.below hx
  replace Vx := Vx.below hx
  replace Vo0 := Vo0.below hx
  replace Vo1 := Vo1.below hx
  replace Vab := Vab.below hx
  replace hb0 := bel_tr hb0 hx
  clear hx
  have hx := bel_d0 w10 (.cells #[.bool fba, .slice cba nba kba, .slice dba mba lba] 30)
  replace hA := hA.below hx
  replace hB := hB.below hx
  replace hC := hC.below hx
  replace hT := hT.below hx
  replace E := E.below hx
  replace Gx := Gx.below hx
  replace Go0 := Go0.below hx
  replace Go1 := Go1.below hx
  replace Gab := Gab.below hx
  replace Gba := Gba.below hx
  replace VA := VA.below hx
  replace VB := VB.below hx
  replace VC := VC.below hx
  replace Vx := Vx.below hx
  replace Vo0 := Vo0.below hx
  replace Vo1 := Vo1.below hx
  replace Vab := Vab.below hx
  replace hb0 := bel_tr hb0 hx
  have Vba := var3_new w10 (.bool fba) (.slice cba nba kba) (.slice dba mba lba) 30
  clear hx
  obtain ⟨vbc0, vbc1, vbc2, vbc3, vbc4, vbc5⟩ := id VB
  obtain ⟨vcc0, vcc1, vcc2, vcc3, vcc4, vcc5⟩ := id VC
  go_wp2_with fail
  generalize w10.alloc (.cells #[.bool fba, .slice cba nba kba, .slice dba mba lba] 30) = w11 at *
  refine (addQ _ hB hC (by omega) (by omega) (by omega) hT).mono ?_
  rintro e w12 ⟨fbc, cbc, nbc, kbc, dbc, mbc, lbc, rfl, Gbc, hx⟩
  clear vbc0 vbc1 vbc2 vbc3 vbc4 vbc5 vcc0 vcc1 vcc2 vcc3 vcc4 vcc5
  replace hA := hA.below hx
  replace hB := hB.below hx
  replace hC := hC.below hx
  replace hT := hT.below hx
  replace E := E.below hx
  replace Gx := Gx.below hx
  replace Go0 := Go0.below hx
  replace Go1 := Go1.below hx
  replace Gab := Gab.below hx
  replace Gba := Gba.below hx
  replace VA := VA.below hx
  replace VB := VB.below hx
  replace VC := VC.below hx
  replace Vx := Vx.below hx
  replace Vo0 := Vo0.below hx
  replace Vo1 := Vo1.below hx
  replace Vab := Vab.below hx
  replace Vba := Vba.below hx
  replace hb0 := bel_tr hb0 hx
  clear hx
  have hx := bel_d0 w12 (.cells #[.bool fbc, .slice cbc nbc kbc, .slice dbc mbc lbc] 30)
  replace hA := hA.below hx
  replace hB := hB.below hx
  replace hC := hC.below hx
  replace hT := hT.below hx
  replace E := E.below hx
  replace Gx := Gx.below hx
  replace Go0 := Go0.below hx
  replace Go1 := Go1.below hx
  replace Gab := Gab.below hx
  replace Gba := Gba.below hx
  replace Gbc := Gbc.below hx
  replace VA := VA.below hx
  replace VB := VB.below hx
  replace VC := VC.below hx
  replace Vx := Vx.below hx
  replace Vo0 := Vo0.below hx
  replace Vo1 := Vo1.below hx
  replace Vab := Vab.below hx
  replace Vba := Vba.below hx
  replace hb0 := bel_tr hb0 hx
  have Vbc := var3_new w12 (.bool fbc) (.slice cbc nbc kbc) (.slice dbc mbc lbc) 30
  clear hx
  obtain ⟨vabc0, vabc1, vabc2, vabc3, vabc4, vabc5⟩ := id Vab
  obtain ⟨vcc0, vcc1, vcc2, vcc3, vcc4, vcc5⟩ := id VC
  go_wp2_with fail
  generalize w12.alloc (.cells #[.bool fbc, .slice cbc nbc kbc, .slice dbc mbc lbc] 30) = w13 at *
  refine (addQ _ Gab.tr hC (by omega) (by omega) (by omega) hT).mono ?_
  rintro e w14 ⟨flf, clf, nlf, klf, dlf, mlf, llf, rfl, Glf, hx⟩
  clear vabc0 vabc1 vabc2 vabc3 vabc4 vabc5 vcc0 vcc1 vcc2 vcc3 vcc4 vcc5
  replace hA := hA.below hx
  replace hB := hB.below hx
  replace hC := hC.below hx
  replace hT := hT.below hx
  replace E := E.below hx
  replace Gx := Gx.below hx
  replace Go0 := Go0.below hx
  replace Go1 := Go1.below hx
  replace Gab := Gab.below hx
  replace Gba := Gba.below hx
  replace Gbc := Gbc.below hx
  replace VA := VA.below hx
  replace VB := VB.below hx
  replace VC := VC.below hx
  replace Vx := Vx.below hx
  replace Vo0 := Vo0.below hx
  replace Vo1 := Vo1.below hx
  replace Vab := Vab.below hx
  replace Vba := Vba.below hx
  replace Vbc := Vbc.below hx
  replace hb0 := bel_tr hb0 hx
  clear hx
  have hx := bel_d0 w14 (.cells #[.bool flf, .slice clf nlf klf, .slice dlf mlf llf] 30)
  replace hA := hA.below hx
  replace hB := hB.below hx
  replace hC := hC.below hx
  replace hT := hT.below hx
  replace E := E.below hx
  replace Gx := Gx.below hx
  replace Go0 := Go0.below hx
  replace Go1 := Go1.below hx
  replace Gab := Gab.below hx
  replace Gba := Gba.below hx
  replace Gbc := Gbc.below hx
  replace Glf := Glf.below hx
  replace VA := VA.below hx
  replace VB := VB.below hx
  replace VC := VC.below hx
  replace Vx := Vx.below hx
  replace Vo0 := Vo0.below hx
  replace Vo1 := Vo1.below hx
  replace Vab := Vab.below hx
  replace Vba := Vba.below hx
  replace Vbc := Vbc.below hx
  replace hb0 := bel_tr hb0 hx
  have Vlf := var3_new w14 (.bool flf) (.slice clf nlf klf) (.slice dlf mlf llf) 30
  clear hx
  obtain ⟨vac0, vac1, vac2, vac3, vac4, vac5⟩ := id VA
  obtain ⟨vbcc0, vbcc1, vbcc2, vbcc3, vbcc4, vbcc5⟩ := id Vbc
  go_wp2_with fail
  generalize w14.alloc (.cells #[.bool flf, .slice clf nlf klf, .slice dlf mlf llf] 30) = w15 at *
  refine (addQ _ hA Gbc.tr (by omega) (by omega) (by omega) hT).mono ?_
  rintro e w16 ⟨frt, crt, nrt, krt, drt, mrt, lrt, rfl, Grt, hx⟩
  clear vac0 vac1 vac2 vac3 vac4 vac5 vbcc0 vbcc1 vbcc2 vbcc3 vbcc4 vbcc5
  replace hA := hA.below hx
  replace hB := hB.below hx
  replace hC := hC.below hx
  replace hT := hT.below hx
  replace E := E.below hx
  replace Gx := Gx.below hx
  replace Go0 := Go0.below hx
  replace Go1 := Go1.below hx
  replace Gab := Gab.below hx
  replace Gba := Gba.below hx
  replace Gbc := Gbc.below hx
  replace Glf := Glf.below hx
  replace VA := VA.below hx
  replace VB := VB.below hx
  replace VC := VC.below hx
  replace Vx := Vx.below hx
  replace Vo0 := Vo0.below hx
  replace Vo1 := Vo1.below hx
  replace Vab := Vab.below hx
  replace Vba := Vba.below hx
  replace Vbc := Vbc.below hx
  replace Vlf := Vlf.below hx
  replace hb0 := bel_tr hb0 hx
  clear hx
  have hx := bel_d0 w16 (.cells #[.bool frt, .slice crt nrt krt, .slice drt mrt lrt] 30)
  replace hA := hA.below hx
  replace hB := hB.below hx
  replace hC := hC.below hx
  replace hT := hT.below hx
  replace E := E.below hx
  replace Gx := Gx.below hx
  replace Go0 := Go0.below hx
  replace Go1 := Go1.below hx
  replace Gab := Gab.below hx
  replace Gba := Gba.below hx
  replace Gbc := Gbc.below hx
  replace Glf := Glf.below hx
  replace Grt := Grt.below hx
  replace VA := VA.below hx
  replace VB := VB.below hx
  replace VC := VC.below hx
  replace Vx := Vx.below hx
  replace Vo0 := Vo0.below hx
  replace Vo1 := Vo1.below hx
  replace Vab := Vab.below hx
  replace Vba := Vba.below hx
  replace Vbc := Vbc.below hx
  replace Vlf := Vlf.below hx
  replace hb0 := bel_tr hb0 hx
  have Vrt := var3_new w16 (.bool frt) (.slice crt nrt krt) (.slice drt mrt lrt) 30
  clear hx
  obtain ⟨vac0, vac1, vac2, vac3, vac4, vac5⟩ := id VA
  obtain ⟨vo0c0, vo0c1, vo0c2, vo0c3, vo0c4, vo0c5⟩ := id Vo0
  go_wp2_with fail
  generalize w16.alloc (.cells #[.bool frt, .slice crt nrt krt, .slice drt mrt lrt] 30) = w17 at *
  refine (addQ _ hA Go0.tr (by omega) (by omega) (by omega) hT).mono ?_
  rintro e w18 ⟨fno, cno, nno, kno, dno, mno, lno, rfl, Gno, hx⟩
  clear vac0 vac1 vac2 vac3 vac4 vac5 vo0c0 vo0c1 vo0c2 vo0c3 vo0c4 vo0c5
  replace hA := hA.below hx
  replace hB := hB.below hx
  replace hC := hC.below hx
  replace hT := hT.below hx
  replace E := E.below hx
  replace Gx := Gx.below hx
  replace Go0 := Go0.below hx
  replace Go1 := Go1.below hx
  replace Gab := Gab.below hx
  replace Gba := Gba.below hx
  replace Gbc := Gbc.below hx
  replace Glf := Glf.below hx
  replace Grt := Grt.below hx
  replace VA := VA.below hx
  replace VB := VB.below hx
  replace VC := VC.below hx
  replace Vx := Vx.below hx
  replace Vo0 := Vo0.below hx
  replace Vo1 := Vo1.below hx
  replace Vab := Vab.below hx
  replace Vba := Vba.below hx
  replace Vbc := Vbc.below hx
  replace Vlf := Vlf.below hx
  replace Vrt := Vrt.below hx
  replace hb0 := bel_tr hb0 hx
  clear hx
  have hx := bel_d0 w18 (.cells #[.bool fno, .slice cno nno kno, .slice dno mno lno] 30)
  replace hA := hA.below hx
  replace hB := hB.below hx
  replace hC := hC.below hx
  replace hT := hT.below hx
  replace E := E.below hx
  replace Gx := Gx.below hx
  replace Go0 := Go0.below hx
  replace Go1 := Go1.below hx
  replace Gab := Gab.below hx
  replace Gba := Gba.below hx
  replace Gbc := Gbc.below hx
  replace Glf := Glf.below hx
  replace Grt := Grt.below hx
  replace Gno := Gno.below hx
  replace VA := VA.below hx
  replace VB := VB.below hx
  replace VC := VC.below hx
  replace Vx := Vx.below hx
  replace Vo0 := Vo0.below hx
  replace Vo1 := Vo1.below hx
  replace Vab := Vab.below hx
  replace Vba := Vba.below hx
  replace Vbc := Vbc.below hx
  replace Vlf := Vlf.below hx
  replace Vrt := Vrt.below hx
  replace hb0 := bel_tr hb0 hx
  have Vno := var3_new w18 (.bool fno) (.slice cno nno kno) (.slice dno mno lno) 30
  clear hx
  obtain ⟨vac0, vac1, vac2, vac3, vac4, vac5⟩ := id VA
  go_wp2_with fail
  generalize w18.alloc (.cells #[.bool fno, .slice cno nno kno, .slice dno mno lno] 30) = w19 at *
  refine (negQ _ hA (by omega) (by omega) hT).mono ?_
  rintro e w20 ⟨fng, cng, nng, kng, dng, mng, lng, rfl, Gng, hx⟩
  clear vac0 vac1 vac2 vac3 vac4 vac5
  replace hA := hA.below hx
  replace hB := hB.below hx
  replace hC := hC.below hx
  replace hT := hT.below hx
  replace E := E.below hx
  replace Gx := Gx.below hx
  replace Go0 := Go0.below hx
  replace Go1 := Go1.below hx
  replace Gab := Gab.below hx
  replace Gba := Gba.below hx
  replace Gbc := Gbc.below hx
  replace Glf := Glf.below hx
  replace Grt := Grt.below hx
  replace Gno := Gno.below hx
  replace VA := VA.below hx
  replace VB := VB.below hx
  replace VC := VC.below hx
  replace Vx := Vx.below hx
  replace Vo0 := Vo0.below hx
  replace Vo1 := Vo1.below hx
  replace Vab := Vab.below hx
  replace Vba := Vba.below hx
  replace Vbc := Vbc.below hx
  replace Vlf := Vlf.below hx
  replace Vrt := Vrt.below hx
  replace Vno := Vno.below hx
  replace hb0 := bel_tr hb0 hx
  clear hx
  have hx := bel_d0 w20 (.cells #[.bool fng, .slice cng nng kng, .slice dng mng lng] 30)
  replace hA := hA.below hx
  replace hB := hB.below hx
  replace hC := hC.below hx
  replace hT := hT.below hx
  replace E := E.below hx
  replace Gx := Gx.below hx
  replace Go0 := Go0.below hx
  replace Go1 := Go1.below hx
  replace Gab := Gab.below hx
  replace Gba := Gba.below hx
  replace Gbc := Gbc.below hx
  replace Glf := Glf.below hx
  replace Grt := Grt.below hx
  replace Gno := Gno.below hx
  replace Gng := Gng.below hx
  replace VA := VA.below hx
  replace VB := VB.below hx
  replace VC := VC.below hx
  replace Vx := Vx.below hx
  replace Vo0 := Vo0.below hx
  replace Vo1 := Vo1.below hx
  replace Vab := Vab.below hx
  replace Vba := Vba.below hx
  replace Vbc := Vbc.below hx
  replace Vlf := Vlf.below hx
  replace Vrt := Vrt.below hx
  replace Vno := Vno.below hx
  replace hb0 := bel_tr hb0 hx
  have Vng := var3_new w20 (.bool fng) (.slice cng nng kng) (.slice dng mng lng) 30
  clear hx
  obtain ⟨vac0, vac1, vac2, vac3, vac4, vac5⟩ := id VA
  obtain ⟨vngc0, vngc1, vngc2, vngc3, vngc4, vngc5⟩ := id Vng
  go_wp2_with fail
  generalize w20.alloc (.cells #[.bool fng, .slice cng nng kng, .slice dng mng lng] 30) = w21 at *
  refine (addQ _ hA Gng.tr (by omega) (by omega) (by omega) hT).mono ?_
  rintro e w22 ⟨fgo, cgo, ngo, kgo, dgo, mgo, lgo, rfl, Ggo, hx⟩
  clear vac0 vac1 vac2 vac3 vac4 vac5 vngc0 vngc1 vngc2 vngc3 vngc4 vngc5
  replace hA := hA.below hx
  replace hB := hB.below hx
  replace hC := hC.below hx
  replace hT := hT.below hx
  replace E := E.below hx
  replace Gx := Gx.below hx
  replace Go0 := Go0.below hx
  replace Go1 := Go1.below hx
  replace Gab := Gab.below hx
  replace Gba := Gba.below hx
  replace Gbc := Gbc.below hx
  replace Glf := Glf.below hx
  replace Grt := Grt.below hx
  replace Gno := Gno.below hx
  replace Gng := Gng.below hx
  replace VA := VA.below hx
  replace VB := VB.below hx
  replace VC := VC.below hx
  replace Vx := Vx.below hx
  replace Vo0 := Vo0.below hx
  replace Vo1 := Vo1.below hx
  replace Vab := Vab.below hx
  replace Vba := Vba.below hx
  replace Vbc := Vbc.below hx
  replace Vlf := Vlf.below hx
  replace Vrt := Vrt.below hx
  replace Vno := Vno.below hx
  replace Vng := Vng.below hx
  replace hb0 := bel_tr hb0 hx
  clear hx
  have hx := bel_d0 w22 (.cells #[.bool fgo, .slice cgo ngo kgo, .slice dgo mgo lgo] 30)
  replace hA := hA.below hx
  replace hB := hB.below hx
  replace hC := hC.below hx
  replace hT := hT.below hx
  replace E := E.below hx
  replace Gx := Gx.below hx
  replace Go0 := Go0.below hx
  replace Go1 := Go1.below hx
  replace Gab := Gab.below hx
  replace Gba := Gba.below hx
  replace Gbc := Gbc.below hx
  replace Glf := Glf.below hx
  replace Grt := Grt.below hx
  replace Gno := Gno.below hx
  replace Gng := Gng.below hx
  replace Ggo := Ggo.below hx
  replace VA := VA.below hx
  replace VB := VB.below hx
  replace VC := VC.below hx
  replace Vx := Vx.below hx
  replace Vo0 := Vo0.below hx
  replace Vo1 := Vo1.below hx
  replace Vab := Vab.below hx
  replace Vba := Vba.below hx
  replace Vbc := Vbc.below hx
  replace Vlf := Vlf.below hx
  replace Vrt := Vrt.below hx
  replace Vno := Vno.below hx
  replace Vng := Vng.below hx
  replace hb0 := bel_tr hb0 hx
  have Vgo := var3_new w22 (.bool fgo) (.slice cgo ngo kgo) (.slice dgo mgo lgo) 30
  clear hx
  obtain ⟨vbc0, vbc1, vbc2, vbc3, vbc4, vbc5⟩ := id VB
  obtain ⟨vac0, vac1, vac2, vac3, vac4, vac5⟩ := id VA
  go_wp2_with fail
  generalize w22.alloc (.cells #[.bool fgo, .slice cgo ngo kgo, .slice dgo mgo lgo] 30) = w23 at *
  refine (subQ _ hB hA (by omega) (by omega) (by omega) hT).mono ?_
  rintro e w24 ⟨fsb, csb, nsb, ksb, dsb, msb, lsb, rfl, Gsb, hx⟩
  clear vbc0 vbc1 vbc2 vbc3 vbc4 vbc5 vac0 vac1 vac2 vac3 vac4 vac5
  replace hA := hA.below hx
  replace hB := hB.below hx
  replace hC := hC.below hx
  replace hT := hT.below hx
  replace E := E.below hx
  replace Gx := Gx.below hx
  replace Go0 := Go0.below hx
  replace Go1 := Go1.below hx
  replace Gab := Gab.below hx
  replace Gba := Gba.below hx
  replace Gbc := Gbc.below hx
  replace Glf := Glf.below hx
  replace Grt := Grt.below hx
  replace Gno := Gno.below hx
  replace Gng := Gng.below hx
  replace Ggo := Ggo.below hx
  replace VA := VA.below hx
  replace VB := VB.below hx
  replace VC := VC.below hx
  replace Vx := Vx.below hx
  replace Vo0 := Vo0.below hx
  replace Vo1 := Vo1.below hx
  replace Vab := Vab.below hx
  replace Vba := Vba.below hx
  replace Vbc := Vbc.below hx
  replace Vlf := Vlf.below hx
  replace Vrt := Vrt.below hx
  replace Vno := Vno.below hx
  replace Vng := Vng.below hx
  replace Vgo := Vgo.below hx
  replace hb0 := bel_tr hb0 hx
  clear hx
  have hx := bel_d0 w24 (.cells #[.bool fsb, .slice csb nsb ksb, .slice dsb msb lsb] 30)
  replace hA := hA.below hx
  replace hB := hB.below hx
  replace hC := hC.below hx
  replace hT := hT.below hx
  replace E := E.below hx
  replace Gx := Gx.below hx
  replace Go0 := Go0.below hx
  replace Go1 := Go1.below hx
  replace Gab := Gab.below hx
  replace Gba := Gba.below hx
  replace Gbc := Gbc.below hx
  replace Glf := Glf.below hx
  replace Grt := Grt.below hx
  replace Gno := Gno.below hx
  replace Gng := Gng.below hx
  replace Ggo := Ggo.below hx
  replace Gsb := Gsb.below hx
  replace VA := VA.below hx
  replace VB := VB.below hx
  replace VC := VC.below hx
  replace Vx := Vx.below hx
  replace Vo0 := Vo0.below hx
  replace Vo1 := Vo1.below hx
  replace Vab := Vab.below hx
  replace Vba := Vba.below hx
  replace Vbc := Vbc.below hx
  replace Vlf := Vlf.below hx
  replace Vrt := Vrt.below hx
  replace Vno := Vno.below hx
  replace Vng := Vng.below hx
  replace Vgo := Vgo.below hx
  replace hb0 := bel_tr hb0 hx
  have Vsb := var3_new w24 (.bool fsb) (.slice csb nsb ksb) (.slice dsb msb lsb) 30
  clear hx
  obtain ⟨vbc0, vbc1, vbc2, vbc3, vbc4, vbc5⟩ := id VB
  obtain ⟨vngc0, vngc1, vngc2, vngc3, vngc4, vngc5⟩ := id Vng
  go_wp2_with fail
  generalize w24.alloc (.cells #[.bool fsb, .slice csb nsb ksb, .slice dsb msb lsb] 30) = w25 at *
  refine (addQ _ hB Gng.tr (by omega) (by omega) (by omega) hT).mono ?_
  rintro e w26 ⟨fad, cad, nad, kad, dad, mad, lad, rfl, Gad, hx⟩
  clear vbc0 vbc1 vbc2 vbc3 vbc4 vbc5 vngc0 vngc1 vngc2 vngc3 vngc4 vngc5
  replace hA := hA.below hx
  replace hB := hB.below hx
  replace hC := hC.below hx
  replace hT := hT.below hx
  replace E := E.below hx
  replace Gx := Gx.below hx
  replace Go0 := Go0.below hx
  replace Go1 := Go1.below hx
  replace Gab := Gab.below hx
  replace Gba := Gba.below hx
  replace Gbc := Gbc.below hx
  replace Glf := Glf.below hx
  replace Grt := Grt.below hx
  replace Gno := Gno.below hx
  replace Gng := Gng.below hx
  replace Ggo := Ggo.below hx
  replace Gsb := Gsb.below hx
  replace VA := VA.below hx
  replace VB := VB.below hx
  replace VC := VC.below hx
  replace Vx := Vx.below hx
  replace Vo0 := Vo0.below hx
  replace Vo1 := Vo1.below hx
  replace Vab := Vab.below hx
  replace Vba := Vba.below hx
  replace Vbc := Vbc.below hx
  replace Vlf := Vlf.below hx
  replace Vrt := Vrt.below hx
  replace Vno := Vno.below hx
  replace Vng := Vng.below hx
  replace Vgo := Vgo.below hx
  replace Vsb := Vsb.below hx
  replace hb0 := bel_tr hb0 hx
  clear hx
  have hx := bel_d0 w26 (.cells #[.bool fad, .slice cad nad kad, .slice dad mad lad] 30)
  replace hA := hA.below hx
  replace hB := hB.below hx
  replace hC := hC.below hx
  replace hT := hT.below hx
  replace E := E.below hx
  replace Gx := Gx.below hx
  replace Go0 := Go0.below hx
  replace Go1 := Go1.below hx
  replace Gab := Gab.below hx
  replace Gba := Gba.below hx
  replace Gbc := Gbc.below hx
  replace Glf := Glf.below hx
  replace Grt := Grt.below hx
  replace Gno := Gno.below hx
  replace Gng := Gng.below hx
  replace Ggo := Ggo.below hx
  replace Gsb := Gsb.below hx
  replace Gad := Gad.below hx
  replace VA := VA.below hx
  replace VB := VB.below hx
  replace VC := VC.below hx
  replace Vx := Vx.below hx
  replace Vo0 := Vo0.below hx
  replace Vo1 := Vo1.below hx
  replace Vab := Vab.below hx
  replace Vba := Vba.below hx
  replace Vbc := Vbc.below hx
  replace Vlf := Vlf.below hx
  replace Vrt := Vrt.below hx
  replace Vno := Vno.below hx
  replace Vng := Vng.below hx
  replace Vgo := Vgo.below hx
  replace Vsb := Vsb.below hx
  replace hb0 := bel_tr hb0 hx
  have Vad := var3_new w26 (.bool fad) (.slice cad nad kad) (.slice dad mad lad) 30
  clear hx
  obtain ⟨vabc0, vabc1, vabc2, vabc3, vabc4, vabc5⟩ := id Vab
  obtain ⟨vbac0, vbac1, vbac2, vbac3, vbac4, vbac5⟩ := id Vba
  go_wp2_with fail
  generalize w26.alloc (.cells #[.bool fad, .slice cad nad kad, .slice dad mad lad] 30) = w27 at *
  refine (sameQ _ Gab Gba (Rat.add_comm _ _) (by omega)).mono ?_
  rintro e w28 ⟨rfl, hx⟩
  clear vabc0 vabc1 vabc2 vabc3 vabc4 vabc5 vbac0 vbac1 vbac2 vbac3 vbac4 vbac5
  replace hA := hA.below hx
  replace hB := hB.below hx
  replace hC := hC.below hx
  replace hT := hT.below hx
  replace E := E.below hx
  replace Gx := Gx.below hx
  replace Go0 := Go0.below hx
  replace Go1 := Go1.below hx
  replace Gab := Gab.below hx
  replace Gba := Gba.below hx
  replace Gbc := Gbc.below hx
  replace Glf := Glf.below hx
  replace Grt := Grt.below hx
  replace Gno := Gno.below hx
  replace Gng := Gng.below hx
  replace Ggo := Ggo.below hx
  replace Gsb := Gsb.below hx
  replace Gad := Gad.below hx
  replace VA := VA.below hx
  replace VB := VB.below hx
  replace VC := VC.below hx
  replace Vx := Vx.below hx
  replace Vo0 := Vo0.below hx
  replace Vo1 := Vo1.below hx
  replace Vab := Vab.below hx
  replace Vba := Vba.below hx
  replace Vbc := Vbc.below hx
  replace Vlf := Vlf.below hx
  replace Vrt := Vrt.below hx
  replace Vno := Vno.below hx
  replace Vng := Vng.below hx
  replace Vgo := Vgo.below hx
  replace Vsb := Vsb.below hx
  replace Vad := Vad.below hx
  replace hb0 := bel_tr hb0 hx
  clear hx
  obtain ⟨vlfc0, vlfc1, vlfc2, vlfc3, vlfc4, vlfc5⟩ := id Vlf
  obtain ⟨vrtc0, vrtc1, vrtc2, vrtc3, vrtc4, vrtc5⟩ := id Vrt
  clear Vab
  clear Vba
  clear Gab
  clear Gba
  go_wp2_with fail
  refine (sameQ _ Glf Grt (Rat.add_assoc _ _ _) (by omega)).mono ?_
  rintro e w29 ⟨rfl, hx⟩
  clear vlfc0 vlfc1 vlfc2 vlfc3 vlfc4 vlfc5 vrtc0 vrtc1 vrtc2 vrtc3 vrtc4 vrtc5
  replace hA := hA.below hx
  replace hB := hB.below hx
  replace hC := hC.below hx
  replace hT := hT.below hx
  replace E := E.below hx
  replace Gx := Gx.below hx
  replace Go0 := Go0.below hx
  replace Go1 := Go1.below hx
  replace Gbc := Gbc.below hx
  replace Glf := Glf.below hx
  replace Grt := Grt.below hx
  replace Gno := Gno.below hx
  replace Gng := Gng.below hx
  replace Ggo := Ggo.below hx
  replace Gsb := Gsb.below hx
  replace Gad := Gad.below hx
  replace VA := VA.below hx
  replace VB := VB.below hx
  replace VC := VC.below hx
  replace Vx := Vx.below hx
  replace Vo0 := Vo0.below hx
  replace Vo1 := Vo1.below hx
  replace Vbc := Vbc.below hx
  replace Vlf := Vlf.below hx
  replace Vrt := Vrt.below hx
  replace Vno := Vno.below hx
  replace Vng := Vng.below hx
  replace Vgo := Vgo.below hx
  replace Vsb := Vsb.below hx
  replace Vad := Vad.below hx
  replace hb0 := bel_tr hb0 hx
  clear hx
  obtain ⟨vnoc0, vnoc1, vnoc2, vnoc3, vnoc4, vnoc5⟩ := id Vno
  obtain ⟨vxc0, vxc1, vxc2, vxc3, vxc4, vxc5⟩ := id Vx
  clear Vlf
  clear Vrt
  clear Glf
  clear Grt
  go_wp2_with fail
  refine (sameQ _ Gno Gx (add_nought _) (by omega)).mono ?_
  rintro e w30 ⟨rfl, hx⟩
  clear vnoc0 vnoc1 vnoc2 vnoc3 vnoc4 vnoc5 vxc0 vxc1 vxc2 vxc3 vxc4 vxc5
  replace hA := hA.below hx
  replace hB := hB.below hx
  replace hC := hC.below hx
  replace hT := hT.below hx
  replace E := E.below hx
  replace Gx := Gx.below hx
  replace Go0 := Go0.below hx
  replace Go1 := Go1.below hx
  replace Gbc := Gbc.below hx
  replace Gno := Gno.below hx
  replace Gng := Gng.below hx
  replace Ggo := Ggo.below hx
  replace Gsb := Gsb.below hx
  replace Gad := Gad.below hx
  replace VA := VA.below hx
  replace VB := VB.below hx
  replace VC := VC.below hx
  replace Vx := Vx.below hx
  replace Vo0 := Vo0.below hx
  replace Vo1 := Vo1.below hx
  replace Vbc := Vbc.below hx
  replace Vno := Vno.below hx
  replace Vng := Vng.below hx
  replace Vgo := Vgo.below hx
  replace Vsb := Vsb.below hx
  replace Vad := Vad.below hx
  replace hb0 := bel_tr hb0 hx
  clear hx
  obtain ⟨vgoc0, vgoc1, vgoc2, vgoc3, vgoc4, vgoc5⟩ := id Vgo
  obtain ⟨vo0c0, vo0c1, vo0c2, vo0c3, vo0c4, vo0c5⟩ := id Vo0
  clear Vno
  clear Gno
  go_wp2_with fail
  refine (sameQ _ Ggo Go0 (add_gone _) (by omega)).mono ?_
  rintro e w31 ⟨rfl, hx⟩
  clear vgoc0 vgoc1 vgoc2 vgoc3 vgoc4 vgoc5 vo0c0 vo0c1 vo0c2 vo0c3 vo0c4 vo0c5
  replace hA := hA.below hx
  replace hB := hB.below hx
  replace hC := hC.below hx
  replace hT := hT.below hx
  replace E := E.below hx
  replace Gx := Gx.below hx
  replace Go0 := Go0.below hx
  replace Go1 := Go1.below hx
  replace Gbc := Gbc.below hx
  replace Gng := Gng.below hx
  replace Ggo := Ggo.below hx
  replace Gsb := Gsb.below hx
  replace Gad := Gad.below hx
  replace VA := VA.below hx
  replace VB := VB.below hx
  replace VC := VC.below hx
  replace Vx := Vx.below hx
  replace Vo0 := Vo0.below hx
  replace Vo1 := Vo1.below hx
  replace Vbc := Vbc.below hx
  replace Vng := Vng.below hx
  replace Vgo := Vgo.below hx
  replace Vsb := Vsb.below hx
  replace Vad := Vad.below hx
  replace hb0 := bel_tr hb0 hx
  clear hx
  obtain ⟨vsbc0, vsbc1, vsbc2, vsbc3, vsbc4, vsbc5⟩ := id Vsb
  obtain ⟨vadc0, vadc1, vadc2, vadc3, vadc4, vadc5⟩ := id Vad
  clear Vgo
  clear Ggo
  go_wp2_with fail
  refine (sameQ _ Gsb Gad (Rat.sub_eq_add_neg _ _) (by omega)).mono ?_
  rintro e w32 ⟨rfl, hx⟩
  clear vsbc0 vsbc1 vsbc2 vsbc3 vsbc4 vsbc5 vadc0 vadc1 vadc2 vadc3 vadc4 vadc5
  replace hA := hA.below hx
  replace hB := hB.below hx
  replace hC := hC.below hx
  replace hT := hT.below hx
  replace E := E.below hx
  replace Gx := Gx.below hx
  replace Go0 := Go0.below hx
  replace Go1 := Go1.below hx
  replace Gbc := Gbc.below hx
  replace Gng := Gng.below hx
  replace Gsb := Gsb.below hx
  replace Gad := Gad.below hx
  replace VA := VA.below hx
  replace VB := VB.below hx
  replace VC := VC.below hx
  replace Vx := Vx.below hx
  replace Vo0 := Vo0.below hx
  replace Vo1 := Vo1.below hx
  replace Vbc := Vbc.below hx
  replace Vng := Vng.below hx
  replace Vsb := Vsb.below hx
  replace Vad := Vad.below hx
  replace hb0 := bel_tr hb0 hx
  clear hx
  obtain ⟨vac0, vac1, vac2, vac3, vac4, vac5⟩ := id VA
  obtain ⟨vbc0, vbc1, vbc2, vbc3, vbc4, vbc5⟩ := id VB
  clear Vsb
  clear Vad
  clear Gsb
  clear Gad
  clear Vng
  clear Gng
  go_wp2_with fail
  refine (mulQ _ hA hB (by omega) (by omega) (by omega) hT).mono ?_
  rintro e w33 ⟨fp, cp, np, kp, dp, mp, lp, rfl, Gp, hx⟩
  clear vac0 vac1 vac2 vac3 vac4 vac5 vbc0 vbc1 vbc2 vbc3 vbc4 vbc5
  replace hA := hA.below hx
  replace hB := hB.below hx
  replace hC := hC.below hx
  replace hT := hT.below hx
  replace E := E.below hx
  replace Gx := Gx.below hx
  replace Go0 := Go0.below hx
  replace Go1 := Go1.below hx
  replace Gbc := Gbc.below hx
  replace VA := VA.below hx
  replace VB := VB.below hx
  replace VC := VC.below hx
  replace Vx := Vx.below hx
  replace Vo0 := Vo0.below hx
  replace Vo1 := Vo1.below hx
  replace Vbc := Vbc.below hx
  replace hb0 := bel_tr hb0 hx
  clear hx
  have hx := bel_d0 w33 (.cells #[.bool fp, .slice cp np kp, .slice dp mp lp] 30)
  replace hA := hA.below hx
  replace hB := hB.below hx
  replace hC := hC.below hx
  replace hT := hT.below hx
  replace E := E.below hx
  replace Gx := Gx.below hx
  replace Go0 := Go0.below hx
  replace Go1 := Go1.below hx
  replace Gbc := Gbc.below hx
  replace Gp := Gp.below hx
  replace VA := VA.below hx
  replace VB := VB.below hx
  replace VC := VC.below hx
  replace Vx := Vx.below hx
  replace Vo0 := Vo0.below hx
  replace Vo1 := Vo1.below hx
  replace Vbc := Vbc.below hx
  replace hb0 := bel_tr hb0 hx
  have Vp := var3_new w33 (.bool fp) (.slice cp np kp) (.slice dp mp lp) 30
  clear hx
  obtain ⟨vbc0, vbc1, vbc2, vbc3, vbc4, vbc5⟩ := id VB
  obtain ⟨vac0, vac1, vac2, vac3, vac4, vac5⟩ := id VA
  go_wp2_with fail
  generalize w33.alloc (.cells #[.bool fp, .slice cp np kp, .slice dp mp lp] 30) = w34 at *
  refine (mulQ _ hB hA (by omega) (by omega) (by omega) hT).mono ?_
  rintro e w35 ⟨fq, cq, nq, kq, dq, mq, lq, rfl, Gq, hx⟩
  clear vbc0 vbc1 vbc2 vbc3 vbc4 vbc5 vac0 vac1 vac2 vac3 vac4 vac5
  replace hA := hA.below hx
  replace hB := hB.below hx
  replace hC := hC.below hx
  replace hT := hT.below hx
  replace E := E.below hx
  replace Gx := Gx.below hx
  replace Go0 := Go0.below hx
  replace Go1 := Go1.below hx
  replace Gbc := Gbc.below hx
  replace Gp := Gp.below hx
  replace VA := VA.below hx
  replace VB := VB.below hx
  replace VC := VC.below hx
  replace Vx := Vx.below hx
  replace Vo0 := Vo0.below hx
  replace Vo1 := Vo1.below hx
  replace Vbc := Vbc.below hx
  replace Vp := Vp.below hx
  replace hb0 := bel_tr hb0 hx
  clear hx
  have hx := bel_d0 w35 (.cells #[.bool fq, .slice cq nq kq, .slice dq mq lq] 30)
  replace hA := hA.below hx
  replace hB := hB.below hx
  replace hC := hC.below hx
  replace hT := hT.below hx
  replace E := E.below hx
  replace Gx := Gx.below hx
  replace Go0 := Go0.below hx
  replace Go1 := Go1.below hx
  replace Gbc := Gbc.below hx
  replace Gp := Gp.below hx
  replace Gq := Gq.below hx
  replace VA := VA.below hx
  replace VB := VB.below hx
  replace VC := VC.below hx
  replace Vx := Vx.below hx
  replace Vo0 := Vo0.below hx
  replace Vo1 := Vo1.below hx
  replace Vbc := Vbc.below hx
  replace Vp := Vp.below hx
  replace hb0 := bel_tr hb0 hx
  have Vq := var3_new w35 (.bool fq) (.slice cq nq kq) (.slice dq mq lq) 30
  clear hx
  obtain ⟨vbc0, vbc1, vbc2, vbc3, vbc4, vbc5⟩ := id VB
  obtain ⟨vcc0, vcc1, vcc2, vcc3, vcc4, vcc5⟩ := id VC
  go_wp2_with fail
  generalize w35.alloc (.cells #[.bool fq, .slice cq nq kq, .slice dq mq lq] 30) = w36 at *
  refine (mulQ _ hB hC (by omega) (by omega) (by omega) hT).mono ?_
  rintro e w37 ⟨fr, cr, nr, kr, dr, mr, lr, rfl, Gr, hx⟩
  clear vbc0 vbc1 vbc2 vbc3 vbc4 vbc5 vcc0 vcc1 vcc2 vcc3 vcc4 vcc5
  replace hA := hA.below hx
  replace hB := hB.below hx
  replace hC := hC.below hx
  replace hT := hT.below hx
  replace E := E.below hx
  replace Gx := Gx.below hx
  replace Go0 := Go0.below hx
  replace Go1 := Go1.below hx
  replace Gbc := Gbc.below hx
  replace Gp := Gp.below hx
  replace Gq := Gq.below hx
  replace VA := VA.below hx
  replace VB := VB.below hx
  replace VC := VC.below hx
  replace Vx := Vx.below hx
  replace Vo0 := Vo0.below hx
  replace Vo1 := Vo1.below hx
  replace Vbc := Vbc.below hx
  replace Vp := Vp.below hx
  replace Vq := Vq.below hx
  replace hb0 := bel_tr hb0 hx
  clear hx
  have hx := bel_d0 w37 (.cells #[.bool fr, .slice cr nr kr, .slice dr mr lr] 30)
  replace hA := hA.below hx
  replace hB := hB.below hx
  replace hC := hC.below hx
  replace hT := hT.below hx
  replace E := E.below hx
  replace Gx := Gx.below hx
  replace Go0 := Go0.below hx
  replace Go1 := Go1.below hx
  replace Gbc := Gbc.below hx
  replace Gp := Gp.below hx
  replace Gq := Gq.below hx
  replace Gr := Gr.below hx
  replace VA := VA.below hx
  replace VB := VB.below hx
  replace VC := VC.below hx
  replace Vx := Vx.below hx
  replace Vo0 := Vo0.below hx
  replace Vo1 := Vo1.below hx
  replace Vbc := Vbc.below hx
  replace Vp := Vp.below hx
  replace Vq := Vq.below hx
  replace hb0 := bel_tr hb0 hx
  have Vr := var3_new w37 (.bool fr) (.slice cr nr kr) (.slice dr mr lr) 30
  clear hx
  obtain ⟨vpc0, vpc1, vpc2, vpc3, vpc4, vpc5⟩ := id Vp
  obtain ⟨vcc0, vcc1, vcc2, vcc3, vcc4, vcc5⟩ := id VC
  go_wp2_with fail
  generalize w37.alloc (.cells #[.bool fr, .slice cr nr kr, .slice dr mr lr] 30) = w38 at *
  refine (mulQ _ Gp.tr hC (by omega) (by omega) (by omega) hT).mono ?_
  rintro e w39 ⟨fpc, cpc, npc, kpc, dpc, mpc, lpc, rfl, Gpc, hx⟩
  clear vpc0 vpc1 vpc2 vpc3 vpc4 vpc5 vcc0 vcc1 vcc2 vcc3 vcc4 vcc5
  replace hA := hA.below hx
  replace hB := hB.below hx
  replace hC := hC.below hx
  replace hT := hT.below hx
  replace E := E.below hx
  replace Gx := Gx.below hx
  replace Go0 := Go0.below hx
  replace Go1 := Go1.below hx
  replace Gbc := Gbc.below hx
  replace Gp := Gp.below hx
  replace Gq := Gq.below hx
  replace Gr := Gr.below hx
  replace VA := VA.below hx
  replace VB := VB.below hx
  replace VC := VC.below hx
  replace Vx := Vx.below hx
  replace Vo0 := Vo0.below hx
  replace Vo1 := Vo1.below hx
  replace Vbc := Vbc.below hx
  replace Vp := Vp.below hx
  replace Vq := Vq.below hx
  replace Vr := Vr.below hx
  replace hb0 := bel_tr hb0 hx
  clear hx
  have hx := bel_d0 w39 (.cells #[.bool fpc, .slice cpc npc kpc, .slice dpc mpc lpc] 30)
  replace hA := hA.below hx
  replace hB := hB.below hx
  replace hC := hC.below hx
  replace hT := hT.below hx
  replace E := E.below hx
  replace Gx := Gx.below hx
  replace Go0 := Go0.below hx
  replace Go1 := Go1.below hx
  replace Gbc := Gbc.below hx
  replace Gp := Gp.below hx
  replace Gq := Gq.below hx
  replace Gr := Gr.below hx
  replace Gpc := Gpc.below hx
  replace VA := VA.below hx
  replace VB := VB.below hx
  replace VC := VC.below hx
  replace Vx := Vx.below hx
  replace Vo0 := Vo0.below hx
  replace Vo1 := Vo1.below hx
  replace Vbc := Vbc.below hx
  replace Vp := Vp.below hx
  replace Vq := Vq.below hx
  replace Vr := Vr.below hx
  replace hb0 := bel_tr hb0 hx
  have Vpc := var3_new w39 (.bool fpc) (.slice cpc npc kpc) (.slice dpc mpc lpc) 30
  clear hx
  obtain ⟨vac0, vac1, vac2, vac3, vac4, vac5⟩ := id VA
  obtain ⟨vrc0, vrc1, vrc2, vrc3, vrc4, vrc5⟩ := id Vr
  go_wp2_with fail
  generalize w39.alloc (.cells #[.bool fpc, .slice cpc npc kpc, .slice dpc mpc lpc] 30) = w40 at *
  refine (mulQ _ hA Gr.tr (by omega) (by omega) (by omega) hT).mono ?_
  rintro e w41 ⟨far, car, nar, kar, dar, mar, lar, rfl, Gar, hx⟩
  clear vac0 vac1 vac2 vac3 vac4 vac5 vrc0 vrc1 vrc2 vrc3 vrc4 vrc5
  replace hA := hA.below hx
  replace hB := hB.below hx
  replace hC := hC.below hx
  replace hT := hT.below hx
  replace E := E.below hx
  replace Gx := Gx.below hx
  replace Go0 := Go0.below hx
  replace Go1 := Go1.below hx
  replace Gbc := Gbc.below hx
  replace Gp := Gp.below hx
  replace Gq := Gq.below hx
  replace Gr := Gr.below hx
  replace Gpc := Gpc.below hx
  replace VA := VA.below hx
  replace VB := VB.below hx
  replace VC := VC.below hx
  replace Vx := Vx.below hx
  replace Vo0 := Vo0.below hx
  replace Vo1 := Vo1.below hx
  replace Vbc := Vbc.below hx
  replace Vp := Vp.below hx
  replace Vq := Vq.below hx
  replace Vr := Vr.below hx
  replace Vpc := Vpc.below hx
  replace hb0 := bel_tr hb0 hx
  clear hx
  have hx := bel_d0 w41 (.cells #[.bool far, .slice car nar kar, .slice dar mar lar] 30)
  replace hA := hA.below hx
  replace hB := hB.below hx
  replace hC := hC.below hx
  replace hT := hT.below hx
  replace E := E.below hx
  replace Gx := Gx.below hx
  replace Go0 := Go0.below hx
  replace Go1 := Go1.below hx
  replace Gbc := Gbc.below hx
  replace Gp := Gp.below hx
  replace Gq := Gq.below hx
  replace Gr := Gr.below hx
  replace Gpc := Gpc.below hx
  replace Gar := Gar.below hx
  replace VA := VA.below hx
  replace VB := VB.below hx
  replace VC := VC.below hx
  replace Vx := Vx.below hx
  replace Vo0 := Vo0.below hx
  replace Vo1 := Vo1.below hx
  replace Vbc := Vbc.below hx
  replace Vp := Vp.below hx
  replace Vq := Vq.below hx
  replace Vr := Vr.below hx
  replace Vpc := Vpc.below hx
  replace hb0 := bel_tr hb0 hx
  have Var := var3_new w41 (.bool far) (.slice car nar kar) (.slice dar mar lar) 30
  clear hx
  obtain ⟨vac0, vac1, vac2, vac3, vac4, vac5⟩ := id VA
  obtain ⟨vo1c0, vo1c1, vo1c2, vo1c3, vo1c4, vo1c5⟩ := id Vo1
  go_wp2_with fail
  generalize w41.alloc (.cells #[.bool far, .slice car nar kar, .slice dar mar lar] 30) = w42 at *
  refine (mulQ _ hA Go1.tr (by omega) (by omega) (by omega) hT).mono ?_
  rintro e w43 ⟨fuz, cuz, nuz, kuz, duz, muz, luz, rfl, Guz, hx⟩
  clear vac0 vac1 vac2 vac3 vac4 vac5 vo1c0 vo1c1 vo1c2 vo1c3 vo1c4 vo1c5
  replace hA := hA.below hx
  replace hB := hB.below hx
  replace hC := hC.below hx
  replace hT := hT.below hx
  replace E := E.below hx
  replace Gx := Gx.below hx
  replace Go0 := Go0.below hx
  replace Go1 := Go1.below hx
  replace Gbc := Gbc.below hx
  replace Gp := Gp.below hx
  replace Gq := Gq.below hx
  replace Gr := Gr.below hx
  replace Gpc := Gpc.below hx
  replace Gar := Gar.below hx
  replace VA := VA.below hx
  replace VB := VB.below hx
  replace VC := VC.below hx
  replace Vx := Vx.below hx
  replace Vo0 := Vo0.below hx
  replace Vo1 := Vo1.below hx
  replace Vbc := Vbc.below hx
  replace Vp := Vp.below hx
  replace Vq := Vq.below hx
  replace Vr := Vr.below hx
  replace Vpc := Vpc.below hx
  replace Var := Var.below hx
  replace hb0 := bel_tr hb0 hx
  clear hx
  have hx := bel_d0 w43 (.cells #[.bool fuz, .slice cuz nuz kuz, .slice duz muz luz] 30)
  replace hA := hA.below hx
  replace hB := hB.below hx
  replace hC := hC.below hx
  replace hT := hT.below hx
  replace E := E.below hx
  replace Gx := Gx.below hx
  replace Go0 := Go0.below hx
  replace Go1 := Go1.below hx
  replace Gbc := Gbc.below hx
  replace Gp := Gp.below hx
  replace Gq := Gq.below hx
  replace Gr := Gr.below hx
  replace Gpc := Gpc.below hx
  replace Gar := Gar.below hx
  replace Guz := Guz.below hx
  replace VA := VA.below hx
  replace VB := VB.below hx
  replace VC := VC.below hx
  replace Vx := Vx.below hx
  replace Vo0 := Vo0.below hx
  replace Vo1 := Vo1.below hx
  replace Vbc := Vbc.below hx
  replace Vp := Vp.below hx
  replace Vq := Vq.below hx
  replace Vr := Vr.below hx
  replace Vpc := Vpc.below hx
  replace Var := Var.below hx
  replace hb0 := bel_tr hb0 hx
  have Vuz := var3_new w43 (.bool fuz) (.slice cuz nuz kuz) (.slice duz muz luz) 30
  clear hx
  obtain ⟨vpc0, vpc1, vpc2, vpc3, vpc4, vpc5⟩ := id Vp
  obtain ⟨vqc0, vqc1, vqc2, vqc3, vqc4, vqc5⟩ := id Vq
  go_wp2_with fail
  generalize w43.alloc (.cells #[.bool fuz, .slice cuz nuz kuz, .slice duz muz luz] 30) = w44 at *
  refine (sameQ _ Gp Gq (Rat.mul_comm _ _) (by omega)).mono ?_
  rintro e w45 ⟨rfl, hx⟩
  clear vpc0 vpc1 vpc2 vpc3 vpc4 vpc5 vqc0 vqc1 vqc2 vqc3 vqc4 vqc5
  replace hA := hA.below hx
  replace hB := hB.below hx
  replace hC := hC.below hx
  replace hT := hT.below hx
  replace E := E.below hx
  replace Gx := Gx.below hx
  replace Go0 := Go0.below hx
  replace Go1 := Go1.below hx
  replace Gbc := Gbc.below hx
  replace Gp := Gp.below hx
  replace Gq := Gq.below hx
  replace Gr := Gr.below hx
  replace Gpc := Gpc.below hx
  replace Gar := Gar.below hx
  replace Guz := Guz.below hx
  replace VA := VA.below hx
  replace VB := VB.below hx
  replace VC := VC.below hx
  replace Vx := Vx.below hx
  replace Vo0 := Vo0.below hx
  replace Vo1 := Vo1.below hx
  replace Vbc := Vbc.below hx
  replace Vp := Vp.below hx
  replace Vq := Vq.below hx
  replace Vr := Vr.below hx
  replace Vpc := Vpc.below hx
  replace Var := Var.below hx
  replace Vuz := Vuz.below hx
  replace hb0 := bel_tr hb0 hx
  clear hx
  obtain ⟨vpcc0, vpcc1, vpcc2, vpcc3, vpcc4, vpcc5⟩ := id Vpc
  obtain ⟨varc0, varc1, varc2, varc3, varc4, varc5⟩ := id Var
  clear Vq
  clear Gq
  clear Vr
  clear Gr
  go_wp2_with fail
  refine (sameQ _ Gpc Gar (Rat.mul_assoc _ _ _) (by omega)).mono ?_
  rintro e w46 ⟨rfl, hx⟩
  clear vpcc0 vpcc1 vpcc2 vpcc3 vpcc4 vpcc5 varc0 varc1 varc2 varc3 varc4 varc5
  replace hA := hA.below hx
  replace hB := hB.below hx
  replace hC := hC.below hx
  replace hT := hT.below hx
  replace E := E.below hx
  replace Gx := Gx.below hx
  replace Go0 := Go0.below hx
  replace Go1 := Go1.below hx
  replace Gbc := Gbc.below hx
  replace Gp := Gp.below hx
  replace Gpc := Gpc.below hx
  replace Gar := Gar.below hx
  replace Guz := Guz.below hx
  replace VA := VA.below hx
  replace VB := VB.below hx
  replace VC := VC.below hx
  replace Vx := Vx.below hx
  replace Vo0 := Vo0.below hx
  replace Vo1 := Vo1.below hx
  replace Vbc := Vbc.below hx
  replace Vp := Vp.below hx
  replace Vpc := Vpc.below hx
  replace Var := Var.below hx
  replace Vuz := Vuz.below hx
  replace hb0 := bel_tr hb0 hx
  clear hx
  obtain ⟨vuzc0, vuzc1, vuzc2, vuzc3, vuzc4, vuzc5⟩ := id Vuz
  obtain ⟨vxc0, vxc1, vxc2, vxc3, vxc4, vxc5⟩ := id Vx
  clear Vpc
  clear Var
  clear Gpc
  clear Gar
  go_wp2_with fail
  refine (sameQ _ Guz Gx (mul_unit _) (by omega)).mono ?_
  rintro e w47 ⟨rfl, hx⟩
  clear vuzc0 vuzc1 vuzc2 vuzc3 vuzc4 vuzc5 vxc0 vxc1 vxc2 vxc3 vxc4 vxc5
  replace hA := hA.below hx
  replace hB := hB.below hx
  replace hC := hC.below hx
  replace hT := hT.below hx
  replace E := E.below hx
  replace Gx := Gx.below hx
  replace Go0 := Go0.below hx
  replace Go1 := Go1.below hx
  replace Gbc := Gbc.below hx
  replace Gp := Gp.below hx
  replace Guz := Guz.below hx
  replace VA := VA.below hx
  replace VB := VB.below hx
  replace VC := VC.below hx
  replace Vx := Vx.below hx
  replace Vo0 := Vo0.below hx
  replace Vo1 := Vo1.below hx
  replace Vbc := Vbc.below hx
  replace Vp := Vp.below hx
  replace Vuz := Vuz.below hx
  replace hb0 := bel_tr hb0 hx
  clear hx
  obtain ⟨vac0, vac1, vac2, vac3, vac4, vac5⟩ := id VA
  obtain ⟨vbcc0, vbcc1, vbcc2, vbcc3, vbcc4, vbcc5⟩ := id Vbc
  clear Vuz
  clear Guz
  go_wp2_with fail
  refine (mulQ _ hA Gbc.tr (by omega) (by omega) (by omega) hT).mono ?_
  rintro e w48 ⟨fov, cov, nov, kov, dov, mov, lov, rfl, Gov, hx⟩
  clear vac0 vac1 vac2 vac3 vac4 vac5 vbcc0 vbcc1 vbcc2 vbcc3 vbcc4 vbcc5
  replace hA := hA.below hx
  replace hB := hB.below hx
  replace hC := hC.below hx
  replace hT := hT.below hx
  replace E := E.below hx
  replace Gx := Gx.below hx
  replace Go0 := Go0.below hx
  replace Go1 := Go1.below hx
  replace Gbc := Gbc.below hx
  replace Gp := Gp.below hx
  replace VA := VA.below hx
  replace VB := VB.below hx
  replace VC := VC.below hx
  replace Vx := Vx.below hx
  replace Vo0 := Vo0.below hx
  replace Vo1 := Vo1.below hx
  replace Vbc := Vbc.below hx
  replace Vp := Vp.below hx
  replace hb0 := bel_tr hb0 hx
  clear hx
  have hx := bel_d0 w48 (.cells #[.bool fov, .slice cov nov kov, .slice dov mov lov] 30)
  replace hA := hA.below hx
  replace hB := hB.below hx
  replace hC := hC.below hx
  replace hT := hT.below hx
  replace E := E.below hx
  replace Gx := Gx.below hx
  replace Go0 := Go0.below hx
  replace Go1 := Go1.below hx
  replace Gbc := Gbc.below hx
  replace Gp := Gp.below hx
  replace Gov := Gov.below hx
  replace VA := VA.below hx
  replace VB := VB.below hx
  replace VC := VC.below hx
  replace Vx := Vx.below hx
  replace Vo0 := Vo0.below hx
  replace Vo1 := Vo1.below hx
  replace Vbc := Vbc.below hx
  replace Vp := Vp.below hx
  replace hb0 := bel_tr hb0 hx
  have Vov := var3_new w48 (.bool fov) (.slice cov nov kov) (.slice dov mov lov) 30
  clear hx
  obtain ⟨vac0, vac1, vac2, vac3, vac4, vac5⟩ := id VA
  obtain ⟨vcc0, vcc1, vcc2, vcc3, vcc4, vcc5⟩ := id VC
  go_wp2_with fail
  generalize w48.alloc (.cells #[.bool fov, .slice cov nov kov, .slice dov mov lov] 30) = w49 at *
  refine (mulQ _ hA hC (by omega) (by omega) (by omega) hT).mono ?_
  rintro e w50 ⟨fac, cac, nac, kac, dac, mac, lac, rfl, Gac, hx⟩
  clear vac0 vac1 vac2 vac3 vac4 vac5 vcc0 vcc1 vcc2 vcc3 vcc4 vcc5
  replace hA := hA.below hx
  replace hB := hB.below hx
  replace hC := hC.below hx
  replace hT := hT.below hx
  replace E := E.below hx
  replace Gx := Gx.below hx
  replace Go0 := Go0.below hx
  replace Go1 := Go1.below hx
  replace Gbc := Gbc.below hx
  replace Gp := Gp.below hx
  replace Gov := Gov.below hx
  replace VA := VA.below hx
  replace VB := VB.below hx
  replace VC := VC.below hx
  replace Vx := Vx.below hx
  replace Vo0 := Vo0.below hx
  replace Vo1 := Vo1.below hx
  replace Vbc := Vbc.below hx
  replace Vp := Vp.below hx
  replace Vov := Vov.below hx
  replace hb0 := bel_tr hb0 hx
  clear hx
  have hx := bel_d0 w50 (.cells #[.bool fac, .slice cac nac kac, .slice dac mac lac] 30)
  replace hA := hA.below hx
  replace hB := hB.below hx
  replace hC := hC.below hx
  replace hT := hT.below hx
  replace E := E.below hx
  replace Gx := Gx.below hx
  replace Go0 := Go0.below hx
  replace Go1 := Go1.below hx
  replace Gbc := Gbc.below hx
  replace Gp := Gp.below hx
  replace Gov := Gov.below hx
  replace Gac := Gac.below hx
  replace VA := VA.below hx
  replace VB := VB.below hx
  replace VC := VC.below hx
  replace Vx := Vx.below hx
  replace Vo0 := Vo0.below hx
  replace Vo1 := Vo1.below hx
  replace Vbc := Vbc.below hx
  replace Vp := Vp.below hx
  replace Vov := Vov.below hx
  replace hb0 := bel_tr hb0 hx
  have Vac := var3_new w50 (.bool fac) (.slice cac nac kac) (.slice dac mac lac) 30
  clear hx
  obtain ⟨vpc0, vpc1, vpc2, vpc3, vpc4, vpc5⟩ := id Vp
  obtain ⟨vacc0, vacc1, vacc2, vacc3, vacc4, vacc5⟩ := id Vac
  go_wp2_with fail
  generalize w50.alloc (.cells #[.bool fac, .slice cac nac kac, .slice dac mac lac] 30) = w51 at *
  refine (addQ _ Gp.tr Gac.tr (by omega) (by omega) (by omega) hT).mono ?_
  rintro e w52 ⟨fpt, cpt, npt, kpt, dpt, mpt, lpt, rfl, Gpt, hx⟩
  clear vpc0 vpc1 vpc2 vpc3 vpc4 vpc5 vacc0 vacc1 vacc2 vacc3 vacc4 vacc5
  replace hA := hA.below hx
  replace hB := hB.below hx
  replace hC := hC.below hx
  replace hT := hT.below hx
  replace E := E.below hx
  replace Gx := Gx.below hx
  replace Go0 := Go0.below hx
  replace Go1 := Go1.below hx
  replace Gbc := Gbc.below hx
  replace Gp := Gp.below hx
  replace Gov := Gov.below hx
  replace Gac := Gac.below hx
  replace VA := VA.below hx
  replace VB := VB.below hx
  replace VC := VC.below hx
  replace Vx := Vx.below hx
  replace Vo0 := Vo0.below hx
  replace Vo1 := Vo1.below hx
  replace Vbc := Vbc.below hx
  replace Vp := Vp.below hx
  replace Vov := Vov.below hx
  replace Vac := Vac.below hx
  replace hb0 := bel_tr hb0 hx
  clear hx
  have hx := bel_d0 w52 (.cells #[.bool fpt, .slice cpt npt kpt, .slice dpt mpt lpt] 30)
  replace hA := hA.below hx
  replace hB := hB.below hx
  replace hC := hC.below hx
  replace hT := hT.below hx
  replace E := E.below hx
  replace Gx := Gx.below hx
  replace Go0 := Go0.below hx
  replace Go1 := Go1.below hx
  replace Gbc := Gbc.below hx
  replace Gp := Gp.below hx
  replace Gov := Gov.below hx
  replace Gac := Gac.below hx
  replace Gpt := Gpt.below hx
  replace VA := VA.below hx
  replace VB := VB.below hx
  replace VC := VC.below hx
  replace Vx := Vx.below hx
  replace Vo0 := Vo0.below hx
  replace Vo1 := Vo1.below hx
  replace Vbc := Vbc.below hx
  replace Vp := Vp.below hx
  replace Vov := Vov.below hx
  replace Vac := Vac.below hx
  replace hb0 := bel_tr hb0 hx
  have Vpt := var3_new w52 (.bool fpt) (.slice cpt npt kpt) (.slice dpt mpt lpt) 30
  clear hx
  obtain ⟨vovc0, vovc1, vovc2, vovc3, vovc4, vovc5⟩ := id Vov
  obtain ⟨vptc0, vptc1, vptc2, vptc3, vptc4, vptc5⟩ := id Vpt
  go_wp2_with fail
  generalize w52.alloc (.cells #[.bool fpt, .slice cpt npt kpt, .slice dpt mpt lpt] 30) = w53 at *
  refine (sameQ _ Gov Gpt (Rat.mul_add _ _ _) (by omega)).mono ?_
  rintro e w54 ⟨rfl, hx⟩
  clear vovc0 vovc1 vovc2 vovc3 vovc4 vovc5 vptc0 vptc1 vptc2 vptc3 vptc4 vptc5
  replace hA := hA.below hx
  replace hB := hB.below hx
  replace hC := hC.below hx
  replace hT := hT.below hx
  replace E := E.below hx
  replace Gx := Gx.below hx
  replace Go0 := Go0.below hx
  replace Go1 := Go1.below hx
  replace Gbc := Gbc.below hx
  replace Gp := Gp.below hx
  replace Gov := Gov.below hx
  replace Gac := Gac.below hx
  replace Gpt := Gpt.below hx
  replace VA := VA.below hx
  replace VB := VB.below hx
  replace VC := VC.below hx
  replace Vx := Vx.below hx
  replace Vo0 := Vo0.below hx
  replace Vo1 := Vo1.below hx
  replace Vbc := Vbc.below hx
  replace Vp := Vp.below hx
  replace Vov := Vov.below hx
  replace Vac := Vac.below hx
  replace Vpt := Vpt.below hx
  replace hb0 := bel_tr hb0 hx
  clear hx
  obtain ⟨vac0, vac1, vac2, vac3, vac4, vac5⟩ := id VA
  clear Vov
  clear Vpt
  clear Gov
  clear Gpt
  clear Vp
  clear Gp
  clear Vac
  clear Gac
  clear Vbc
  clear Gbc
  clear VC
  clear hC
  go_wp2_with fail
  by_cases hz : x = 0
  · refine (invE _ hA (by omega) (by omega) hz E).mono ?_
    rintro e w55 ⟨rfl, hx⟩
    clear vac0 vac1 vac2 vac3 vac4 vac5
    replace hA := hA.below hx
    replace hB := hB.below hx
    replace hT := hT.below hx
    replace E := E.below hx
    replace Gx := Gx.below hx
    replace Go0 := Go0.below hx
    replace Go1 := Go1.below hx
    replace VA := VA.below hx
    replace VB := VB.below hx
    replace Vx := Vx.below hx
    replace Vo0 := Vo0.below hx
    replace Vo1 := Vo1.below hx
    replace hb0 := bel_tr hb0 hx
    clear hx
    have hx := bel_d0 w55 (.cells #[.bool false, .slice none 0 0, .slice none 0 0] 30)
    replace hA := hA.below hx
    replace hB := hB.below hx
    replace hT := hT.below hx
    replace E := E.below hx
    replace Gx := Gx.below hx
    replace Go0 := Go0.below hx
    replace Go1 := Go1.below hx
    replace VA := VA.below hx
    replace VB := VB.below hx
    replace Vx := Vx.below hx
    replace Vo0 := Vo0.below hx
    replace Vo1 := Vo1.below hx
    replace hb0 := bel_tr hb0 hx
    have Vi := var3_new w55 (.bool false) (.slice none 0 0) (.slice none 0 0) 30
    clear hx
    obtain ⟨vbc0, vbc1, vbc2, vbc3, vbc4, vbc5⟩ := id VB
    obtain ⟨vac0, vac1, vac2, vac3, vac4, vac5⟩ := id VA
    go_wp2_with fail
    generalize w55.alloc (.cells #[.bool false, .slice none 0 0, .slice none 0 0] 30) = w56 at *
    refine (quoQE _ hB hA (by omega) (by omega) (by omega) hz E).mono ?_
    rintro e w57 ⟨rfl, hx⟩
    clear vbc0 vbc1 vbc2 vbc3 vbc4 vbc5 vac0 vac1 vac2 vac3 vac4 vac5
    replace hA := hA.below hx
    replace hB := hB.below hx
    replace hT := hT.below hx
    replace E := E.below hx
    replace Gx := Gx.below hx
    replace Go0 := Go0.below hx
    replace Go1 := Go1.below hx
    replace VA := VA.below hx
    replace VB := VB.below hx
    replace Vx := Vx.below hx
    replace Vo0 := Vo0.below hx
    replace Vo1 := Vo1.below hx
    replace Vi := Vi.below hx
    replace hb0 := bel_tr hb0 hx
    clear hx
    obtain ⟨vbc0, vbc1, vbc2, vbc3, vbc4, vbc5⟩ := id VB
    obtain ⟨vac0, vac1, vac2, vac3, vac4, vac5⟩ := id VA
    have hx := bel_d0 w57 (.cells #[.bool false, .slice none 0 0, .slice none 0 0] 30)
    clear vbc0 vbc1 vbc2 vbc3 vbc4 vbc5 vac0 vac1 vac2 vac3 vac4 vac5
    replace hA := hA.below hx
    replace hB := hB.below hx
    replace hT := hT.below hx
    replace E := E.below hx
    replace Gx := Gx.below hx
    replace Go0 := Go0.below hx
    replace Go1 := Go1.below hx
    replace VA := VA.below hx
    replace VB := VB.below hx
    replace Vx := Vx.below hx
    replace Vo0 := Vo0.below hx
    replace Vo1 := Vo1.below hx
    replace Vi := Vi.below hx
    replace hb0 := bel_tr hb0 hx
    have Vu := var3_new w57 (.bool false) (.slice none 0 0) (.slice none 0 0) 30
    clear hx
    obtain ⟨vac0, vac1, vac2, vac3, vac4, vac5⟩ := id VA
    go_wp2_with fail
    generalize w57.alloc (.cells #[.bool false, .slice none 0 0, .slice none 0 0] 30) = w58 at *
    refine (rsignR _ hA (by omega) (by omega)).mono ?_
    rintro e w59 ⟨zz, rfl, hzz, hx⟩
    clear vac0 vac1 vac2 vac3 vac4 vac5
    replace hA := hA.below hx
    replace hB := hB.below hx
    replace hT := hT.below hx
    replace E := E.below hx
    replace Gx := Gx.below hx
    replace Go0 := Go0.below hx
    replace Go1 := Go1.below hx
    replace VA := VA.below hx
    replace VB := VB.below hx
    replace Vx := Vx.below hx
    replace Vo0 := Vo0.below hx
    replace Vo1 := Vo1.below hx
    replace Vi := Vi.below hx
    replace Vu := Vu.below hx
    replace hb0 := bel_tr hb0 hx
    clear hx
    obtain ⟨vxc0, vxc1, vxc2, vxc3, vxc4, vxc5⟩ := id Vx
    obtain ⟨vo0c0, vo0c1, vo0c2, vo0c3, vo0c4, vo0c5⟩ := id Vo0
    obtain rfl : zz = 0 := by rw [hzz, hz]; rfl
    clear hzz
    obtain ⟨ec, pp, rfl⟩ := E
    have heq := run_eql_iface_ptr_same (P := Tryz.prog) w59 pp Tryz.underlying24 Tryz.underlying165 hi hcmp hj
    go_wp2_with fail
    refine (sameQ _ Gx Go0 hz (by omega)).mono ?_
    rintro e w60 ⟨rfl, hx⟩
    clear vxc0 vxc1 vxc2 vxc3 vxc4 vxc5 vo0c0 vo0c1 vo0c2 vo0c3 vo0c4 vo0c5
    replace hA := hA.below hx
    replace hB := hB.below hx
    replace hT := hT.below hx
    replace Gx := Gx.below hx
    replace Go0 := Go0.below hx
    replace Go1 := Go1.below hx
    replace VA := VA.below hx
    replace VB := VB.below hx
    replace Vx := Vx.below hx
    replace Vo0 := Vo0.below hx
    replace Vo1 := Vo1.below hx
    replace Vi := Vi.below hx
    replace Vu := Vu.below hx
    replace hb0 := bel_tr hb0 hx
    clear hx
    go_wp2
    go_ret
    exact ⟨rfl, hb0⟩
  · refine (invQ _ hA (by omega) (by omega) hz hT).mono ?_
    rintro e w55 ⟨fi, ci, ni, ki, di, mi, li, rfl, Gi, hx⟩
    clear vac0 vac1 vac2 vac3 vac4 vac5
    replace hA := hA.below hx
    replace hB := hB.below hx
    replace hT := hT.below hx
    replace E := E.below hx
    replace Gx := Gx.below hx
    replace Go0 := Go0.below hx
    replace Go1 := Go1.below hx
    replace VA := VA.below hx
    replace VB := VB.below hx
    replace Vx := Vx.below hx
    replace Vo0 := Vo0.below hx
    replace Vo1 := Vo1.below hx
    replace hb0 := bel_tr hb0 hx
    clear hx
    have hx := bel_d0 w55 (.cells #[.bool fi, .slice ci ni ki, .slice di mi li] 30)
    replace hA := hA.below hx
    replace hB := hB.below hx
    replace hT := hT.below hx
    replace E := E.below hx
    replace Gx := Gx.below hx
    replace Go0 := Go0.below hx
    replace Go1 := Go1.below hx
    replace Gi := Gi.below hx
    replace VA := VA.below hx
    replace VB := VB.below hx
    replace Vx := Vx.below hx
    replace Vo0 := Vo0.below hx
    replace Vo1 := Vo1.below hx
    replace hb0 := bel_tr hb0 hx
    have Vi := var3_new w55 (.bool fi) (.slice ci ni ki) (.slice di mi li) 30
    clear hx
    obtain ⟨vbc0, vbc1, vbc2, vbc3, vbc4, vbc5⟩ := id VB
    obtain ⟨vac0, vac1, vac2, vac3, vac4, vac5⟩ := id VA
    go_wp2_with fail
    generalize w55.alloc (.cells #[.bool fi, .slice ci ni ki, .slice di mi li] 30) = w56 at *
    refine (quoQ _ hB hA (by omega) (by omega) (by omega) hz hT).mono ?_
    rintro e w57 ⟨fu, cu, nu, ku, du, mu, lu, rfl, Gu, hx⟩
    clear vbc0 vbc1 vbc2 vbc3 vbc4 vbc5 vac0 vac1 vac2 vac3 vac4 vac5
    replace hA := hA.below hx
    replace hB := hB.below hx
    replace hT := hT.below hx
    replace E := E.below hx
    replace Gx := Gx.below hx
    replace Go0 := Go0.below hx
    replace Go1 := Go1.below hx
    replace Gi := Gi.below hx
    replace VA := VA.below hx
    replace VB := VB.below hx
    replace Vx := Vx.below hx
    replace Vo0 := Vo0.below hx
    replace Vo1 := Vo1.below hx
    replace Vi := Vi.below hx
    replace hb0 := bel_tr hb0 hx
    clear hx
    obtain ⟨vbc0, vbc1, vbc2, vbc3, vbc4, vbc5⟩ := id VB
    obtain ⟨vac0, vac1, vac2, vac3, vac4, vac5⟩ := id VA
    have hx := bel_d0 w57 (.cells #[.bool fu, .slice cu nu ku, .slice du mu lu] 30)
    clear vbc0 vbc1 vbc2 vbc3 vbc4 vbc5 vac0 vac1 vac2 vac3 vac4 vac5
    replace hA := hA.below hx
    replace hB := hB.below hx
    replace hT := hT.below hx
    replace E := E.below hx
    replace Gx := Gx.below hx
    replace Go0 := Go0.below hx
    replace Go1 := Go1.below hx
    replace Gi := Gi.below hx
    replace Gu := Gu.below hx
    replace VA := VA.below hx
    replace VB := VB.below hx
    replace Vx := Vx.below hx
    replace Vo0 := Vo0.below hx
    replace Vo1 := Vo1.below hx
    replace Vi := Vi.below hx
    replace hb0 := bel_tr hb0 hx
    have Vu := var3_new w57 (.bool fu) (.slice cu nu ku) (.slice du mu lu) 30
    clear hx
    obtain ⟨vac0, vac1, vac2, vac3, vac4, vac5⟩ := id VA
    go_wp2_with fail
    generalize w57.alloc (.cells #[.bool fu, .slice cu nu ku, .slice du mu lu] 30) = w58 at *
    refine (rsignR _ hA (by omega) (by omega)).mono ?_
    rintro e w59 ⟨zz, rfl, hzz, hx⟩
    clear vac0 vac1 vac2 vac3 vac4 vac5
    replace hA := hA.below hx
    replace hB := hB.below hx
    replace hT := hT.below hx
    replace E := E.below hx
    replace Gx := Gx.below hx
    replace Go0 := Go0.below hx
    replace Go1 := Go1.below hx
    replace Gi := Gi.below hx
    replace Gu := Gu.below hx
    replace VA := VA.below hx
    replace VB := VB.below hx
    replace Vx := Vx.below hx
    replace Vo0 := Vo0.below hx
    replace Vo1 := Vo1.below hx
    replace Vi := Vi.below hx
    replace Vu := Vu.below hx
    replace hb0 := bel_tr hb0 hx
    clear hx
    obtain ⟨vic0, vic1, vic2, vic3, vic4, vic5⟩ := id Vi
    obtain ⟨vac0, vac1, vac2, vac3, vac4, vac5⟩ := id VA
    have hz0 : zz ≠ 0 := by
      rw [hzz]; intro h; exact hz (Rat.num_eq_zero.1 (Int.sign_eq_zero_iff_zero.1 h))
    clear hzz
    go_wp2_with fail
    refine (mulQ _ Gi.tr hA (by omega) (by omega) (by omega) hT).mono ?_
    rintro e w60 ⟨fbk, cbk, nbk, kbk, dbk, mbk, lbk, rfl, Gbk, hx⟩
    clear vic0 vic1 vic2 vic3 vic4 vic5 vac0 vac1 vac2 vac3 vac4 vac5
    replace hA := hA.below hx
    replace hB := hB.below hx
    replace hT := hT.below hx
    replace E := E.below hx
    replace Gx := Gx.below hx
    replace Go0 := Go0.below hx
    replace Go1 := Go1.below hx
    replace Gi := Gi.below hx
    replace Gu := Gu.below hx
    replace VA := VA.below hx
    replace VB := VB.below hx
    replace Vx := Vx.below hx
    replace Vo0 := Vo0.below hx
    replace Vo1 := Vo1.below hx
    replace Vi := Vi.below hx
    replace Vu := Vu.below hx
    replace hb0 := bel_tr hb0 hx
    clear hx
    have hx := bel_d0 w60 (.cells #[.bool fbk, .slice cbk nbk kbk, .slice dbk mbk lbk] 30)
    replace hA := hA.below hx
    replace hB := hB.below hx
    replace hT := hT.below hx
    replace E := E.below hx
    replace Gx := Gx.below hx
    replace Go0 := Go0.below hx
    replace Go1 := Go1.below hx
    replace Gi := Gi.below hx
    replace Gu := Gu.below hx
    replace Gbk := Gbk.below hx
    replace VA := VA.below hx
    replace VB := VB.below hx
    replace Vx := Vx.below hx
    replace Vo0 := Vo0.below hx
    replace Vo1 := Vo1.below hx
    replace Vi := Vi.below hx
    replace Vu := Vu.below hx
    replace hb0 := bel_tr hb0 hx
    have Vbk := var3_new w60 (.bool fbk) (.slice cbk nbk kbk) (.slice dbk mbk lbk) 30
    clear hx
    obtain ⟨vbc0, vbc1, vbc2, vbc3, vbc4, vbc5⟩ := id VB
    obtain ⟨vic0, vic1, vic2, vic3, vic4, vic5⟩ := id Vi
    go_wp2_with fail
    generalize w60.alloc (.cells #[.bool fbk, .slice cbk nbk kbk, .slice dbk mbk lbk] 30) = w61 at *
    refine (mulQ _ hB Gi.tr (by omega) (by omega) (by omega) hT).mono ?_
    rintro e w62 ⟨fby, cby, nby, kby, dby, mby, lby, rfl, Gby, hx⟩
    clear vbc0 vbc1 vbc2 vbc3 vbc4 vbc5 vic0 vic1 vic2 vic3 vic4 vic5
    replace hA := hA.below hx
    replace hB := hB.below hx
    replace hT := hT.below hx
    replace E := E.below hx
    replace Gx := Gx.below hx
    replace Go0 := Go0.below hx
    replace Go1 := Go1.below hx
    replace Gi := Gi.below hx
    replace Gu := Gu.below hx
    replace Gbk := Gbk.below hx
    replace VA := VA.below hx
    replace VB := VB.below hx
    replace Vx := Vx.below hx
    replace Vo0 := Vo0.below hx
    replace Vo1 := Vo1.below hx
    replace Vi := Vi.below hx
    replace Vu := Vu.below hx
    replace Vbk := Vbk.below hx
    replace hb0 := bel_tr hb0 hx
    clear hx
    have hx := bel_d0 w62 (.cells #[.bool fby, .slice cby nby kby, .slice dby mby lby] 30)
    replace hA := hA.below hx
    replace hB := hB.below hx
    replace hT := hT.below hx
    replace E := E.below hx
    replace Gx := Gx.below hx
    replace Go0 := Go0.below hx
    replace Go1 := Go1.below hx
    replace Gi := Gi.below hx
    replace Gu := Gu.below hx
    replace Gbk := Gbk.below hx
    replace Gby := Gby.below hx
    replace VA := VA.below hx
    replace VB := VB.below hx
    replace Vx := Vx.below hx
    replace Vo0 := Vo0.below hx
    replace Vo1 := Vo1.below hx
    replace Vi := Vi.below hx
    replace Vu := Vu.below hx
    replace Vbk := Vbk.below hx
    replace hb0 := bel_tr hb0 hx
    have Vby := var3_new w62 (.bool fby) (.slice cby nby kby) (.slice dby mby lby) 30
    clear hx
    obtain ⟨vbkc0, vbkc1, vbkc2, vbkc3, vbkc4, vbkc5⟩ := id Vbk
    obtain ⟨vo1c0, vo1c1, vo1c2, vo1c3, vo1c4, vo1c5⟩ := id Vo1
    go_wp2_with fail
    generalize w62.alloc (.cells #[.bool fby, .slice cby nby kby, .slice dby mby lby] 30) = w63 at *
    refine (sameQ _ Gbk Go1 (inv_unit hz) (by omega)).mono ?_
    rintro e w64 ⟨rfl, hx⟩
    clear vbkc0 vbkc1 vbkc2 vbkc3 vbkc4 vbkc5 vo1c0 vo1c1 vo1c2 vo1c3 vo1c4 vo1c5
    replace hA := hA.below hx
    replace hB := hB.below hx
    replace hT := hT.below hx
    replace E := E.below hx
    replace Gx := Gx.below hx
    replace Go0 := Go0.below hx
    replace Go1 := Go1.below hx
    replace Gi := Gi.below hx
    replace Gu := Gu.below hx
    replace Gbk := Gbk.below hx
    replace Gby := Gby.below hx
    replace VA := VA.below hx
    replace VB := VB.below hx
    replace Vx := Vx.below hx
    replace Vo0 := Vo0.below hx
    replace Vo1 := Vo1.below hx
    replace Vi := Vi.below hx
    replace Vu := Vu.below hx
    replace Vbk := Vbk.below hx
    replace Vby := Vby.below hx
    replace hb0 := bel_tr hb0 hx
    clear hx
    obtain ⟨vuc0, vuc1, vuc2, vuc3, vuc4, vuc5⟩ := id Vu
    obtain ⟨vbyc0, vbyc1, vbyc2, vbyc3, vbyc4, vbyc5⟩ := id Vby
    go_wp2_with fail
    refine (sameQ _ Gu Gby (Rat.div_def _ _) (by omega)).mono ?_
    rintro e w65 ⟨rfl, hx⟩
    clear vuc0 vuc1 vuc2 vuc3 vuc4 vuc5 vbyc0 vbyc1 vbyc2 vbyc3 vbyc4 vbyc5
    replace hA := hA.below hx
    replace hB := hB.below hx
    replace hT := hT.below hx
    replace E := E.below hx
    replace Gx := Gx.below hx
    replace Go0 := Go0.below hx
    replace Go1 := Go1.below hx
    replace Gi := Gi.below hx
    replace Gu := Gu.below hx
    replace Gbk := Gbk.below hx
    replace Gby := Gby.below hx
    replace VA := VA.below hx
    replace VB := VB.below hx
    replace Vx := Vx.below hx
    replace Vo0 := Vo0.below hx
    replace Vo1 := Vo1.below hx
    replace Vi := Vi.below hx
    replace Vu := Vu.below hx
    replace Vbk := Vbk.below hx
    replace Vby := Vby.below hx
    replace hb0 := bel_tr hb0 hx
    clear hx
    go_wp2
    go_ret
    exact ⟨rfl, hb0⟩
end Go.Proofs.YtfelogbfijomiabGreatDoor

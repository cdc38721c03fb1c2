import Derived.Test.YtbagfdlmedljjaaGreatDoorR3S
import Derived.Test.YtbagfdlmedljjaaGreatDoorR3Sf
import Derived.Test.YtbagfdlmedljjaaGreatDoorR3Ab
namespace Go.Proofs.YtbagfdlmedljjaaGreatDoor
open Go.RowKit

theorem absN (r : Rat) : (absR r).num = (r.num.natAbs : Int) := by
  unfold absR; split
  · rw [Rat.neg_num]; omega
  · omega
theorem absDn (r : Rat) : (absR r).den = r.den := by
  unfold absR; split
  · rw [Rat.neg_den]
  · rfl
theorem abs_le {r s : Rat} (hd : r.den = s.den) (hn : r.num.natAbs ≤ s.num.natAbs) : absR r ≤ absR s := by
  rw [Rat.le_iff, absN, absN, absDn, absDn, hd]
  exact Int.mul_le_mul_of_nonneg_right (by omega) (by omega)
theorem tr_none (w : World) (S : Nat) : TR w false none 0 0 none 0 0 0 S := ⟨0, 0, ⟨0, ⟨[], rfl, Nat.le_refl _, .inl rfl, AllW.nil, rfl, Nat.zero_le _⟩, rfl⟩, ⟨[], rfl, Nat.le_refl _, .inl rfl, AllW.nil, rfl, Nat.zero_le _⟩, by simp⟩
set_option maxRecDepth 100000 in
set_option maxHeartbeats 20000000 in
theorem simplest_walkE {p1 : Bool} {a1 : Option Addr} {na1 ca1 : Nat} {d1 : Option Addr} {nd1 cd1 : Nat} {p2 : Bool} {a2 : Option Addr} {na2 ca2 : Nat} {d2 : Option Addr} {nd2 cd2 : Nat} {p3 : Bool} {a3 : Option Addr} {na3 ca3 : Nat} {d3 : Option Addr} {nd3 cd3 : Nat} {x y z : Rat} {S : Nat} (w : World) (hA : TR w p1 a1 na1 ca1 d1 nd1 cd1 x S) (hB : TR w p2 a2 na2 ca2 d2 nd2 cd2 y S) (hC : TR w p3 a3 na3 ca3 d3 nd3 cd3 z S) (hS : S ≤ 1100000) (hS1 : 1 ≤ S) (hT : TB w) {ev ea : Value} (E : Errs w 1 ev) (EA : Errs w 0 ea) (hxy : y < x) :
    Calls Tryz.prog 5 #[.agg #[.bool p1, .slice a1 na1 ca1, .slice d1 nd1 cd1], .agg #[.bool p2, .slice a2 na2 ca2, .slice d2 nd2 cd2], .agg #[.bool p3, .slice a3 na3 ca3, .slice d3 nd3 cd3]] w fun e w' => e = .returned (.bool true) ∧ Below w.heap.size w w' := by
  obtain ⟨i, hi, hcmp⟩ := Option.map_eq_some_iff.1 Tryz.errCompR
  obtain ⟨jj, hj, _⟩ := Option.map_eq_some_iff.1 Tryz.errSizeR
  obtain ⟨VA, VB, VC0, hb0, hsz⟩ := box_rrr w (.bool p1) (.slice a1 na1 ca1) (.slice d1 nd1 cd1) (.bool p2) (.slice a2 na2 ca2) (.slice d2 nd2 cd2) (.bool p3) (.slice a3 na3 ca3) (.slice d3 nd3 cd3) 28
  have VC : Var3 _ (w.heap.size + 1 + 1) _ _ _ := VC0
  clear VC0 hsz
  replace hA := hA.below hb0
  replace hB := hB.below hb0
  replace hC := hC.below hb0
  replace hT := hT.below hb0
  replace E := E.below hb0
  replace EA := EA.below hb0
  go_enter Tryz.func5, Tryz.ntmps5
  go_wp2_with fail
  generalize ((w.alloc (.cells #[.bool p1, .slice a1 na1 ca1, .slice d1 nd1 cd1] 28)).alloc (.cells #[.bool p2, .slice a2 na2 ca2, .slice d2 nd2 cd2] 28)).alloc (.cells #[.bool p3, .slice a3 na3 ca3, .slice d3 nd3 cd3] 28) = W0 at *
  refine (shownQ _ hT E).mono ?_
  rintro e w1 ⟨rfl, hx⟩
  replace hA := hA.below hx
  replace hB := hB.below hx
  replace hC := hC.below hx
  replace hT := hT.below hx
  replace E := E.below hx
  replace EA := EA.below hx
  replace VA := VA.below hx
  replace VB := VB.below hx
  replace VC := VC.below hx
  replace hb0 := bel_tr hb0 hx
  clear hx
  obtain ⟨vac0, vac1, vac2, vac3, vac4, vac5⟩ := id VA
  obtain ⟨vbc0, vbc1, vbc2, vbc3, vbc4, vbc5⟩ := id VB
  clear E
  go_wp2_with fail
  refine (simplestE _ hA hB (by omega) hS1 hxy EA).mono ?_
  rintro e w2 ⟨rfl, hx⟩
  clear vac0 vac1 vac2 vac3 vac4 vac5 vbc0 vbc1 vbc2 vbc3 vbc4 vbc5
  replace hA := hA.below hx
  replace hB := hB.below hx
  replace hC := hC.below hx
  replace hT := hT.below hx
  replace EA := EA.below hx
  replace VA := VA.below hx
  replace VB := VB.below hx
  replace VC := VC.below hx
  replace hb0 := bel_tr hb0 hx
  clear hx
  have hx := bel_d0 w2 (.cells #[.bool false, .slice none 0 0, .slice none 0 0] 28)
  replace hA := hA.below hx
  replace hB := hB.below hx
  replace hC := hC.below hx
  replace hT := hT.below hx
  replace EA := EA.below hx
  replace VA := VA.below hx
  replace VB := VB.below hx
  replace VC := VC.below hx
  replace hb0 := bel_tr hb0 hx
  have Vs := var3_new w2 (.bool false) (.slice none 0 0) (.slice none 0 0) 28
  clear hx
  obtain ⟨vac0, vac1, vac2, vac3, vac4, vac5⟩ := id VA
  obtain ⟨vbc0, vbc1, vbc2, vbc3, vbc4, vbc5⟩ := id VB
  go_wp2_with fail
  generalize w2.alloc (.cells #[.bool false, .slice none 0 0, .slice none 0 0] 28) = w3 at *
  obtain ⟨t, qt⟩ : ∃ t, t = cs x y := ⟨_, rfl⟩
  have ht : 0 < t := by rw [qt, cs_gt]; exact hxy
  have Qt : Hid (t = cs x y) := qt
  clear qt
  refine (cmpB t _ hA hB (by omega) (by omega) (by omega) Qt.out).mono ?_
  rintro e w4 ⟨rfl, hx⟩
  clear vac0 vac1 vac2 vac3 vac4 vac5 vbc0 vbc1 vbc2 vbc3 vbc4 vbc5
  replace hA := hA.below hx
  replace hB := hB.below hx
  replace hC := hC.below hx
  replace hT := hT.below hx
  replace EA := EA.below hx
  replace VA := VA.below hx
  replace VB := VB.below hx
  replace VC := VC.below hx
  replace Vs := Vs.below hx
  replace hb0 := bel_tr hb0 hx
  clear hx
  obtain ⟨vsc0, vsc1, vsc2, vsc3, vsc4, vsc5⟩ := id Vs
  go_wp2_with fail
  obtain ⟨u, hu⟩ : ∃ u : Int, u = 0 := ⟨_, rfl⟩
  refine (rsignB u _ (tr_none _ 1) (by decide) (by decide) (by rw [hu]; rfl)).mono ?_
  rintro e w5 ⟨rfl, hx⟩
  clear vsc0 vsc1 vsc2 vsc3 vsc4 vsc5
  replace hA := hA.below hx
  replace hB := hB.below hx
  replace hC := hC.below hx
  replace hT := hT.below hx
  replace EA := EA.below hx
  replace VA := VA.below hx
  replace VB := VB.below hx
  replace VC := VC.below hx
  replace Vs := Vs.below hx
  replace hb0 := bel_tr hb0 hx
  clear hx
  subst hu
  obtain ⟨ec, pp, rfl⟩ := EA
  have heq := run_eql_iface_ptr_same (P := Tryz.prog) w5 pp Tryz.underlying41 Tryz.underlying178 hi hcmp hj
  go_wp2
  first
    | (go_ret; exact ⟨rfl, hb0⟩)
    | (rw [heq]; go_wp2; go_ret; exact ⟨rfl, hb0⟩)
set_option maxRecDepth 100000 in
set_option maxHeartbeats 20000000 in
theorem simplest_walkQ {p1 : Bool} {a1 : Option Addr} {na1 ca1 : Nat} {d1 : Option Addr} {nd1 cd1 : Nat} {p2 : Bool} {a2 : Option Addr} {na2 ca2 : Nat} {d2 : Option Addr} {nd2 cd2 : Nat} {p3 : Bool} {a3 : Option Addr} {na3 ca3 : Nat} {d3 : Option Addr} {nd3 cd3 : Nat} {x y z : Rat} {S : Nat} (w : World) (hA : TR w p1 a1 na1 ca1 d1 nd1 cd1 x S) (hB : TR w p2 a2 na2 ca2 d2 nd2 cd2 y S) (hC : TR w p3 a3 na3 ca3 d3 nd3 cd3 z S) (hS : S ≤ 1100000) (hS1 : 1 ≤ S) (hT : TB w) {ev ea : Value} (E : Errs w 1 ev) (EA : Errs w 0 ea) (hxy : x ≤ y) :
    Calls Tryz.prog 5 #[.agg #[.bool p1, .slice a1 na1 ca1, .slice d1 nd1 cd1], .agg #[.bool p2, .slice a2 na2 ca2, .slice d2 nd2 cd2], .agg #[.bool p3, .slice a3 na3 ca3, .slice d3 nd3 cd3]] w fun e w' => e = .returned (.bool true) ∧ Below w.heap.size w w' := by
  obtain ⟨i, hi, hcmp⟩ := Option.map_eq_some_iff.1 Tryz.errCompR
  obtain ⟨jj, hj, _⟩ := Option.map_eq_some_iff.1 Tryz.errSizeR
  obtain ⟨VA, VB, VC0, hb0, hsz⟩ := box_rrr w (.bool p1) (.slice a1 na1 ca1) (.slice d1 nd1 cd1) (.bool p2) (.slice a2 na2 ca2) (.slice d2 nd2 cd2) (.bool p3) (.slice a3 na3 ca3) (.slice d3 nd3 cd3) 28
  have VC : Var3 _ (w.heap.size + 1 + 1) _ _ _ := VC0
  clear VC0 hsz
  replace hA := hA.below hb0
  replace hB := hB.below hb0
  replace hC := hC.below hb0
  replace hT := hT.below hb0
  replace E := E.below hb0
  replace EA := EA.below hb0
  go_enter Tryz.func5, Tryz.ntmps5
  go_wp2_with fail
  generalize ((w.alloc (.cells #[.bool p1, .slice a1 na1 ca1, .slice d1 nd1 cd1] 28)).alloc (.cells #[.bool p2, .slice a2 na2 ca2, .slice d2 nd2 cd2] 28)).alloc (.cells #[.bool p3, .slice a3 na3 ca3, .slice d3 nd3 cd3] 28) = W0 at *
  refine (shownQ _ hT E).mono ?_
  rintro e w1 ⟨rfl, hx⟩
  replace hA := hA.below hx
  replace hB := hB.below hx
  replace hC := hC.below hx
  replace hT := hT.below hx
  replace E := E.below hx
  replace EA := EA.below hx
  replace VA := VA.below hx
  replace VB := VB.below hx
  replace VC := VC.below hx
  replace hb0 := bel_tr hb0 hx
  clear hx
  obtain ⟨vac0, vac1, vac2, vac3, vac4, vac5⟩ := id VA
  obtain ⟨vbc0, vbc1, vbc2, vbc3, vbc4, vbc5⟩ := id VB
  clear E
  go_wp2_with fail
  refine (simplestQ _ hA hB (by omega) hS1 hxy hT).mono ?_
  rintro e w2 ⟨fs, cs', ns, ks, ds, ms, ls, zs, rfl, Gs, hBst, hx⟩
  clear vac0 vac1 vac2 vac3 vac4 vac5 vbc0 vbc1 vbc2 vbc3 vbc4 vbc5
  replace hA := hA.below hx
  replace hB := hB.below hx
  replace hC := hC.below hx
  replace hT := hT.below hx
  replace EA := EA.below hx
  replace VA := VA.below hx
  replace VB := VB.below hx
  replace VC := VC.below hx
  replace hb0 := bel_tr hb0 hx
  clear hx
  have HB : Hid (Best x y zs) := hBst
  clear hBst
  clear EA
  have hx := bel_d0 w2 (.cells #[.bool fs, .slice cs' ns ks, .slice ds ms ls] 28)
  replace hA := hA.below hx
  replace hB := hB.below hx
  replace hC := hC.below hx
  replace hT := hT.below hx
  replace Gs := Gs.below hx
  replace VA := VA.below hx
  replace VB := VB.below hx
  replace VC := VC.below hx
  replace hb0 := bel_tr hb0 hx
  have Vs := var3_new w2 (.bool fs) (.slice cs' ns ks) (.slice ds ms ls) 28
  clear hx
  obtain ⟨vac0, vac1, vac2, vac3, vac4, vac5⟩ := id VA
  obtain ⟨vbc0, vbc1, vbc2, vbc3, vbc4, vbc5⟩ := id VB
  go_wp2_with fail
  generalize w2.alloc (.cells #[.bool fs, .slice cs' ns ks, .slice ds ms ls] 28) = w3 at *
  obtain ⟨t, qt⟩ : ∃ t, t = cs x y := ⟨_, rfl⟩
  have ht : ¬ 0 < t := by rw [qt, cs_gt]; exact Rat.not_lt.2 hxy
  have Qt : Hid (t = cs x y) := qt
  clear qt
  refine (cmpB t _ hA hB (by omega) (by omega) (by omega) Qt.out).mono ?_
  rintro e w4 ⟨rfl, hx⟩
  clear vac0 vac1 vac2 vac3 vac4 vac5 vbc0 vbc1 vbc2 vbc3 vbc4 vbc5
  replace hA := hA.below hx
  replace hB := hB.below hx
  replace hC := hC.below hx
  replace hT := hT.below hx
  replace Gs := Gs.below hx
  replace VA := VA.below hx
  replace VB := VB.below hx
  replace VC := VC.below hx
  replace Vs := Vs.below hx
  replace hb0 := bel_tr hb0 hx
  clear hx
  obtain ⟨vac0, vac1, vac2, vac3, vac4, vac5⟩ := id VA
  obtain ⟨vsc0, vsc1, vsc2, vsc3, vsc4, vsc5⟩ := id Vs
  go_wp2_with fail
  obtain ⟨u, qu⟩ : ∃ t, t = cs x zs := ⟨_, rfl⟩
  have hu : ¬ 0 < u := by rw [qu, cs_gt]; exact Rat.not_lt.2 HB.out.1
  have Qu : Hid (u = cs x zs) := qu
  clear qu
  refine (cmpB u _ hA Gs.tr (by omega) (by omega) (by omega) Qu.out).mono ?_
  rintro e w5 ⟨rfl, hx⟩
  clear vac0 vac1 vac2 vac3 vac4 vac5 vsc0 vsc1 vsc2 vsc3 vsc4 vsc5
  replace hA := hA.below hx
  replace hB := hB.below hx
  replace hC := hC.below hx
  replace hT := hT.below hx
  replace Gs := Gs.below hx
  replace VA := VA.below hx
  replace VB := VB.below hx
  replace VC := VC.below hx
  replace Vs := Vs.below hx
  replace hb0 := bel_tr hb0 hx
  clear hx
  obtain ⟨vsc0, vsc1, vsc2, vsc3, vsc4, vsc5⟩ := id Vs
  obtain ⟨vbc0, vbc1, vbc2, vbc3, vbc4, vbc5⟩ := id VB
  go_wp2_with fail
  obtain ⟨v, qv⟩ : ∃ t, t = cs zs y := ⟨_, rfl⟩
  have hv : ¬ 0 < v := by rw [qv, cs_gt]; exact Rat.not_lt.2 HB.out.2.1
  have Qv : Hid (v = cs zs y) := qv
  clear qv
  refine (cmpB v _ Gs.tr hB (by omega) (by omega) (by omega) Qv.out).mono ?_
  rintro e w6 ⟨rfl, hx⟩
  clear vsc0 vsc1 vsc2 vsc3 vsc4 vsc5 vbc0 vbc1 vbc2 vbc3 vbc4 vbc5
  replace hA := hA.below hx
  replace hB := hB.below hx
  replace hC := hC.below hx
  replace hT := hT.below hx
  replace Gs := Gs.below hx
  replace VA := VA.below hx
  replace VB := VB.below hx
  replace VC := VC.below hx
  replace Vs := Vs.below hx
  replace hb0 := bel_tr hb0 hx
  clear hx
  obtain ⟨vac0, vac1, vac2, vac3, vac4, vac5⟩ := id VA
  obtain ⟨vcc0, vcc1, vcc2, vcc3, vcc4, vcc5⟩ := id VC
  go_wp2_with fail
  obtain ⟨f, qf⟩ : ∃ t, t = cs x z := ⟨_, rfl⟩
  have hf : True := trivial
  have Qf : Hid (f = cs x z) := qf
  clear qf
  refine (cmpB f _ hA hC (by omega) (by omega) (by omega) Qf.out).mono ?_
  rintro e w7 ⟨rfl, hx⟩
  clear vac0 vac1 vac2 vac3 vac4 vac5 vcc0 vcc1 vcc2 vcc3 vcc4 vcc5
  replace hA := hA.below hx
  replace hB := hB.below hx
  replace hC := hC.below hx
  replace hT := hT.below hx
  replace Gs := Gs.below hx
  replace VA := VA.below hx
  replace VB := VB.below hx
  replace VC := VC.below hx
  replace Vs := Vs.below hx
  replace hb0 := bel_tr hb0 hx
  clear hx
  obtain ⟨vcc0, vcc1, vcc2, vcc3, vcc4, vcc5⟩ := id VC
  obtain ⟨vbc0, vbc1, vbc2, vbc3, vbc4, vbc5⟩ := id VB
  go_wp2_with fail
  obtain ⟨o, qo⟩ : ∃ t, t = cs z y := ⟨_, rfl⟩
  have ho : True := trivial
  have Qo : Hid (o = cs z y) := qo
  clear qo
  refine (cmpB o _ hC hB (by omega) (by omega) (by omega) Qo.out).mono ?_
  rintro e w8 ⟨rfl, hx⟩
  clear vcc0 vcc1 vcc2 vcc3 vcc4 vcc5 vbc0 vbc1 vbc2 vbc3 vbc4 vbc5
  replace hA := hA.below hx
  replace hB := hB.below hx
  replace hC := hC.below hx
  replace hT := hT.below hx
  replace Gs := Gs.below hx
  replace VA := VA.below hx
  replace VB := VB.below hx
  replace VC := VC.below hx
  replace Vs := Vs.below hx
  replace hb0 := bel_tr hb0 hx
  clear hx
  obtain ⟨vcc0, vcc1, vcc2, vcc3, vcc4, vcc5⟩ := id VC
  clear hf ho
  by_cases hf : 0 < f
  · go_wp2
    go_ret
    exact ⟨rfl, hb0⟩
  by_cases ho : 0 < o
  · go_wp2
    go_ret
    exact ⟨rfl, hb0⟩
  have HZ : Hid (zs.den ≤ z.den ∧ zs.num.natAbs ≤ z.num.natAbs) := HB.out.2.2 z (by rw [Qf.out, cs_gt] at hf; exact Rat.not_lt.1 hf) (by rw [Qo.out, cs_gt] at ho; exact Rat.not_lt.1 ho)
  go_wp2_with fail
  refine (normR _ hC (by omega) hS1 hT).mono ?_
  rintro e w9 ⟨fx, cx, nx, kx, dx, mx, lx, rfl, Gx, hx⟩
  clear vcc0 vcc1 vcc2 vcc3 vcc4 vcc5
  replace hA := hA.below hx
  replace hB := hB.below hx
  replace hC := hC.below hx
  replace hT := hT.below hx
  replace Gs := Gs.below hx
  replace VA := VA.below hx
  replace VB := VB.below hx
  replace VC := VC.below hx
  replace Vs := Vs.below hx
  replace hb0 := bel_tr hb0 hx
  clear hx
  have hx := bel_d0 w9 (.cells #[.bool fx, .slice cx nx kx, .slice dx mx lx] 28)
  replace hA := hA.below hx
  replace hB := hB.below hx
  replace hC := hC.below hx
  replace hT := hT.below hx
  replace Gs := Gs.below hx
  replace Gx := Gx.below hx
  replace VA := VA.below hx
  replace VB := VB.below hx
  replace VC := VC.below hx
  replace Vs := Vs.below hx
  replace hb0 := bel_tr hb0 hx
  have Vx := var3_new w9 (.bool fx) (.slice cx nx kx) (.slice dx mx lx) 28
  clear hx
  obtain ⟨vsc0, vsc1, vsc2, vsc3, vsc4, vsc5⟩ := id Vs
  obtain ⟨vxc0, vxc1, vxc2, vxc3, vxc4, vxc5⟩ := id Vx
  go_wp2_with fail
  generalize w9.alloc (.cells #[.bool fx, .slice cx nx kx, .slice dx mx lx] 28) = w10 at *
  refine (cmpBel _ Gs.2.num Gx.2.num (by omega) (by omega)).mono ?_
  rintro e w11 ⟨dn, rfl, hdn, hx⟩
  clear vsc0 vsc1 vsc2 vsc3 vsc4 vsc5 vxc0 vxc1 vxc2 vxc3 vxc4 vxc5
  replace hA := hA.below hx
  replace hB := hB.below hx
  replace hC := hC.below hx
  replace hT := hT.below hx
  replace Gs := Gs.below hx
  replace Gx := Gx.below hx
  replace VA := VA.below hx
  replace VB := VB.below hx
  replace VC := VC.below hx
  replace Vs := Vs.below hx
  replace Vx := Vx.below hx
  replace hb0 := bel_tr hb0 hx
  clear hx
  obtain ⟨vsc0, vsc1, vsc2, vsc3, vsc4, vsc5⟩ := id Vs
  go_wp2_with fail
  refine (absQ _ Gs.tr (by omega) hS1 hT).mono ?_
  rintro e w12 ⟨fa, ca, na, ka, da, ma, la, rfl, Ga, hx⟩
  clear vsc0 vsc1 vsc2 vsc3 vsc4 vsc5
  replace hA := hA.below hx
  replace hB := hB.below hx
  replace hC := hC.below hx
  replace hT := hT.below hx
  replace Gs := Gs.below hx
  replace Gx := Gx.below hx
  replace VA := VA.below hx
  replace VB := VB.below hx
  replace VC := VC.below hx
  replace Vs := Vs.below hx
  replace Vx := Vx.below hx
  replace hb0 := bel_tr hb0 hx
  clear hx
  have hx := bel_d0 w12 (.cells #[.bool fa, .slice ca na ka, .slice da ma la] 28)
  replace hA := hA.below hx
  replace hB := hB.below hx
  replace hC := hC.below hx
  replace hT := hT.below hx
  replace Gs := Gs.below hx
  replace Gx := Gx.below hx
  replace Ga := Ga.below hx
  replace VA := VA.below hx
  replace VB := VB.below hx
  replace VC := VC.below hx
  replace Vs := Vs.below hx
  replace Vx := Vx.below hx
  replace hb0 := bel_tr hb0 hx
  have Va := var3_new w12 (.bool fa) (.slice ca na ka) (.slice da ma la) 28
  clear hx
  obtain ⟨vxc0, vxc1, vxc2, vxc3, vxc4, vxc5⟩ := id Vx
  go_wp2_with fail
  generalize w12.alloc (.cells #[.bool fa, .slice ca na ka, .slice da ma la] 28) = w13 at *
  refine (absQ _ Gx.tr (by omega) hS1 hT).mono ?_
  rintro e w14 ⟨fb, cb, nb, kb, db, mb, lb, rfl, Gb, hx⟩
  clear vxc0 vxc1 vxc2 vxc3 vxc4 vxc5
  replace hA := hA.below hx
  replace hB := hB.below hx
  replace hC := hC.below hx
  replace hT := hT.below hx
  replace Gs := Gs.below hx
  replace Gx := Gx.below hx
  replace Ga := Ga.below hx
  replace VA := VA.below hx
  replace VB := VB.below hx
  replace VC := VC.below hx
  replace Vs := Vs.below hx
  replace Vx := Vx.below hx
  replace Va := Va.below hx
  replace hb0 := bel_tr hb0 hx
  clear hx
  have hx := bel_d0 w14 (.cells #[.bool fb, .slice cb nb kb, .slice db mb lb] 28)
  replace hA := hA.below hx
  replace hB := hB.below hx
  replace hC := hC.below hx
  replace hT := hT.below hx
  replace Gs := Gs.below hx
  replace Gx := Gx.below hx
  replace Ga := Ga.below hx
  replace Gb := Gb.below hx
  replace VA := VA.below hx
  replace VB := VB.below hx
  replace VC := VC.below hx
  replace Vs := Vs.below hx
  replace Vx := Vx.below hx
  replace Va := Va.below hx
  replace hb0 := bel_tr hb0 hx
  have Vb := var3_new w14 (.bool fb) (.slice cb nb kb) (.slice db mb lb) 28
  clear hx
  obtain ⟨vac0, vac1, vac2, vac3, vac4, vac5⟩ := id Va
  obtain ⟨vbc0, vbc1, vbc2, vbc3, vbc4, vbc5⟩ := id Vb
  go_wp2_with fail
  generalize w14.alloc (.cells #[.bool fb, .slice cb nb kb, .slice db mb lb] 28) = w15 at *
  obtain ⟨nr, qnr⟩ : ∃ t, t = cs (absR zs) (absR z) := ⟨_, rfl⟩
  have Qnr : Hid (nr = cs (absR zs) (absR z)) := qnr
  clear qnr
  refine (cmpB nr _ Ga.tr Gb.tr (by omega) hS1 hS1 Qnr.out).mono ?_
  rintro e w16 ⟨rfl, hx⟩
  clear vac0 vac1 vac2 vac3 vac4 vac5 vbc0 vbc1 vbc2 vbc3 vbc4 vbc5
  replace hA := hA.below hx
  replace hB := hB.below hx
  replace hC := hC.below hx
  replace hT := hT.below hx
  replace Gs := Gs.below hx
  replace Gx := Gx.below hx
  replace Ga := Ga.below hx
  replace Gb := Gb.below hx
  replace VA := VA.below hx
  replace VB := VB.below hx
  replace VC := VC.below hx
  replace Vs := Vs.below hx
  replace Vx := Vx.below hx
  replace Va := Va.below hx
  replace Vb := Vb.below hx
  replace hb0 := bel_tr hb0 hx
  clear hx
  rcases hdn with ⟨rfl, h⟩ | ⟨rfl, h⟩ | ⟨rfl, h⟩
  · have hnr : nr ≤ 0 := by rw [Qnr.out, cs_le]; exact abs_le (by omega) HZ.out.2
    clear h
    go_wp2
    go_ret
    exact ⟨rfl, hb0⟩
  · clear h
    go_wp2
    go_ret
    exact ⟨rfl, hb0⟩
  · exfalso
    have := HZ.out.1
    omega
theorem simplest_walk {p1 : Bool} {a1 : Option Addr} {na1 ca1 : Nat} {d1 : Option Addr} {nd1 cd1 : Nat} {p2 : Bool} {a2 : Option Addr} {na2 ca2 : Nat} {d2 : Option Addr} {nd2 cd2 : Nat} {p3 : Bool} {a3 : Option Addr} {na3 ca3 : Nat} {d3 : Option Addr} {nd3 cd3 : Nat} {x y z : Rat} {S : Nat} (w : World) (hA : TR w p1 a1 na1 ca1 d1 nd1 cd1 x S) (hB : TR w p2 a2 na2 ca2 d2 nd2 cd2 y S) (hC : TR w p3 a3 na3 ca3 d3 nd3 cd3 z S) (hS : S ≤ 1100000) (hS1 : 1 ≤ S) (hT : TB w) {ev ea : Value} (E : Errs w 1 ev) (EA : Errs w 0 ea) :
    Calls Tryz.prog 5 #[.agg #[.bool p1, .slice a1 na1 ca1, .slice d1 nd1 cd1], .agg #[.bool p2, .slice a2 na2 ca2, .slice d2 nd2 cd2], .agg #[.bool p3, .slice a3 na3 ca3, .slice d3 nd3 cd3]] w fun e w' => e = .returned (.bool true) ∧ Below w.heap.size w w' := by
  rcases Decidable.em (x ≤ y) with h | h
  · exact simplest_walkQ w hA hB hC hS hS1 hT E EA h
  · exact simplest_walkE w hA hB hC hS hS1 hT E EA (Rat.not_le.1 h)
end Go.Proofs.YtbagfdlmedljjaaGreatDoor

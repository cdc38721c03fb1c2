import Derived.Test.YtpngkbljalnfjaaGreatDoorQAll
import Derived.Test.YtpngkbljalnfjaaGreatDoorR3M
namespace Go.Proofs.YtpngkbljalnfjaaGreatDoor
open Go.RowKit

set_option maxRecDepth 100000 in
set_option maxHeartbeats 20000000 in
theorem forms_walk {p1 p2 p3 : Bool} {a1 a2 a3 : Option Addr} {na1 ca1 na2 ca2 na3 ca3 : Nat} {d1 : Option Addr} {nd1 cd1 : Nat} {x : Rat} {xv yv v : Int} {S : Nat} (w : World) (hA : TR w p1 a1 na1 ca1 d1 nd1 cd1 x S) (hX : TI w p2 a2 na2 ca2 xv S) (hY : TI w p3 a3 na3 ca3 yv S) (hv0 : -9223372036854775808 ≤ v) (hv1 : v < 9223372036854775808) (hS : S ≤ 1100000) (hS1 : 1 ≤ S) (hT : TB w) {ev : Value} (E : Errs w 0 ev) :
    Calls Tryz.prog 6 #[.agg #[.bool p1, .slice a1 na1 ca1, .slice d1 nd1 cd1], .agg #[.bool p2, .slice a2 na2 ca2], .agg #[.bool p3, .slice a3 na3 ca3], .int .i64 v] w fun e w' => e = .returned (.bool true) ∧ Below w.heap.size w w' := by
  obtain ⟨VA, VX, VY, hb0, hsz⟩ := box_rii w (.bool p1) (.slice a1 na1 ca1) (.slice d1 nd1 cd1) (.bool p2) (.slice a2 na2 ca2) (.bool p3) (.slice a3 na3 ca3) 27 25
  replace hA := hA.below hb0
  replace hX := hX.below hb0
  replace hY := hY.below hb0
  replace hT := hT.below hb0
  replace E := E.below hb0
  go_enter Tryz.func6, Tryz.ntmps6
  go_wp2_with fail
  generalize ((w.alloc (.cells #[.bool p1, .slice a1 na1 ca1, .slice d1 nd1 cd1] 27)).alloc (.cells #[.bool p2, .slice a2 na2 ca2] 25)).alloc (.cells #[.bool p3, .slice a3 na3 ca3] 25) = W0 at *
  replace hsz := Nat.le_of_eq hsz.symm
  refine (shownQ _ hT E).mono ?_
  rintro e w1 ⟨rfl, hx⟩
  replace hA := hA.below hx
  replace hX := hX.below hx
  replace hY := hY.below hx
  replace hT := hT.below hx
  replace E := E.below hx
  replace VA := VA.below hx
  replace VX := VX.below hx
  replace VY := VY.below hx
  replace hb0 := bel_tr hb0 hx
  replace hsz := Nat.le_trans hsz (Below.size hx)
  clear hx
  obtain ⟨vac0, vac1, vac2, vac3, vac4, vac5⟩ := id VA
  go_wp2_with fail
  refine (normR _ hA (by omega) hS1 hT).mono ?_
  rintro e w2 ⟨fn, cn, nn, kn, dn, mn, ln, rfl, Gn, hx⟩
  replace Gn := Gn.mono (B' := w.heap.size + 3) hsz
  clear vac0 vac1 vac2 vac3 vac4 vac5
  replace hA := hA.below hx
  replace hX := hX.below hx
  replace hY := hY.below hx
  replace hT := hT.below hx
  replace E := E.below hx
  replace VA := VA.below hx
  replace VX := VX.below hx
  replace VY := VY.below hx
  replace hb0 := bel_tr hb0 hx
  replace hsz := Nat.le_trans hsz (Below.size hx)
  clear hx
  have hx := bel_d0 w2 (.cells #[.bool fn, .slice cn nn kn, .slice dn mn ln] 27)
  replace hA := hA.below hx
  replace hX := hX.below hx
  replace hY := hY.below hx
  replace hT := hT.below hx
  replace E := E.below hx
  replace Gn := Gn.below hx
  replace VA := VA.below hx
  replace VX := VX.below hx
  replace VY := VY.below hx
  replace hb0 := bel_tr hb0 hx
  replace hsz := Nat.le_trans hsz (Below.size hx)
  have Vn := var3_new w2 (.bool fn) (.slice cn nn kn) (.slice dn mn ln) 27
  clear hx
  obtain ⟨vac0, vac1, vac2, vac3, vac4, vac5⟩ := id VA
  go_wp2_with fail
  generalize w2.alloc (.cells #[.bool fn, .slice cn nn kn, .slice dn mn ln] 27) = w3 at *
  refine (normD _ hA (by omega) hS1).mono ?_
  rintro e w4 ⟨fo, co, no, ko, dO, mo, lo, rfl, Go, hx⟩
  replace Go := Go.mono (B' := w.heap.size + 3) hsz
  clear vac0 vac1 vac2 vac3 vac4 vac5
  replace hA := hA.below hx
  replace hX := hX.below hx
  replace hY := hY.below hx
  replace hT := hT.below hx
  replace E := E.below hx
  replace Gn := Gn.below hx
  replace VA := VA.below hx
  replace VX := VX.below hx
  replace VY := VY.below hx
  replace Vn := Vn.below hx
  replace hb0 := bel_tr hb0 hx
  replace hsz := Nat.le_trans hsz (Below.size hx)
  clear hx
  have hx := bel_d0 w4 (.cells #[.bool fo, .slice co no ko, .slice dO mo lo] 27)
  replace hA := hA.below hx
  replace hX := hX.below hx
  replace hY := hY.below hx
  replace hT := hT.below hx
  replace E := E.below hx
  replace Gn := Gn.below hx
  replace Go := Go.below hx
  replace VA := VA.below hx
  replace VX := VX.below hx
  replace VY := VY.below hx
  replace Vn := Vn.below hx
  replace hb0 := bel_tr hb0 hx
  replace hsz := Nat.le_trans hsz (Below.size hx)
  have Vo := var3_new w4 (.bool fo) (.slice co no ko) (.slice dO mo lo) 27
  clear hx
  obtain ⟨vnc0, vnc1, vnc2, vnc3, vnc4, vnc5⟩ := id Vn
  obtain ⟨voc0, voc1, voc2, voc3, voc4, voc5⟩ := id Vo
  go_wp2_with fail
  generalize w4.alloc (.cells #[.bool fo, .slice co no ko, .slice dO mo lo] 27) = w5 at *
  refine (refSameQ _ Gn Go rfl (by omega)).mono ?_
  rintro e w6 ⟨rfl, hx⟩
  clear vnc0 vnc1 vnc2 vnc3 vnc4 vnc5 voc0 voc1 voc2 voc3 voc4 voc5
  replace hA := hA.below hx
  replace hX := hX.below hx
  replace hY := hY.below hx
  replace hT := hT.below hx
  replace E := E.below hx
  replace Gn := Gn.below hx
  replace Go := Go.below hx
  replace VA := VA.below hx
  replace VX := VX.below hx
  replace VY := VY.below hx
  replace Vn := Vn.below hx
  replace Vo := Vo.below hx
  replace hb0 := bel_tr hb0 hx
  replace hsz := Nat.le_trans hsz (Below.size hx)
  clear hx
  obtain ⟨vxc0, vxc1, vxc2, vxc3⟩ := id VX
  obtain ⟨vyc0, vyc1, vyc2, vyc3⟩ := id VY
  clear Vn
  clear Vo
  clear Gn
  clear Go
  clear VA
  clear hA
  go_wp2_with fail
  by_cases hz : yv = 0
  · refine (makeE _ hX hY hz (by omega) E).mono ?_
    rintro e w7 ⟨rfl, hx⟩
    clear vxc0 vxc1 vxc2 vxc3 vyc0 vyc1 vyc2 vyc3
    replace hX := hX.below hx
    replace hY := hY.below hx
    replace hT := hT.below hx
    replace E := E.below hx
    replace VX := VX.below hx
    replace VY := VY.below hx
    replace hb0 := bel_tr hb0 hx
    replace hsz := Nat.le_trans hsz (Below.size hx)
    clear hx
    have hx := bel_d0 w7 (.cells #[.bool false, .slice none 0 0, .slice none 0 0] 27)
    replace hX := hX.below hx
    replace hY := hY.below hx
    replace hT := hT.below hx
    replace E := E.below hx
    replace VX := VX.below hx
    replace VY := VY.below hx
    replace hb0 := bel_tr hb0 hx
    replace hsz := Nat.le_trans hsz (Below.size hx)
    have Vm := var3_new w7 (.bool false) (.slice none 0 0) (.slice none 0 0) 27
    clear hx
    obtain ⟨vxc0, vxc1, vxc2, vxc3⟩ := id VX
    obtain ⟨vyc0, vyc1, vyc2, vyc3⟩ := id VY
    go_wp2_with fail
    generalize w7.alloc (.cells #[.bool false, .slice none 0 0, .slice none 0 0] 27) = w8 at *
    refine (makeDE _ hX hY hz (by omega)).mono ?_
    rintro e w9 ⟨rfl, hx⟩
    clear vxc0 vxc1 vxc2 vxc3 vyc0 vyc1 vyc2 vyc3
    replace hX := hX.below hx
    replace hY := hY.below hx
    replace hT := hT.below hx
    replace E := E.below hx
    replace VX := VX.below hx
    replace VY := VY.below hx
    replace Vm := Vm.below hx
    replace hb0 := bel_tr hb0 hx
    replace hsz := Nat.le_trans hsz (Below.size hx)
    clear hx
    have hx := bel_d0 w9 (.cells #[.bool false, .slice none 0 0, .slice none 0 0] 27)
    replace hX := hX.below hx
    replace hY := hY.below hx
    replace hT := hT.below hx
    replace E := E.below hx
    replace VX := VX.below hx
    replace VY := VY.below hx
    replace Vm := Vm.below hx
    replace hb0 := bel_tr hb0 hx
    replace hsz := Nat.le_trans hsz (Below.size hx)
    have Vd := var3_new w9 (.bool false) (.slice none 0 0) (.slice none 0 0) 27
    clear hx
    obtain ⟨vmc0, vmc1, vmc2, vmc3, vmc4, vmc5⟩ := id Vm
    obtain ⟨vdc0, vdc1, vdc2, vdc3, vdc4, vdc5⟩ := id Vd
    go_wp2_with fail
    generalize w9.alloc (.cells #[.bool false, .slice none 0 0, .slice none 0 0] 27) = w10 at *
    refine (toldE (S := 1) _ (tr_nil _ _) (by omega) (by omega) E).mono ?_
    rintro e w11 ⟨rfl, hx⟩
    clear vmc0 vmc1 vmc2 vmc3 vmc4 vmc5 vdc0 vdc1 vdc2 vdc3 vdc4 vdc5
    replace hX := hX.below hx
    replace hY := hY.below hx
    replace hT := hT.below hx
    replace E := E.below hx
    replace VX := VX.below hx
    replace VY := VY.below hx
    replace Vm := Vm.below hx
    replace Vd := Vd.below hx
    replace hb0 := bel_tr hb0 hx
    replace hsz := Nat.le_trans hsz (Below.size hx)
    clear hx
    go_wp2_with fail
    refine (ofQ v _ hv0 hv1).mono ?_
    rintro e w12 ⟨fr, cr, nr, kr, dr, mr, lr, rfl, Gr, hx⟩
    replace Gr := Gr.mono (B' := w.heap.size + 3) hsz
    replace hX := hX.below hx
    replace hY := hY.below hx
    replace hT := hT.below hx
    replace E := E.below hx
    replace VX := VX.below hx
    replace VY := VY.below hx
    replace Vm := Vm.below hx
    replace Vd := Vd.below hx
    replace hb0 := bel_tr hb0 hx
    replace hsz := Nat.le_trans hsz (Below.size hx)
    clear hx
    have hx := bel_d0 w12 (.cells #[.bool fr, .slice cr nr kr, .slice dr mr lr] 27)
    replace hX := hX.below hx
    replace hY := hY.below hx
    replace hT := hT.below hx
    replace E := E.below hx
    replace Gr := Gr.below hx
    replace VX := VX.below hx
    replace VY := VY.below hx
    replace Vm := Vm.below hx
    replace Vd := Vd.below hx
    replace hb0 := bel_tr hb0 hx
    replace hsz := Nat.le_trans hsz (Below.size hx)
    have Vr := var3_new w12 (.bool fr) (.slice cr nr kr) (.slice dr mr lr) 27
    clear hx
    go_wp2_with fail
    generalize w12.alloc (.cells #[.bool fr, .slice cr nr kr, .slice dr mr lr] 27) = w13 at *
    refine (ofD v _ hv0 hv1).mono ?_
    rintro e w14 ⟨fs, cs, ns, ks, ds, ms, ls, rfl, Gs, hx⟩
    replace Gs := Gs.mono (B' := w.heap.size + 3) hsz
    replace hX := hX.below hx
    replace hY := hY.below hx
    replace hT := hT.below hx
    replace E := E.below hx
    replace Gr := Gr.below hx
    replace VX := VX.below hx
    replace VY := VY.below hx
    replace Vm := Vm.below hx
    replace Vd := Vd.below hx
    replace Vr := Vr.below hx
    replace hb0 := bel_tr hb0 hx
    replace hsz := Nat.le_trans hsz (Below.size hx)
    clear hx
    have hx := bel_d0 w14 (.cells #[.bool fs, .slice cs ns ks, .slice ds ms ls] 27)
    replace hX := hX.below hx
    replace hY := hY.below hx
    replace hT := hT.below hx
    replace E := E.below hx
    replace Gr := Gr.below hx
    replace Gs := Gs.below hx
    replace VX := VX.below hx
    replace VY := VY.below hx
    replace Vm := Vm.below hx
    replace Vd := Vd.below hx
    replace Vr := Vr.below hx
    replace hb0 := bel_tr hb0 hx
    replace hsz := Nat.le_trans hsz (Below.size hx)
    have Vs := var3_new w14 (.bool fs) (.slice cs ns ks) (.slice ds ms ls) 27
    clear hx
    obtain ⟨vrc0, vrc1, vrc2, vrc3, vrc4, vrc5⟩ := id Vr
    obtain ⟨vsc0, vsc1, vsc2, vsc3, vsc4, vsc5⟩ := id Vs
    go_wp2_with fail
    generalize w14.alloc (.cells #[.bool fs, .slice cs ns ks, .slice ds ms ls] 27) = w15 at *
    refine (refSameQ _ Gr Gs rfl (by omega)).mono ?_
    rintro e w16 ⟨rfl, hx⟩
    clear vrc0 vrc1 vrc2 vrc3 vrc4 vrc5 vsc0 vsc1 vsc2 vsc3 vsc4 vsc5
    replace hX := hX.below hx
    replace hY := hY.below hx
    replace hT := hT.below hx
    replace E := E.below hx
    replace Gr := Gr.below hx
    replace Gs := Gs.below hx
    replace VX := VX.below hx
    replace VY := VY.below hx
    replace Vm := Vm.below hx
    replace Vd := Vd.below hx
    replace Vr := Vr.below hx
    replace Vs := Vs.below hx
    replace hb0 := bel_tr hb0 hx
    replace hsz := Nat.le_trans hsz (Below.size hx)
    clear hx
    go_wp2
    go_ret
    exact ⟨rfl, hb0⟩
  · refine (makeQ _ hX hY hz (by omega) hT).mono ?_
    rintro e w7 ⟨fm, cm, nm, km, dm, mm, lm, rfl, Gm, hx⟩
    replace Gm := Gm.mono (B' := w.heap.size + 3) hsz
    clear vxc0 vxc1 vxc2 vxc3 vyc0 vyc1 vyc2 vyc3
    replace hX := hX.below hx
    replace hY := hY.below hx
    replace hT := hT.below hx
    replace E := E.below hx
    replace VX := VX.below hx
    replace VY := VY.below hx
    replace hb0 := bel_tr hb0 hx
    replace hsz := Nat.le_trans hsz (Below.size hx)
    clear hx
    have hx := bel_d0 w7 (.cells #[.bool fm, .slice cm nm km, .slice dm mm lm] 27)
    replace hX := hX.below hx
    replace hY := hY.below hx
    replace hT := hT.below hx
    replace E := E.below hx
    replace Gm := Gm.below hx
    replace VX := VX.below hx
    replace VY := VY.below hx
    replace hb0 := bel_tr hb0 hx
    replace hsz := Nat.le_trans hsz (Below.size hx)
    have Vm := var3_new w7 (.bool fm) (.slice cm nm km) (.slice dm mm lm) 27
    clear hx
    obtain ⟨vxc0, vxc1, vxc2, vxc3⟩ := id VX
    obtain ⟨vyc0, vyc1, vyc2, vyc3⟩ := id VY
    go_wp2_with fail
    generalize w7.alloc (.cells #[.bool fm, .slice cm nm km, .slice dm mm lm] 27) = w8 at *
    refine (makeD _ hX hY hz (by omega) hS1).mono ?_
    rintro e w9 ⟨fe, ce, ne, ke, de, me, le, rfl, Ge, hx⟩
    replace Ge := Ge.mono (B' := w.heap.size + 3) hsz
    clear vxc0 vxc1 vxc2 vxc3 vyc0 vyc1 vyc2 vyc3
    replace hX := hX.below hx
    replace hY := hY.below hx
    replace hT := hT.below hx
    replace E := E.below hx
    replace Gm := Gm.below hx
    replace VX := VX.below hx
    replace VY := VY.below hx
    replace Vm := Vm.below hx
    replace hb0 := bel_tr hb0 hx
    replace hsz := Nat.le_trans hsz (Below.size hx)
    clear hx
    have hx := bel_d0 w9 (.cells #[.bool fe, .slice ce ne ke, .slice de me le] 27)
    replace hX := hX.below hx
    replace hY := hY.below hx
    replace hT := hT.below hx
    replace E := E.below hx
    replace Gm := Gm.below hx
    replace Ge := Ge.below hx
    replace VX := VX.below hx
    replace VY := VY.below hx
    replace Vm := Vm.below hx
    replace hb0 := bel_tr hb0 hx
    replace hsz := Nat.le_trans hsz (Below.size hx)
    have Ve := var3_new w9 (.bool fe) (.slice ce ne ke) (.slice de me le) 27
    clear hx
    obtain ⟨vmc0, vmc1, vmc2, vmc3, vmc4, vmc5⟩ := id Vm
    obtain ⟨vec0, vec1, vec2, vec3, vec4, vec5⟩ := id Ve
    go_wp2_with fail
    generalize w9.alloc (.cells #[.bool fe, .slice ce ne ke, .slice de me le] 27) = w10 at *
    refine (toldQ _ Gm Ge rfl (by omega)).mono ?_
    rintro e w11 ⟨rfl, hx⟩
    clear vmc0 vmc1 vmc2 vmc3 vmc4 vmc5 vec0 vec1 vec2 vec3 vec4 vec5
    replace hX := hX.below hx
    replace hY := hY.below hx
    replace hT := hT.below hx
    replace E := E.below hx
    replace Gm := Gm.below hx
    replace Ge := Ge.below hx
    replace VX := VX.below hx
    replace VY := VY.below hx
    replace Vm := Vm.below hx
    replace Ve := Ve.below hx
    replace hb0 := bel_tr hb0 hx
    replace hsz := Nat.le_trans hsz (Below.size hx)
    clear hx
    clear Vm
    clear Ve
    clear Gm
    clear Ge
    go_wp2_with fail
    refine (ofQ v _ hv0 hv1).mono ?_
    rintro e w12 ⟨fr, cr, nr, kr, dr, mr, lr, rfl, Gr, hx⟩
    replace Gr := Gr.mono (B' := w.heap.size + 3) hsz
    replace hX := hX.below hx
    replace hY := hY.below hx
    replace hT := hT.below hx
    replace E := E.below hx
    replace VX := VX.below hx
    replace VY := VY.below hx
    replace hb0 := bel_tr hb0 hx
    replace hsz := Nat.le_trans hsz (Below.size hx)
    clear hx
    have hx := bel_d0 w12 (.cells #[.bool fr, .slice cr nr kr, .slice dr mr lr] 27)
    replace hX := hX.below hx
    replace hY := hY.below hx
    replace hT := hT.below hx
    replace E := E.below hx
    replace Gr := Gr.below hx
    replace VX := VX.below hx
    replace VY := VY.below hx
    replace hb0 := bel_tr hb0 hx
    replace hsz := Nat.le_trans hsz (Below.size hx)
    have Vr := var3_new w12 (.bool fr) (.slice cr nr kr) (.slice dr mr lr) 27
    clear hx
    go_wp2_with fail
    generalize w12.alloc (.cells #[.bool fr, .slice cr nr kr, .slice dr mr lr] 27) = w13 at *
    refine (ofD v _ hv0 hv1).mono ?_
    rintro e w14 ⟨fs, cs, ns, ks, ds, ms, ls, rfl, Gs, hx⟩
    replace Gs := Gs.mono (B' := w.heap.size + 3) hsz
    replace hX := hX.below hx
    replace hY := hY.below hx
    replace hT := hT.below hx
    replace E := E.below hx
    replace Gr := Gr.below hx
    replace VX := VX.below hx
    replace VY := VY.below hx
    replace Vr := Vr.below hx
    replace hb0 := bel_tr hb0 hx
    replace hsz := Nat.le_trans hsz (Below.size hx)
    clear hx
    have hx := bel_d0 w14 (.cells #[.bool fs, .slice cs ns ks, .slice ds ms ls] 27)
    replace hX := hX.below hx
    replace hY := hY.below hx
    replace hT := hT.below hx
    replace E := E.below hx
    replace Gr := Gr.below hx
    replace Gs := Gs.below hx
    replace VX := VX.below hx
    replace VY := VY.below hx
    replace Vr := Vr.below hx
    replace hb0 := bel_tr hb0 hx
    replace hsz := Nat.le_trans hsz (Below.size hx)
    have Vs := var3_new w14 (.bool fs) (.slice cs ns ks) (.slice ds ms ls) 27
    clear hx
    obtain ⟨vrc0, vrc1, vrc2, vrc3, vrc4, vrc5⟩ := id Vr
    obtain ⟨vsc0, vsc1, vsc2, vsc3, vsc4, vsc5⟩ := id Vs
    go_wp2_with fail
    generalize w14.alloc (.cells #[.bool fs, .slice cs ns ks, .slice ds ms ls] 27) = w15 at *
    refine (refSameQ _ Gr Gs rfl (by omega)).mono ?_
    rintro e w16 ⟨rfl, hx⟩
    clear vrc0 vrc1 vrc2 vrc3 vrc4 vrc5 vsc0 vsc1 vsc2 vsc3 vsc4 vsc5
    replace hX := hX.below hx
    replace hY := hY.below hx
    replace hT := hT.below hx
    replace E := E.below hx
    replace Gr := Gr.below hx
    replace Gs := Gs.below hx
    replace VX := VX.below hx
    replace VY := VY.below hx
    replace Vr := Vr.below hx
    replace Vs := Vs.below hx
    replace hb0 := bel_tr hb0 hx
    replace hsz := Nat.le_trans hsz (Below.size hx)
    clear hx
    go_wp2
    go_ret
    exact ⟨rfl, hb0⟩
end Go.Proofs.YtpngkbljalnfjaaGreatDoor

import Derived.Test.YtpngkbljalnfjaaGreatDoorQAll
import Derived.Test.YtpngkbljalnfjaaGreatDoorR3Ab
import Derived.Test.YtpngkbljalnfjaaGreatDoorR3M
namespace Go.Proofs.YtpngkbljalnfjaaGreatDoor
open Go.RowKit

set_option maxRecDepth 100000 in
set_option maxHeartbeats 20000000 in
theorem adds_walk {p1 : Bool} {a1 : Option Addr} {na1 ca1 : Nat} {d1 : Option Addr} {nd1 cd1 : Nat} {p2 : Bool} {a2 : Option Addr} {na2 ca2 : Nat} {d2 : Option Addr} {nd2 cd2 : Nat} {x y : Rat} {S : Nat} (w : World) (hA : TR w p1 a1 na1 ca1 d1 nd1 cd1 x S) (hB : TR w p2 a2 na2 ca2 d2 nd2 cd2 y S) (hS : S ≤ 1100000) (hS1 : 1 ≤ S) (hT : TB w) {ev : Value} (E : Errs w 0 ev) :
    Calls Tryz.prog 5 #[.agg #[.bool p1, .slice a1 na1 ca1, .slice d1 nd1 cd1], .agg #[.bool p2, .slice a2 na2 ca2, .slice d2 nd2 cd2]] w fun e w' => e = .returned (.bool true) ∧ Below w.heap.size w w' := by
  obtain ⟨VA, VB, hb0, hsz⟩ := box_rr w (.bool p1) (.slice a1 na1 ca1) (.slice d1 nd1 cd1) (.bool p2) (.slice a2 na2 ca2) (.slice d2 nd2 cd2) 27
  replace hA := hA.below hb0
  replace hB := hB.below hb0
  replace hT := hT.below hb0
  replace E := E.below hb0
  go_enter Tryz.func5, Tryz.ntmps5
  go_wp2_with fail
  generalize (w.alloc (.cells #[.bool p1, .slice a1 na1 ca1, .slice d1 nd1 cd1] 27)).alloc (.cells #[.bool p2, .slice a2 na2 ca2, .slice d2 nd2 cd2] 27) = W0 at *
  replace hsz := Nat.le_of_eq hsz.symm
  refine (shownQ _ hT E).mono ?_
  rintro e w1 ⟨rfl, hx⟩
  replace hA := hA.below hx
  replace hB := hB.below hx
  replace hT := hT.below hx
  replace E := E.below hx
  replace VA := VA.below hx
  replace VB := VB.below hx
  replace hb0 := bel_tr hb0 hx
  replace hsz := Nat.le_trans hsz (Below.size hx)
  clear hx
  obtain ⟨vac0, vac1, vac2, vac3, vac4, vac5⟩ := id VA
  clear E
  go_wp2_with fail
  refine (negQ _ hA (by omega) hS1 hT).mono ?_
  rintro e w2 ⟨fn, cn, nn, kn, dn, mn, ln, rfl, Gn, hx⟩
  replace Gn := Gn.mono (B' := w.heap.size + 2) hsz
  clear vac0 vac1 vac2 vac3 vac4 vac5
  replace hA := hA.below hx
  replace hB := hB.below hx
  replace hT := hT.below hx
  replace VA := VA.below hx
  replace VB := VB.below hx
  replace hb0 := bel_tr hb0 hx
  replace hsz := Nat.le_trans hsz (Below.size hx)
  clear hx
  have hx := bel_d0 w2 (.cells #[.bool fn, .slice cn nn kn, .slice dn mn ln] 27)
  replace hA := hA.below hx
  replace hB := hB.below hx
  replace hT := hT.below hx
  replace Gn := Gn.below hx
  replace VA := VA.below hx
  replace VB := VB.below hx
  replace hb0 := bel_tr hb0 hx
  replace hsz := Nat.le_trans hsz (Below.size hx)
  have Vn := var3_new w2 (.bool fn) (.slice cn nn kn) (.slice dn mn ln) 27
  clear hx
  obtain ⟨vac0, vac1, vac2, vac3, vac4, vac5⟩ := id VA
  go_wp2_with fail
  generalize w2.alloc (.cells #[.bool fn, .slice cn nn kn, .slice dn mn ln] 27) = w3 at *
  refine (negD _ hA (by omega) hS1).mono ?_
  rintro e w4 ⟨fi, ci, ni, ki, di, mi, li, rfl, Gi, hx⟩
  replace Gi := Gi.mono (B' := w.heap.size + 2) hsz
  clear vac0 vac1 vac2 vac3 vac4 vac5
  replace hA := hA.below hx
  replace hB := hB.below hx
  replace hT := hT.below hx
  replace Gn := Gn.below hx
  replace VA := VA.below hx
  replace VB := VB.below hx
  replace Vn := Vn.below hx
  replace hb0 := bel_tr hb0 hx
  replace hsz := Nat.le_trans hsz (Below.size hx)
  clear hx
  have hx := bel_d0 w4 (.cells #[.bool fi, .slice ci ni ki, .slice di mi li] 27)
  replace hA := hA.below hx
  replace hB := hB.below hx
  replace hT := hT.below hx
  replace Gn := Gn.below hx
  replace Gi := Gi.below hx
  replace VA := VA.below hx
  replace VB := VB.below hx
  replace Vn := Vn.below hx
  replace hb0 := bel_tr hb0 hx
  replace hsz := Nat.le_trans hsz (Below.size hx)
  have Vi := var3_new w4 (.bool fi) (.slice ci ni ki) (.slice di mi li) 27
  clear hx
  obtain ⟨vac0, vac1, vac2, vac3, vac4, vac5⟩ := id VA
  go_wp2_with fail
  generalize w4.alloc (.cells #[.bool fi, .slice ci ni ki, .slice di mi li] 27) = w5 at *
  refine (absQ _ hA (by omega) hS1 hT).mono ?_
  rintro e w6 ⟨fm, cm, nm, km, dm, mm, lm, rfl, Gm, hx⟩
  replace Gm := Gm.mono (B' := w.heap.size + 2) hsz
  clear vac0 vac1 vac2 vac3 vac4 vac5
  replace hA := hA.below hx
  replace hB := hB.below hx
  replace hT := hT.below hx
  replace Gn := Gn.below hx
  replace Gi := Gi.below hx
  replace VA := VA.below hx
  replace VB := VB.below hx
  replace Vn := Vn.below hx
  replace Vi := Vi.below hx
  replace hb0 := bel_tr hb0 hx
  replace hsz := Nat.le_trans hsz (Below.size hx)
  clear hx
  have hx := bel_d0 w6 (.cells #[.bool fm, .slice cm nm km, .slice dm mm lm] 27)
  replace hA := hA.below hx
  replace hB := hB.below hx
  replace hT := hT.below hx
  replace Gn := Gn.below hx
  replace Gi := Gi.below hx
  replace Gm := Gm.below hx
  replace VA := VA.below hx
  replace VB := VB.below hx
  replace Vn := Vn.below hx
  replace Vi := Vi.below hx
  replace hb0 := bel_tr hb0 hx
  replace hsz := Nat.le_trans hsz (Below.size hx)
  have Vm := var3_new w6 (.bool fm) (.slice cm nm km) (.slice dm mm lm) 27
  clear hx
  obtain ⟨vac0, vac1, vac2, vac3, vac4, vac5⟩ := id VA
  go_wp2_with fail
  generalize w6.alloc (.cells #[.bool fm, .slice cm nm km, .slice dm mm lm] 27) = w7 at *
  refine (absD _ hA (by omega) hS1).mono ?_
  rintro e w8 ⟨fj, cj, nj, kj, dj, mj, lj, rfl, Gj, hx⟩
  replace Gj := Gj.mono (B' := w.heap.size + 2) hsz
  clear vac0 vac1 vac2 vac3 vac4 vac5
  replace hA := hA.below hx
  replace hB := hB.below hx
  replace hT := hT.below hx
  replace Gn := Gn.below hx
  replace Gi := Gi.below hx
  replace Gm := Gm.below hx
  replace VA := VA.below hx
  replace VB := VB.below hx
  replace Vn := Vn.below hx
  replace Vi := Vi.below hx
  replace Vm := Vm.below hx
  replace hb0 := bel_tr hb0 hx
  replace hsz := Nat.le_trans hsz (Below.size hx)
  clear hx
  have hx := bel_d0 w8 (.cells #[.bool fj, .slice cj nj kj, .slice dj mj lj] 27)
  replace hA := hA.below hx
  replace hB := hB.below hx
  replace hT := hT.below hx
  replace Gn := Gn.below hx
  replace Gi := Gi.below hx
  replace Gm := Gm.below hx
  replace Gj := Gj.below hx
  replace VA := VA.below hx
  replace VB := VB.below hx
  replace Vn := Vn.below hx
  replace Vi := Vi.below hx
  replace Vm := Vm.below hx
  replace hb0 := bel_tr hb0 hx
  replace hsz := Nat.le_trans hsz (Below.size hx)
  have Vj := var3_new w8 (.bool fj) (.slice cj nj kj) (.slice dj mj lj) 27
  clear hx
  obtain ⟨vac0, vac1, vac2, vac3, vac4, vac5⟩ := id VA
  obtain ⟨vbc0, vbc1, vbc2, vbc3, vbc4, vbc5⟩ := id VB
  go_wp2_with fail
  generalize w8.alloc (.cells #[.bool fj, .slice cj nj kj, .slice dj mj lj] 27) = w9 at *
  refine (addQ _ hA hB (by omega) (by omega) (by omega) hT).mono ?_
  rintro e w10 ⟨fs, cs, ns, ks, ds, ms, ls, rfl, Gs, hx⟩
  replace Gs := Gs.mono (B' := w.heap.size + 2) hsz
  clear vac0 vac1 vac2 vac3 vac4 vac5 vbc0 vbc1 vbc2 vbc3 vbc4 vbc5
  replace hA := hA.below hx
  replace hB := hB.below hx
  replace hT := hT.below hx
  replace Gn := Gn.below hx
  replace Gi := Gi.below hx
  replace Gm := Gm.below hx
  replace Gj := Gj.below hx
  replace VA := VA.below hx
  replace VB := VB.below hx
  replace Vn := Vn.below hx
  replace Vi := Vi.below hx
  replace Vm := Vm.below hx
  replace Vj := Vj.below hx
  replace hb0 := bel_tr hb0 hx
  replace hsz := Nat.le_trans hsz (Below.size hx)
  clear hx
  have hx := bel_d0 w10 (.cells #[.bool fs, .slice cs ns ks, .slice ds ms ls] 27)
  replace hA := hA.below hx
  replace hB := hB.below hx
  replace hT := hT.below hx
  replace Gn := Gn.below hx
  replace Gi := Gi.below hx
  replace Gm := Gm.below hx
  replace Gj := Gj.below hx
  replace Gs := Gs.below hx
  replace VA := VA.below hx
  replace VB := VB.below hx
  replace Vn := Vn.below hx
  replace Vi := Vi.below hx
  replace Vm := Vm.below hx
  replace Vj := Vj.below hx
  replace hb0 := bel_tr hb0 hx
  replace hsz := Nat.le_trans hsz (Below.size hx)
  have Vs := var3_new w10 (.bool fs) (.slice cs ns ks) (.slice ds ms ls) 27
  clear hx
  obtain ⟨vac0, vac1, vac2, vac3, vac4, vac5⟩ := id VA
  obtain ⟨vbc0, vbc1, vbc2, vbc3, vbc4, vbc5⟩ := id VB
  go_wp2_with fail
  generalize w10.alloc (.cells #[.bool fs, .slice cs ns ks, .slice ds ms ls] 27) = w11 at *
  refine (addD _ hA hB (by omega) (by omega) (by omega)).mono ?_
  rintro e w12 ⟨ft, ct, nt, kt, dt, mt, lt, rfl, Gt, hx⟩
  replace Gt := Gt.mono (B' := w.heap.size + 2) hsz
  clear vac0 vac1 vac2 vac3 vac4 vac5 vbc0 vbc1 vbc2 vbc3 vbc4 vbc5
  replace hA := hA.below hx
  replace hB := hB.below hx
  replace hT := hT.below hx
  replace Gn := Gn.below hx
  replace Gi := Gi.below hx
  replace Gm := Gm.below hx
  replace Gj := Gj.below hx
  replace Gs := Gs.below hx
  replace VA := VA.below hx
  replace VB := VB.below hx
  replace Vn := Vn.below hx
  replace Vi := Vi.below hx
  replace Vm := Vm.below hx
  replace Vj := Vj.below hx
  replace Vs := Vs.below hx
  replace hb0 := bel_tr hb0 hx
  replace hsz := Nat.le_trans hsz (Below.size hx)
  clear hx
  have hx := bel_d0 w12 (.cells #[.bool ft, .slice ct nt kt, .slice dt mt lt] 27)
  replace hA := hA.below hx
  replace hB := hB.below hx
  replace hT := hT.below hx
  replace Gn := Gn.below hx
  replace Gi := Gi.below hx
  replace Gm := Gm.below hx
  replace Gj := Gj.below hx
  replace Gs := Gs.below hx
  replace Gt := Gt.below hx
  replace VA := VA.below hx
  replace VB := VB.below hx
  replace Vn := Vn.below hx
  replace Vi := Vi.below hx
  replace Vm := Vm.below hx
  replace Vj := Vj.below hx
  replace Vs := Vs.below hx
  replace hb0 := bel_tr hb0 hx
  replace hsz := Nat.le_trans hsz (Below.size hx)
  have Vt := var3_new w12 (.bool ft) (.slice ct nt kt) (.slice dt mt lt) 27
  clear hx
  obtain ⟨vac0, vac1, vac2, vac3, vac4, vac5⟩ := id VA
  obtain ⟨vbc0, vbc1, vbc2, vbc3, vbc4, vbc5⟩ := id VB
  go_wp2_with fail
  generalize w12.alloc (.cells #[.bool ft, .slice ct nt kt, .slice dt mt lt] 27) = w13 at *
  refine (subQ _ hA hB (by omega) (by omega) (by omega) hT).mono ?_
  rintro e w14 ⟨fu, cu, nu, ku, du, mu, lu, rfl, Gu, hx⟩
  replace Gu := Gu.mono (B' := w.heap.size + 2) hsz
  clear vac0 vac1 vac2 vac3 vac4 vac5 vbc0 vbc1 vbc2 vbc3 vbc4 vbc5
  replace hA := hA.below hx
  replace hB := hB.below hx
  replace hT := hT.below hx
  replace Gn := Gn.below hx
  replace Gi := Gi.below hx
  replace Gm := Gm.below hx
  replace Gj := Gj.below hx
  replace Gs := Gs.below hx
  replace Gt := Gt.below hx
  replace VA := VA.below hx
  replace VB := VB.below hx
  replace Vn := Vn.below hx
  replace Vi := Vi.below hx
  replace Vm := Vm.below hx
  replace Vj := Vj.below hx
  replace Vs := Vs.below hx
  replace Vt := Vt.below hx
  replace hb0 := bel_tr hb0 hx
  replace hsz := Nat.le_trans hsz (Below.size hx)
  clear hx
  have hx := bel_d0 w14 (.cells #[.bool fu, .slice cu nu ku, .slice du mu lu] 27)
  replace hA := hA.below hx
  replace hB := hB.below hx
  replace hT := hT.below hx
  replace Gn := Gn.below hx
  replace Gi := Gi.below hx
  replace Gm := Gm.below hx
  replace Gj := Gj.below hx
  replace Gs := Gs.below hx
  replace Gt := Gt.below hx
  replace Gu := Gu.below hx
  replace VA := VA.below hx
  replace VB := VB.below hx
  replace Vn := Vn.below hx
  replace Vi := Vi.below hx
  replace Vm := Vm.below hx
  replace Vj := Vj.below hx
  replace Vs := Vs.below hx
  replace Vt := Vt.below hx
  replace hb0 := bel_tr hb0 hx
  replace hsz := Nat.le_trans hsz (Below.size hx)
  have Vu := var3_new w14 (.bool fu) (.slice cu nu ku) (.slice du mu lu) 27
  clear hx
  obtain ⟨vac0, vac1, vac2, vac3, vac4, vac5⟩ := id VA
  obtain ⟨vbc0, vbc1, vbc2, vbc3, vbc4, vbc5⟩ := id VB
  go_wp2_with fail
  generalize w14.alloc (.cells #[.bool fu, .slice cu nu ku, .slice du mu lu] 27) = w15 at *
  refine (subD _ hA hB (by omega) (by omega) (by omega)).mono ?_
  rintro e w16 ⟨fv, cv, nv, kv, dv, mv, lv, rfl, Gv, hx⟩
  replace Gv := Gv.mono (B' := w.heap.size + 2) hsz
  clear vac0 vac1 vac2 vac3 vac4 vac5 vbc0 vbc1 vbc2 vbc3 vbc4 vbc5
  replace hA := hA.below hx
  replace hB := hB.below hx
  replace hT := hT.below hx
  replace Gn := Gn.below hx
  replace Gi := Gi.below hx
  replace Gm := Gm.below hx
  replace Gj := Gj.below hx
  replace Gs := Gs.below hx
  replace Gt := Gt.below hx
  replace Gu := Gu.below hx
  replace VA := VA.below hx
  replace VB := VB.below hx
  replace Vn := Vn.below hx
  replace Vi := Vi.below hx
  replace Vm := Vm.below hx
  replace Vj := Vj.below hx
  replace Vs := Vs.below hx
  replace Vt := Vt.below hx
  replace Vu := Vu.below hx
  replace hb0 := bel_tr hb0 hx
  replace hsz := Nat.le_trans hsz (Below.size hx)
  clear hx
  have hx := bel_d0 w16 (.cells #[.bool fv, .slice cv nv kv, .slice dv mv lv] 27)
  replace hA := hA.below hx
  replace hB := hB.below hx
  replace hT := hT.below hx
  replace Gn := Gn.below hx
  replace Gi := Gi.below hx
  replace Gm := Gm.below hx
  replace Gj := Gj.below hx
  replace Gs := Gs.below hx
  replace Gt := Gt.below hx
  replace Gu := Gu.below hx
  replace Gv := Gv.below hx
  replace VA := VA.below hx
  replace VB := VB.below hx
  replace Vn := Vn.below hx
  replace Vi := Vi.below hx
  replace Vm := Vm.below hx
  replace Vj := Vj.below hx
  replace Vs := Vs.below hx
  replace Vt := Vt.below hx
  replace Vu := Vu.below hx
  replace hb0 := bel_tr hb0 hx
  replace hsz := Nat.le_trans hsz (Below.size hx)
  have Vv := var3_new w16 (.bool fv) (.slice cv nv kv) (.slice dv mv lv) 27
  clear hx
  obtain ⟨vac0, vac1, vac2, vac3, vac4, vac5⟩ := id VA
  obtain ⟨vbc0, vbc1, vbc2, vbc3, vbc4, vbc5⟩ := id VB
  go_wp2_with fail
  generalize w16.alloc (.cells #[.bool fv, .slice cv nv kv, .slice dv mv lv] 27) = w17 at *
  refine (mulQ _ hA hB (by omega) (by omega) (by omega) hT).mono ?_
  rintro e w18 ⟨fp, cp, np, kp, dp, mp, lp, rfl, Gp, hx⟩
  replace Gp := Gp.mono (B' := w.heap.size + 2) hsz
  clear vac0 vac1 vac2 vac3 vac4 vac5 vbc0 vbc1 vbc2 vbc3 vbc4 vbc5
  replace hA := hA.below hx
  replace hB := hB.below hx
  replace hT := hT.below hx
  replace Gn := Gn.below hx
  replace Gi := Gi.below hx
  replace Gm := Gm.below hx
  replace Gj := Gj.below hx
  replace Gs := Gs.below hx
  replace Gt := Gt.below hx
  replace Gu := Gu.below hx
  replace Gv := Gv.below hx
  replace VA := VA.below hx
  replace VB := VB.below hx
  replace Vn := Vn.below hx
  replace Vi := Vi.below hx
  replace Vm := Vm.below hx
  replace Vj := Vj.below hx
  replace Vs := Vs.below hx
  replace Vt := Vt.below hx
  replace Vu := Vu.below hx
  replace Vv := Vv.below hx
  replace hb0 := bel_tr hb0 hx
  replace hsz := Nat.le_trans hsz (Below.size hx)
  clear hx
  have hx := bel_d0 w18 (.cells #[.bool fp, .slice cp np kp, .slice dp mp lp] 27)
  replace hA := hA.below hx
  replace hB := hB.below hx
  replace hT := hT.below hx
  replace Gn := Gn.below hx
  replace Gi := Gi.below hx
  replace Gm := Gm.below hx
  replace Gj := Gj.below hx
  replace Gs := Gs.below hx
  replace Gt := Gt.below hx
  replace Gu := Gu.below hx
  replace Gv := Gv.below hx
  replace Gp := Gp.below hx
  replace VA := VA.below hx
  replace VB := VB.below hx
  replace Vn := Vn.below hx
  replace Vi := Vi.below hx
  replace Vm := Vm.below hx
  replace Vj := Vj.below hx
  replace Vs := Vs.below hx
  replace Vt := Vt.below hx
  replace Vu := Vu.below hx
  replace Vv := Vv.below hx
  replace hb0 := bel_tr hb0 hx
  replace hsz := Nat.le_trans hsz (Below.size hx)
  have Vp := var3_new w18 (.bool fp) (.slice cp np kp) (.slice dp mp lp) 27
  clear hx
  obtain ⟨vac0, vac1, vac2, vac3, vac4, vac5⟩ := id VA
  obtain ⟨vbc0, vbc1, vbc2, vbc3, vbc4, vbc5⟩ := id VB
  go_wp2_with fail
  generalize w18.alloc (.cells #[.bool fp, .slice cp np kp, .slice dp mp lp] 27) = w19 at *
  refine (mulD _ hA hB (by omega) (by omega) (by omega)).mono ?_
  rintro e w20 ⟨fq, cq, nq, kq, dq, mq, lq, rfl, Gq, hx⟩
  replace Gq := Gq.mono (B' := w.heap.size + 2) hsz
  clear vac0 vac1 vac2 vac3 vac4 vac5 vbc0 vbc1 vbc2 vbc3 vbc4 vbc5
  replace hA := hA.below hx
  replace hB := hB.below hx
  replace hT := hT.below hx
  replace Gn := Gn.below hx
  replace Gi := Gi.below hx
  replace Gm := Gm.below hx
  replace Gj := Gj.below hx
  replace Gs := Gs.below hx
  replace Gt := Gt.below hx
  replace Gu := Gu.below hx
  replace Gv := Gv.below hx
  replace Gp := Gp.below hx
  replace VA := VA.below hx
  replace VB := VB.below hx
  replace Vn := Vn.below hx
  replace Vi := Vi.below hx
  replace Vm := Vm.below hx
  replace Vj := Vj.below hx
  replace Vs := Vs.below hx
  replace Vt := Vt.below hx
  replace Vu := Vu.below hx
  replace Vv := Vv.below hx
  replace Vp := Vp.below hx
  replace hb0 := bel_tr hb0 hx
  replace hsz := Nat.le_trans hsz (Below.size hx)
  clear hx
  clear hA
  clear hB
  clear hT
  clear VA
  clear VB
  have hx := bel_d0 w20 (.cells #[.bool fq, .slice cq nq kq, .slice dq mq lq] 27)
  replace Gn := Gn.below hx
  replace Gi := Gi.below hx
  replace Gm := Gm.below hx
  replace Gj := Gj.below hx
  replace Gs := Gs.below hx
  replace Gt := Gt.below hx
  replace Gu := Gu.below hx
  replace Gv := Gv.below hx
  replace Gp := Gp.below hx
  replace Gq := Gq.below hx
  replace Vn := Vn.below hx
  replace Vi := Vi.below hx
  replace Vm := Vm.below hx
  replace Vj := Vj.below hx
  replace Vs := Vs.below hx
  replace Vt := Vt.below hx
  replace Vu := Vu.below hx
  replace Vv := Vv.below hx
  replace Vp := Vp.below hx
  replace hb0 := bel_tr hb0 hx
  replace hsz := Nat.le_trans hsz (Below.size hx)
  have Vq := var3_new w20 (.bool fq) (.slice cq nq kq) (.slice dq mq lq) 27
  clear hx
  generalize hWQ : w20.alloc (.cells #[.bool fq, .slice cq nq kq, .slice dq mq lq] 27) = wQ at *
  have hca : ∀ i, i < 5 → (wQ.alloc (.cells #[.bool fn, .slice cn nn kn, .slice dn mn ln, .bool fm, .slice cm nm km, .slice dm mm lm, .bool fs, .slice cs ns ks, .slice ds ms ls, .bool fu, .slice cu nu ku, .slice du mu lu, .bool fp, .slice cp np kp, .slice dp mp lp] 27)).cell? ⟨wQ.heap.size, i * 3, none⟩ = some (.bool ((fun i => [fn, fm, fs, fu, fp].getD i false) i)) ∧ (wQ.alloc (.cells #[.bool fn, .slice cn nn kn, .slice dn mn ln, .bool fm, .slice cm nm km, .slice dm mm lm, .bool fs, .slice cs ns ks, .slice ds ms ls, .bool fu, .slice cu nu ku, .slice du mu lu, .bool fp, .slice cp np kp, .slice dp mp lp] 27)).cell? ⟨wQ.heap.size, i * 3 + 1, none⟩ = some (.slice ((fun i => [cn, cm, cs, cu, cp].getD i none) i) ((fun i => [nn, nm, ns, nu, np].getD i 0) i) ((fun i => [kn, km, ks, ku, kp].getD i 0) i)) ∧ (wQ.alloc (.cells #[.bool fn, .slice cn nn kn, .slice dn mn ln, .bool fm, .slice cm nm km, .slice dm mm lm, .bool fs, .slice cs ns ks, .slice ds ms ls, .bool fu, .slice cu nu ku, .slice du mu lu, .bool fp, .slice cp np kp, .slice dp mp lp] 27)).cell? ⟨wQ.heap.size, i * 3 + 2, none⟩ = some (.slice ((fun i => [dn, dm, ds, du, dp].getD i none) i) ((fun i => [mn, mm, ms, mu, mp].getD i 0) i) ((fun i => [ln, lm, ls, lu, lp].getD i 0) i)) := by
    intro i hi
    rcases (by omega : i = 0 ∨ i = 1 ∨ i = 2 ∨ i = 3 ∨ i = 4) with rfl | rfl | rfl | rfl | rfl <;> simp
  have hz1 := bel_d0 wQ (.cells #[.bool fn, .slice cn nn kn, .slice dn mn ln, .bool fm, .slice cm nm km, .slice dm mm lm, .bool fs, .slice cs ns ks, .slice ds ms ls, .bool fu, .slice cu nu ku, .slice du mu lu, .bool fp, .slice cp np kp, .slice dp mp lp] 27)
  have Ui := Vi.below hz1
  have Uj := Vj.below hz1
  have Ut := Vt.below hz1
  have Uv := Vv.below hz1
  have Uq := Vq.below hz1
  generalize hWB : wQ.alloc (.cells #[.bool fn, .slice cn nn kn, .slice dn mn ln, .bool fm, .slice cm nm km, .slice dm mm lm, .bool fs, .slice cs ns ks, .slice ds ms ls, .bool fu, .slice cu nu ku, .slice du mu lu, .bool fp, .slice cp np kp, .slice dp mp lp] 27) = wB at *
  obtain ⟨vnc0, vnc1, vnc2, -, -, -⟩ := Vn
  obtain ⟨vmc0, vmc1, vmc2, -, -, -⟩ := Vm
  obtain ⟨vsc0, vsc1, vsc2, -, -, -⟩ := Vs
  obtain ⟨vuc0, vuc1, vuc2, -, -, -⟩ := Vu
  obtain ⟨vpc0, vpc1, vpc2, -, -, -⟩ := Vp
  obtain ⟨uic0, uic1, uic2, -, -, -⟩ := Ui
  obtain ⟨ujc0, ujc1, ujc2, -, -, -⟩ := Uj
  obtain ⟨utc0, utc1, utc2, -, -, -⟩ := Ut
  obtain ⟨uvc0, uvc1, uvc2, -, -, -⟩ := Uv
  obtain ⟨uqc0, uqc1, uqc2, -, -, -⟩ := Uq
  clear Vi Vj Vt Vv Vq hsz
  go_wp2_with fail
  clear vnc0 vnc1 vnc2 vmc0 vmc1 vmc2 vsc0 vsc1 vsc2 vuc0 vuc1 vuc2 vpc0 vpc1 vpc2 uic0 uic1 uic2 ujc0 ujc1 ujc2 utc0 utc1 utc2 uvc0 uvc1 uvc2 uqc0 uqc1 uqc2 hWQ hWB
  have hz2 := bel_d0 wB (.cells #[.bool fi, .slice ci ni ki, .slice di mi li, .bool fj, .slice cj nj kj, .slice dj mj lj, .bool ft, .slice ct nt kt, .slice dt mt lt, .bool fv, .slice cv nv kv, .slice dv mv lv, .bool fq, .slice cq nq kq, .slice dq mq lq] 27)
  have hcb : ∀ i, i < 5 → (wB.alloc (.cells #[.bool fi, .slice ci ni ki, .slice di mi li, .bool fj, .slice cj nj kj, .slice dj mj lj, .bool ft, .slice ct nt kt, .slice dt mt lt, .bool fv, .slice cv nv kv, .slice dv mv lv, .bool fq, .slice cq nq kq, .slice dq mq lq] 27)).cell? ⟨wB.heap.size, i * 3, none⟩ = some (.bool ((fun i => [fi, fj, ft, fv, fq].getD i false) i)) ∧ (wB.alloc (.cells #[.bool fi, .slice ci ni ki, .slice di mi li, .bool fj, .slice cj nj kj, .slice dj mj lj, .bool ft, .slice ct nt kt, .slice dt mt lt, .bool fv, .slice cv nv kv, .slice dv mv lv, .bool fq, .slice cq nq kq, .slice dq mq lq] 27)).cell? ⟨wB.heap.size, i * 3 + 1, none⟩ = some (.slice ((fun i => [ci, cj, ct, cv, cq].getD i none) i) ((fun i => [ni, nj, nt, nv, nq].getD i 0) i) ((fun i => [ki, kj, kt, kv, kq].getD i 0) i)) ∧ (wB.alloc (.cells #[.bool fi, .slice ci ni ki, .slice di mi li, .bool fj, .slice cj nj kj, .slice dj mj lj, .bool ft, .slice ct nt kt, .slice dt mt lt, .bool fv, .slice cv nv kv, .slice dv mv lv, .bool fq, .slice cq nq kq, .slice dq mq lq] 27)).cell? ⟨wB.heap.size, i * 3 + 2, none⟩ = some (.slice ((fun i => [di, dj, dt, dv, dq].getD i none) i) ((fun i => [mi, mj, mt, mv, mq].getD i 0) i) ((fun i => [li, lj, lt, lv, lq].getD i 0) i)) := by
    intro i hi
    rcases (by omega : i = 0 ∨ i = 1 ∨ i = 2 ∨ i = 3 ∨ i = 4) with rfl | rfl | rfl | rfl | rfl <;> simp
  have Ga : ∀ i, i < 5 → GR (wB.alloc (.cells #[.bool fi, .slice ci ni ki, .slice di mi li, .bool fj, .slice cj nj kj, .slice dj mj lj, .bool ft, .slice ct nt kt, .slice dt mt lt, .bool fv, .slice cv nv kv, .slice dv mv lv, .bool fq, .slice cq nq kq, .slice dq mq lq] 27)) (w.heap.size + 2) ((fun i => [fn, fm, fs, fu, fp].getD i false) i) ((fun i => [cn, cm, cs, cu, cp].getD i none) i) ((fun i => [nn, nm, ns, nu, np].getD i 0) i) ((fun i => [kn, km, ks, ku, kp].getD i 0) i) ((fun i => [dn, dm, ds, du, dp].getD i none) i) ((fun i => [mn, mm, ms, mu, mp].getD i 0) i) ((fun i => [ln, lm, ls, lu, lp].getD i 0) i) ((fun i => [-x, absR x, x + y, x - y, x * y].getD i 0) i) (S + S + 4) := by
    intro i hi
    rcases (by omega : i = 0 ∨ i = 1 ∨ i = 2 ∨ i = 3 ∨ i = 4) with rfl | rfl | rfl | rfl | rfl
    · exact ((Gn.le (by omega)).below hz1).below hz2
    · exact ((Gm.le (by omega)).below hz1).below hz2
    · exact ((Gs.le (by omega)).below hz1).below hz2
    · exact ((Gu.le (by omega)).below hz1).below hz2
    · exact ((Gp.le (by omega)).below hz1).below hz2
  have Gb : ∀ i, i < 5 → GR (wB.alloc (.cells #[.bool fi, .slice ci ni ki, .slice di mi li, .bool fj, .slice cj nj kj, .slice dj mj lj, .bool ft, .slice ct nt kt, .slice dt mt lt, .bool fv, .slice cv nv kv, .slice dv mv lv, .bool fq, .slice cq nq kq, .slice dq mq lq] 27)) (w.heap.size + 2) ((fun i => [fi, fj, ft, fv, fq].getD i false) i) ((fun i => [ci, cj, ct, cv, cq].getD i none) i) ((fun i => [ni, nj, nt, nv, nq].getD i 0) i) ((fun i => [ki, kj, kt, kv, kq].getD i 0) i) ((fun i => [di, dj, dt, dv, dq].getD i none) i) ((fun i => [mi, mj, mt, mv, mq].getD i 0) i) ((fun i => [li, lj, lt, lv, lq].getD i 0) i) ((fun i => [-x, absR x, x + y, x - y, x * y].getD i 0) i) (S + S + 4) := by
    intro i hi
    rcases (by omega : i = 0 ∨ i = 1 ∨ i = 2 ∨ i = 3 ∨ i = 4) with rfl | rfl | rfl | rfl | rfl
    · exact ((Gi.le (by omega)).below hz1).below hz2
    · exact ((Gj.le (by omega)).below hz1).below hz2
    · exact ((Gt.le (by omega)).below hz1).below hz2
    · exact ((Gv.le (by omega)).below hz1).below hz2
    · exact ((Gq.le (by omega)).below hz1).below hz2
  replace hca := fun i hi => (⟨kept_c hz2 (hca i hi).1, kept_c hz2 (hca i hi).2.1, kept_c hz2 (hca i hi).2.2⟩ : _ ∧ _ ∧ _)
  clear Gn Gm Gs Gu Gp Gi Gj Gt Gv Gq
  generalize wB.alloc (.cells #[.bool fi, .slice ci ni ki, .slice di mi li, .bool fj, .slice cj nj kj, .slice dj mj lj, .bool ft, .slice ct nt kt, .slice dt mt lt, .bool fv, .slice cv nv kv, .slice dv mv lv, .bool fq, .slice cq nq kq, .slice dq mq lq] 27) = wC at *
  refine (sameAllD wQ.heap.size wB.heap.size 5 (fun i => [fn, fm, fs, fu, fp].getD i false) (fun i => [cn, cm, cs, cu, cp].getD i none) (fun i => [nn, nm, ns, nu, np].getD i 0) (fun i => [kn, km, ks, ku, kp].getD i 0) (fun i => [dn, dm, ds, du, dp].getD i none) (fun i => [mn, mm, ms, mu, mp].getD i 0) (fun i => [ln, lm, ls, lu, lp].getD i 0) (fun i => [fi, fj, ft, fv, fq].getD i false) (fun i => [ci, cj, ct, cv, cq].getD i none) (fun i => [ni, nj, nt, nv, nq].getD i 0) (fun i => [ki, kj, kt, kv, kq].getD i 0) (fun i => [di, dj, dt, dv, dq].getD i none) (fun i => [mi, mj, mt, mv, mq].getD i 0) (fun i => [li, lj, lt, lv, lq].getD i 0) (fun i => [-x, absR x, x + y, x - y, x * y].getD i 0) (w.heap.size + 2) (w.heap.size + 2) (S + S + 4) (S + S + 4) wC hca hcb Ga Gb (by omega) (by omega)).mono ?_
  rintro e wz ⟨rfl, hx⟩
  replace hb0 := bel_tr hb0 (bel_tr hz1 (bel_tr hz2 hx))
  clear hz1 hz2 hx Ga Gb hca hcb
  go_wp2
  go_ret
  exact ⟨rfl, hb0⟩
end Go.Proofs.YtpngkbljalnfjaaGreatDoor

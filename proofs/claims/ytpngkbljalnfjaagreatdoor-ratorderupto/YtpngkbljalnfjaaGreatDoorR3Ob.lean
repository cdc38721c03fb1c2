import Derived.Test.YtpngkbljalnfjaaGreatDoorR3Oz
namespace Go.Proofs.YtpngkbljalnfjaaGreatDoor
open Go.RowKit

set_option maxRecDepth 100000 in
set_option maxHeartbeats 40000000 in
theorem order_b {p1 : Bool} {a1 : Option Addr} {na1 ca1 : Nat} {d1 : Option Addr} {nd1 cd1 : Nat} {p2 : Bool} {a2 : Option Addr} {na2 ca2 : Nat} {d2 : Option Addr} {nd2 cd2 : Nat} {p3 : Bool} {a3 : Option Addr} {na3 ca3 : Nat} {d3 : Option Addr} {nd3 cd3 : Nat} {x y z : Rat}  {sz so : Int} {kf : Nat} {S : Nat} (w : World) (hA : TR w p1 a1 na1 ca1 d1 nd1 cd1 x S) (hB : TR w p2 a2 na2 ca2 d2 nd2 cd2 y S) (hC : TR w p3 a3 na3 ca3 d3 nd3 cd3 z S) (hS : S ≤ 1100000) (hS1 : 1 ≤ S) (hT : TB w) {ev : Value} (E : Errs w 0 ev) (HXY : Hid ((0 : Int) = cs x y)) (HYX : Hid ((0 : Int) = cs y x)) (HYZ : Hid ((1 : Int) = cs y z)) (HXZ : Hid ((1 : Int) = cs x z)) (HZ : Hid (sz = z.num.sign)) (HSC : Hid ((0 : Int) = (0) * sz)) (HSF : Hid ((kf : Int) = (absR x).num.sign)) (HSO : Hid (so = x.num.sign)) (hso0 : -9223372036854775808 ≤ so) (hso1 : so < 9223372036854775808) (HFL : Hid (absR x * ((so : Int) : Rat) = x))   :
    Calls Tryz.prog 3 #[.agg #[.bool p1, .slice a1 na1 ca1, .slice d1 nd1 cd1], .agg #[.bool p2, .slice a2 na2 ca2, .slice d2 nd2 cd2], .agg #[.bool p3, .slice a3 na3 ca3, .slice d3 nd3 cd3]] w fun e w' => e = .returned (.bool true) ∧ Below w.heap.size w w' := by
  obtain ⟨VA, VB, VC0, hb0, hsz⟩ := box_rrr w (.bool p1) (.slice a1 na1 ca1) (.slice d1 nd1 cd1) (.bool p2) (.slice a2 na2 ca2) (.slice d2 nd2 cd2) (.bool p3) (.slice a3 na3 ca3) (.slice d3 nd3 cd3) 27
  have VC : Var3 _ (w.heap.size + 1 + 1) _ _ _ := VC0
  clear VC0 hsz
  replace hA := hA.below hb0
  replace hB := hB.below hb0
  replace hC := hC.below hb0
  replace hT := hT.below hb0
  replace E := E.below hb0
  go_enter Tryz.func3, Tryz.ntmps3
  go_wp2_with fail
  generalize ((w.alloc (.cells #[.bool p1, .slice a1 na1 ca1, .slice d1 nd1 cd1] 27)).alloc (.cells #[.bool p2, .slice a2 na2 ca2, .slice d2 nd2 cd2] 27)).alloc (.cells #[.bool p3, .slice a3 na3 ca3, .slice d3 nd3 cd3] 27) = W0 at *
  refine (shownQ _ hT E).mono ?_
  rintro e w1 ⟨rfl, hx⟩
  replace hA := hA.below hx
  replace hB := hB.below hx
  replace hC := hC.below hx
  replace hT := hT.below hx
  replace E := E.below hx
  replace VA := VA.below hx
  replace VB := VB.below hx
  replace VC := VC.below hx
  replace hb0 := bel_tr hb0 hx
  clear hx
  obtain ⟨vac0, vac1, vac2, vac3, vac4, vac5⟩ := id VA
  obtain ⟨vbc0, vbc1, vbc2, vbc3, vbc4, vbc5⟩ := id VB
  clear E
  go_wp2_with fail
  refine (cmpB (0) _ hA hB (by omega) (by omega) (by omega) HXY.out).mono ?_
  rintro e w2 ⟨rfl, hx⟩
  clear vac0 vac1 vac2 vac3 vac4 vac5 vbc0 vbc1 vbc2 vbc3 vbc4 vbc5
  replace hA := hA.below hx
  replace hB := hB.below hx
  replace hC := hC.below hx
  replace hT := hT.below hx
  replace VA := VA.below hx
  replace VB := VB.below hx
  replace VC := VC.below hx
  replace hb0 := bel_tr hb0 hx
  clear hx
  obtain ⟨vbc0, vbc1, vbc2, vbc3, vbc4, vbc5⟩ := id VB
  obtain ⟨vac0, vac1, vac2, vac3, vac4, vac5⟩ := id VA
  go_wp2_with fail
  refine (cmpB (0) _ hB hA (by omega) (by omega) (by omega) HYX.out).mono ?_
  rintro e w3 ⟨rfl, hx⟩
  clear vbc0 vbc1 vbc2 vbc3 vbc4 vbc5 vac0 vac1 vac2 vac3 vac4 vac5
  replace hA := hA.below hx
  replace hB := hB.below hx
  replace hC := hC.below hx
  replace hT := hT.below hx
  replace VA := VA.below hx
  replace VB := VB.below hx
  replace VC := VC.below hx
  replace hb0 := bel_tr hb0 hx
  clear hx
  obtain ⟨vbc0, vbc1, vbc2, vbc3, vbc4, vbc5⟩ := id VB
  obtain ⟨vcc0, vcc1, vcc2, vcc3, vcc4, vcc5⟩ := id VC
  go_wp2_with fail
  refine (cmpB (1) _ hB hC (by omega) (by omega) (by omega) HYZ.out).mono ?_
  rintro e w4 ⟨rfl, hx⟩
  clear vbc0 vbc1 vbc2 vbc3 vbc4 vbc5 vcc0 vcc1 vcc2 vcc3 vcc4 vcc5
  replace hA := hA.below hx
  replace hB := hB.below hx
  replace hC := hC.below hx
  replace hT := hT.below hx
  replace VA := VA.below hx
  replace VB := VB.below hx
  replace VC := VC.below hx
  replace hb0 := bel_tr hb0 hx
  clear hx
  obtain ⟨vac0, vac1, vac2, vac3, vac4, vac5⟩ := id VA
  obtain ⟨vcc0, vcc1, vcc2, vcc3, vcc4, vcc5⟩ := id VC
  go_wp2_with fail
  refine (cmpB (1) _ hA hC (by omega) (by omega) (by omega) HXZ.out).mono ?_
  rintro e w5 ⟨rfl, hx⟩
  clear vac0 vac1 vac2 vac3 vac4 vac5 vcc0 vcc1 vcc2 vcc3 vcc4 vcc5
  replace hA := hA.below hx
  replace hB := hB.below hx
  replace hC := hC.below hx
  replace hT := hT.below hx
  replace VA := VA.below hx
  replace VB := VB.below hx
  replace VC := VC.below hx
  replace hb0 := bel_tr hb0 hx
  clear hx
  obtain ⟨vac0, vac1, vac2, vac3, vac4, vac5⟩ := id VA
  go_wp2_with fail
  refine (normR _ hA (by omega) hS1 hT).mono ?_
  rintro e w6 ⟨fx, cx, nx, kx, dX, mx, lx, rfl, Gx, hx⟩
  clear vac0 vac1 vac2 vac3 vac4 vac5
  replace hA := hA.below hx
  replace hB := hB.below hx
  replace hC := hC.below hx
  replace hT := hT.below hx
  replace VA := VA.below hx
  replace VB := VB.below hx
  replace VC := VC.below hx
  replace hb0 := bel_tr hb0 hx
  clear hx
  have hx := bel_d0 w6 (.cells #[.bool fx, .slice cx nx kx, .slice dX mx lx] 27)
  replace hA := hA.below hx
  replace hB := hB.below hx
  replace hC := hC.below hx
  replace hT := hT.below hx
  replace Gx := Gx.below hx
  replace VA := VA.below hx
  replace VB := VB.below hx
  replace VC := VC.below hx
  replace hb0 := bel_tr hb0 hx
  have Vx := var3_new w6 (.bool fx) (.slice cx nx kx) (.slice dX mx lx) 27
  clear hx
  obtain ⟨vbc0, vbc1, vbc2, vbc3, vbc4, vbc5⟩ := id VB
  go_wp2_with fail
  generalize w6.alloc (.cells #[.bool fx, .slice cx nx kx, .slice dX mx lx] 27) = w7 at *
  refine (normR _ hB (by omega) hS1 hT).mono ?_
  rintro e w8 ⟨fy, cy, ny, ky, dy, my, ly, rfl, Gy, hx⟩
  clear vbc0 vbc1 vbc2 vbc3 vbc4 vbc5
  replace hA := hA.below hx
  replace hB := hB.below hx
  replace hC := hC.below hx
  replace hT := hT.below hx
  replace Gx := Gx.below hx
  replace VA := VA.below hx
  replace VB := VB.below hx
  replace VC := VC.below hx
  replace Vx := Vx.below hx
  replace hb0 := bel_tr hb0 hx
  clear hx
  have hx := bel_d0 w8 (.cells #[.bool fy, .slice cy ny ky, .slice dy my ly] 27)
  replace hA := hA.below hx
  replace hB := hB.below hx
  replace hC := hC.below hx
  replace hT := hT.below hx
  replace Gx := Gx.below hx
  replace Gy := Gy.below hx
  replace VA := VA.below hx
  replace VB := VB.below hx
  replace VC := VC.below hx
  replace Vx := Vx.below hx
  replace hb0 := bel_tr hb0 hx
  have Vy := var3_new w8 (.bool fy) (.slice cy ny ky) (.slice dy my ly) 27
  clear hx
  obtain ⟨vxc0, vxc1, vxc2, vxc3, vxc4, vxc5⟩ := id Vx
  obtain ⟨vyc0, vyc1, vyc2, vyc3, vyc4, vyc5⟩ := id Vy
  go_wp2_with fail
  generalize w8.alloc (.cells #[.bool fy, .slice cy ny ky, .slice dy my ly] 27) = w9 at *
  refine (sameQ _ Gx Gy (cs_eq.1 HXY.out.symm) (by omega)).mono ?_
  rintro e w10 ⟨rfl, hx⟩
  clear vxc0 vxc1 vxc2 vxc3 vxc4 vxc5 vyc0 vyc1 vyc2 vyc3 vyc4 vyc5
  replace hA := hA.below hx
  replace hB := hB.below hx
  replace hC := hC.below hx
  replace hT := hT.below hx
  replace Gx := Gx.below hx
  replace Gy := Gy.below hx
  replace VA := VA.below hx
  replace VB := VB.below hx
  replace VC := VC.below hx
  replace Vx := Vx.below hx
  replace Vy := Vy.below hx
  replace hb0 := bel_tr hb0 hx
  clear hx
  obtain ⟨vac0, vac1, vac2, vac3, vac4, vac5⟩ := id VA
  obtain ⟨vbc0, vbc1, vbc2, vbc3, vbc4, vbc5⟩ := id VB
  go_wp2_with fail
  refine (subQ _ hA hB (by omega) (by omega) (by omega) hT).mono ?_
  rintro e w11 ⟨fd, cd, nd, kd, dd, md, ld, rfl, Gd, hx⟩
  clear vac0 vac1 vac2 vac3 vac4 vac5 vbc0 vbc1 vbc2 vbc3 vbc4 vbc5
  replace hA := hA.below hx
  replace hB := hB.below hx
  replace hC := hC.below hx
  replace hT := hT.below hx
  replace Gx := Gx.below hx
  replace Gy := Gy.below hx
  replace VA := VA.below hx
  replace VB := VB.below hx
  replace VC := VC.below hx
  replace Vx := Vx.below hx
  replace Vy := Vy.below hx
  replace hb0 := bel_tr hb0 hx
  clear hx
  have hx := bel_d0 w11 (.cells #[.bool fd, .slice cd nd kd, .slice dd md ld] 27)
  replace hA := hA.below hx
  replace hB := hB.below hx
  replace hC := hC.below hx
  replace hT := hT.below hx
  replace Gx := Gx.below hx
  replace Gy := Gy.below hx
  replace Gd := Gd.below hx
  replace VA := VA.below hx
  replace VB := VB.below hx
  replace VC := VC.below hx
  replace Vx := Vx.below hx
  replace Vy := Vy.below hx
  replace hb0 := bel_tr hb0 hx
  have Vd := var3_new w11 (.bool fd) (.slice cd nd kd) (.slice dd md ld) 27
  clear hx
  obtain ⟨vdc0, vdc1, vdc2, vdc3, vdc4, vdc5⟩ := id Vd
  go_wp2_with fail
  generalize w11.alloc (.cells #[.bool fd, .slice cd nd kd, .slice dd md ld] 27) = w12 at *
  refine (rsignB (0) _ Gd.tr (by omega) (by omega) (by rw [cs_sub]; exact HXY.out)).mono ?_
  rintro e w13 ⟨rfl, hx⟩
  clear vdc0 vdc1 vdc2 vdc3 vdc4 vdc5
  replace hA := hA.below hx
  replace hB := hB.below hx
  replace hC := hC.below hx
  replace hT := hT.below hx
  replace Gx := Gx.below hx
  replace Gy := Gy.below hx
  replace Gd := Gd.below hx
  replace VA := VA.below hx
  replace VB := VB.below hx
  replace VC := VC.below hx
  replace Vx := Vx.below hx
  replace Vy := Vy.below hx
  replace Vd := Vd.below hx
  replace hb0 := bel_tr hb0 hx
  clear hx
  obtain ⟨vac0, vac1, vac2, vac3, vac4, vac5⟩ := id VA
  obtain ⟨vcc0, vcc1, vcc2, vcc3, vcc4, vcc5⟩ := id VC
  clear Vd
  clear Gd
  go_wp2_with fail
  refine (addQ _ hA hC (by omega) (by omega) (by omega) hT).mono ?_
  rintro e w14 ⟨fp, cp, np, kp, dp, mp, lp, rfl, Gp, hx⟩
  clear vac0 vac1 vac2 vac3 vac4 vac5 vcc0 vcc1 vcc2 vcc3 vcc4 vcc5
  replace hA := hA.below hx
  replace hB := hB.below hx
  replace hC := hC.below hx
  replace hT := hT.below hx
  replace Gx := Gx.below hx
  replace Gy := Gy.below hx
  replace VA := VA.below hx
  replace VB := VB.below hx
  replace VC := VC.below hx
  replace Vx := Vx.below hx
  replace Vy := Vy.below hx
  replace hb0 := bel_tr hb0 hx
  clear hx
  have hx := bel_d0 w14 (.cells #[.bool fp, .slice cp np kp, .slice dp mp lp] 27)
  replace hA := hA.below hx
  replace hB := hB.below hx
  replace hC := hC.below hx
  replace hT := hT.below hx
  replace Gx := Gx.below hx
  replace Gy := Gy.below hx
  replace Gp := Gp.below hx
  replace VA := VA.below hx
  replace VB := VB.below hx
  replace VC := VC.below hx
  replace Vx := Vx.below hx
  replace Vy := Vy.below hx
  replace hb0 := bel_tr hb0 hx
  have Vp := var3_new w14 (.bool fp) (.slice cp np kp) (.slice dp mp lp) 27
  clear hx
  obtain ⟨vbc0, vbc1, vbc2, vbc3, vbc4, vbc5⟩ := id VB
  obtain ⟨vcc0, vcc1, vcc2, vcc3, vcc4, vcc5⟩ := id VC
  go_wp2_with fail
  generalize w14.alloc (.cells #[.bool fp, .slice cp np kp, .slice dp mp lp] 27) = w15 at *
  refine (addQ _ hB hC (by omega) (by omega) (by omega) hT).mono ?_
  rintro e w16 ⟨fq, cq, nq, kq, dq, mq, lq, rfl, Gq, hx⟩
  clear vbc0 vbc1 vbc2 vbc3 vbc4 vbc5 vcc0 vcc1 vcc2 vcc3 vcc4 vcc5
  replace hA := hA.below hx
  replace hB := hB.below hx
  replace hC := hC.below hx
  replace hT := hT.below hx
  replace Gx := Gx.below hx
  replace Gy := Gy.below hx
  replace Gp := Gp.below hx
  replace VA := VA.below hx
  replace VB := VB.below hx
  replace VC := VC.below hx
  replace Vx := Vx.below hx
  replace Vy := Vy.below hx
  replace Vp := Vp.below hx
  replace hb0 := bel_tr hb0 hx
  clear hx
  have hx := bel_d0 w16 (.cells #[.bool fq, .slice cq nq kq, .slice dq mq lq] 27)
  replace hA := hA.below hx
  replace hB := hB.below hx
  replace hC := hC.below hx
  replace hT := hT.below hx
  replace Gx := Gx.below hx
  replace Gy := Gy.below hx
  replace Gp := Gp.below hx
  replace Gq := Gq.below hx
  replace VA := VA.below hx
  replace VB := VB.below hx
  replace VC := VC.below hx
  replace Vx := Vx.below hx
  replace Vy := Vy.below hx
  replace Vp := Vp.below hx
  replace hb0 := bel_tr hb0 hx
  have Vq := var3_new w16 (.bool fq) (.slice cq nq kq) (.slice dq mq lq) 27
  clear hx
  obtain ⟨vpc0, vpc1, vpc2, vpc3, vpc4, vpc5⟩ := id Vp
  obtain ⟨vqc0, vqc1, vqc2, vqc3, vqc4, vqc5⟩ := id Vq
  go_wp2_with fail
  generalize w16.alloc (.cells #[.bool fq, .slice cq nq kq, .slice dq mq lq] 27) = w17 at *
  refine (cmpB (0) _ Gp.tr Gq.tr (by omega) (by omega) (by omega) (by rw [cs_add]; exact HXY.out)).mono ?_
  rintro e w18 ⟨rfl, hx⟩
  clear vpc0 vpc1 vpc2 vpc3 vpc4 vpc5 vqc0 vqc1 vqc2 vqc3 vqc4 vqc5
  replace hA := hA.below hx
  replace hB := hB.below hx
  replace hC := hC.below hx
  replace hT := hT.below hx
  replace Gx := Gx.below hx
  replace Gy := Gy.below hx
  replace Gp := Gp.below hx
  replace Gq := Gq.below hx
  replace VA := VA.below hx
  replace VB := VB.below hx
  replace VC := VC.below hx
  replace Vx := Vx.below hx
  replace Vy := Vy.below hx
  replace Vp := Vp.below hx
  replace Vq := Vq.below hx
  replace hb0 := bel_tr hb0 hx
  clear hx
  obtain ⟨vac0, vac1, vac2, vac3, vac4, vac5⟩ := id VA
  obtain ⟨vcc0, vcc1, vcc2, vcc3, vcc4, vcc5⟩ := id VC
  clear Vp
  clear Gp
  clear Vq
  clear Gq
  go_wp2_with fail
  refine (mulQ _ hA hC (by omega) (by omega) (by omega) hT).mono ?_
  rintro e w19 ⟨fr, cr, nr, kr, dr, mr, lr, rfl, Gr, hx⟩
  clear vac0 vac1 vac2 vac3 vac4 vac5 vcc0 vcc1 vcc2 vcc3 vcc4 vcc5
  replace hA := hA.below hx
  replace hB := hB.below hx
  replace hC := hC.below hx
  replace hT := hT.below hx
  replace Gx := Gx.below hx
  replace Gy := Gy.below hx
  replace VA := VA.below hx
  replace VB := VB.below hx
  replace VC := VC.below hx
  replace Vx := Vx.below hx
  replace Vy := Vy.below hx
  replace hb0 := bel_tr hb0 hx
  clear hx
  have hx := bel_d0 w19 (.cells #[.bool fr, .slice cr nr kr, .slice dr mr lr] 27)
  replace hA := hA.below hx
  replace hB := hB.below hx
  replace hC := hC.below hx
  replace hT := hT.below hx
  replace Gx := Gx.below hx
  replace Gy := Gy.below hx
  replace Gr := Gr.below hx
  replace VA := VA.below hx
  replace VB := VB.below hx
  replace VC := VC.below hx
  replace Vx := Vx.below hx
  replace Vy := Vy.below hx
  replace hb0 := bel_tr hb0 hx
  have Vr := var3_new w19 (.bool fr) (.slice cr nr kr) (.slice dr mr lr) 27
  clear hx
  obtain ⟨vbc0, vbc1, vbc2, vbc3, vbc4, vbc5⟩ := id VB
  obtain ⟨vcc0, vcc1, vcc2, vcc3, vcc4, vcc5⟩ := id VC
  go_wp2_with fail
  generalize w19.alloc (.cells #[.bool fr, .slice cr nr kr, .slice dr mr lr] 27) = w20 at *
  refine (mulQ _ hB hC (by omega) (by omega) (by omega) hT).mono ?_
  rintro e w21 ⟨fh, ch, nh, kh, dh, mh, lh, rfl, Gh, hx⟩
  clear vbc0 vbc1 vbc2 vbc3 vbc4 vbc5 vcc0 vcc1 vcc2 vcc3 vcc4 vcc5
  replace hA := hA.below hx
  replace hB := hB.below hx
  replace hC := hC.below hx
  replace hT := hT.below hx
  replace Gx := Gx.below hx
  replace Gy := Gy.below hx
  replace Gr := Gr.below hx
  replace VA := VA.below hx
  replace VB := VB.below hx
  replace VC := VC.below hx
  replace Vx := Vx.below hx
  replace Vy := Vy.below hx
  replace Vr := Vr.below hx
  replace hb0 := bel_tr hb0 hx
  clear hx
  have hx := bel_d0 w21 (.cells #[.bool fh, .slice ch nh kh, .slice dh mh lh] 27)
  replace hA := hA.below hx
  replace hB := hB.below hx
  replace hC := hC.below hx
  replace hT := hT.below hx
  replace Gx := Gx.below hx
  replace Gy := Gy.below hx
  replace Gr := Gr.below hx
  replace Gh := Gh.below hx
  replace VA := VA.below hx
  replace VB := VB.below hx
  replace VC := VC.below hx
  replace Vx := Vx.below hx
  replace Vy := Vy.below hx
  replace Vr := Vr.below hx
  replace hb0 := bel_tr hb0 hx
  have Vh := var3_new w21 (.bool fh) (.slice ch nh kh) (.slice dh mh lh) 27
  clear hx
  obtain ⟨vrc0, vrc1, vrc2, vrc3, vrc4, vrc5⟩ := id Vr
  obtain ⟨vhc0, vhc1, vhc2, vhc3, vhc4, vhc5⟩ := id Vh
  go_wp2_with fail
  generalize w21.alloc (.cells #[.bool fh, .slice ch nh kh, .slice dh mh lh] 27) = w22 at *
  refine (cmpB (0) _ Gr.tr Gh.tr (by omega) (by omega) (by omega) (by rw [cs_mul, ← HXY.out, ← HZ.out]; exact HSC.out)).mono ?_
  rintro e w23 ⟨rfl, hx⟩
  clear vrc0 vrc1 vrc2 vrc3 vrc4 vrc5 vhc0 vhc1 vhc2 vhc3 vhc4 vhc5
  replace hA := hA.below hx
  replace hB := hB.below hx
  replace hC := hC.below hx
  replace hT := hT.below hx
  replace Gx := Gx.below hx
  replace Gy := Gy.below hx
  replace Gr := Gr.below hx
  replace Gh := Gh.below hx
  replace VA := VA.below hx
  replace VB := VB.below hx
  replace VC := VC.below hx
  replace Vx := Vx.below hx
  replace Vy := Vy.below hx
  replace Vr := Vr.below hx
  replace Vh := Vh.below hx
  replace hb0 := bel_tr hb0 hx
  clear hx
  obtain ⟨vcc0, vcc1, vcc2, vcc3, vcc4, vcc5⟩ := id VC
  clear Vr
  clear Gr
  clear Vh
  clear Gh
  go_wp2_with fail
  refine (rsignB sz _ hC (by omega) hS1 HZ.out).mono ?_
  rintro e w24 ⟨rfl, hx⟩
  clear vcc0 vcc1 vcc2 vcc3 vcc4 vcc5
  replace hA := hA.below hx
  replace hB := hB.below hx
  replace hC := hC.below hx
  replace hT := hT.below hx
  replace Gx := Gx.below hx
  replace Gy := Gy.below hx
  replace VA := VA.below hx
  replace VB := VB.below hx
  replace VC := VC.below hx
  replace Vx := Vx.below hx
  replace Vy := Vy.below hx
  replace hb0 := bel_tr hb0 hx
  clear hx
  obtain ⟨vac0, vac1, vac2, vac3, vac4, vac5⟩ := id VA
  go_wp2_with fail
  refine (absQ _ hA (by omega) hS1 hT).mono ?_
  rintro e w25 ⟨fb, cb, nb, kb, db, mb, lb, rfl, Gb, hx⟩
  clear vac0 vac1 vac2 vac3 vac4 vac5
  replace hA := hA.below hx
  replace hB := hB.below hx
  replace hC := hC.below hx
  replace hT := hT.below hx
  replace Gx := Gx.below hx
  replace Gy := Gy.below hx
  replace VA := VA.below hx
  replace VB := VB.below hx
  replace VC := VC.below hx
  replace Vx := Vx.below hx
  replace Vy := Vy.below hx
  replace hb0 := bel_tr hb0 hx
  clear hx
  have hx := bel_d0 w25 (.cells #[.bool fb, .slice cb nb kb, .slice db mb lb] 27)
  replace hA := hA.below hx
  replace hB := hB.below hx
  replace hC := hC.below hx
  replace hT := hT.below hx
  replace Gx := Gx.below hx
  replace Gy := Gy.below hx
  replace Gb := Gb.below hx
  replace VA := VA.below hx
  replace VB := VB.below hx
  replace VC := VC.below hx
  replace Vx := Vx.below hx
  replace Vy := Vy.below hx
  replace hb0 := bel_tr hb0 hx
  have Vb := var3_new w25 (.bool fb) (.slice cb nb kb) (.slice db mb lb) 27
  clear hx
  obtain ⟨vbc0, vbc1, vbc2, vbc3, vbc4, vbc5⟩ := id Vb
  go_wp2_with fail
  generalize w25.alloc (.cells #[.bool fb, .slice cb nb kb, .slice db mb lb] 27) = w26 at *
  refine (rsignB (kf : Int) _ Gb.tr (by omega) (by omega) HSF.out).mono ?_
  rintro e w27 ⟨rfl, hx⟩
  clear vbc0 vbc1 vbc2 vbc3 vbc4 vbc5
  replace hA := hA.below hx
  replace hB := hB.below hx
  replace hC := hC.below hx
  replace hT := hT.below hx
  replace Gx := Gx.below hx
  replace Gy := Gy.below hx
  replace Gb := Gb.below hx
  replace VA := VA.below hx
  replace VB := VB.below hx
  replace VC := VC.below hx
  replace Vx := Vx.below hx
  replace Vy := Vy.below hx
  replace Vb := Vb.below hx
  replace hb0 := bel_tr hb0 hx
  clear hx
  obtain ⟨vac0, vac1, vac2, vac3, vac4, vac5⟩ := id VA
  go_wp2_with fail
  refine (rsignB so _ hA (by omega) hS1 HSO.out).mono ?_
  rintro e w28 ⟨rfl, hx⟩
  clear vac0 vac1 vac2 vac3 vac4 vac5
  replace hA := hA.below hx
  replace hB := hB.below hx
  replace hC := hC.below hx
  replace hT := hT.below hx
  replace Gx := Gx.below hx
  replace Gy := Gy.below hx
  replace Gb := Gb.below hx
  replace VA := VA.below hx
  replace VB := VB.below hx
  replace VC := VC.below hx
  replace Vx := Vx.below hx
  replace Vy := Vy.below hx
  replace Vb := Vb.below hx
  replace hb0 := bel_tr hb0 hx
  clear hx
  obtain ⟨vbc0, vbc1, vbc2, vbc3, vbc4, vbc5⟩ := id Vb
  go_wp2_with fail
  have hvb := Vb.lt
  refine wp_cut (fun a0 a' w' => ∃ R f0 c0 n0 k0 d0 m0 l0 f c n k d m l, a' = (((((a0.put (some 130) (.agg #[.bool fb, .slice cb nb kb, .slice db mb lb])).put (some 131) (.int .i64 so)).put (some 132) (.agg #[.bool f0, .slice c0 n0 k0, .slice d0 m0 l0])).put (some 133) (.agg #[.bool f, .slice c n k, .slice d m l])).put (some 26) (.pointer (some ⟨R, 0, none⟩))) ∧ Var3 w' R (.bool f) (.slice c n k) (.slice d m l) ∧ GR w' w28.heap.size f c n k d m l x (S + 4) ∧ Below w28.heap.size w28 w') ?_ ?_
  · go_region_held3 (fun w' => w'.cell? ⟨w25.heap.size, 0, none⟩ = some (.bool fb) ∧ w'.cell? ⟨w25.heap.size, 1, none⟩ = some (.slice cb nb kb) ∧ w'.cell? ⟨w25.heap.size, 2, none⟩ = some (.slice db mb lb))
      (refine ⟨?_, ?_, ?_⟩ <;> first | with_reducible exact kept_c hc2 (by assumption) | with_reducible exact kept_c hc1 (by assumption) | with_reducible exact kept_c (bel_d1 _) (by assumption) | with_reducible exact kept_c (bel_d2 _ _) (by assumption) | with_reducible exact kept_c (bel_tr hc2 (bel_d0 _ _)) (by assumption) | with_reducible exact kept_c (bel_tr hc1 (bel_d0 _ _)) (by assumption) | with_reducible exact set3_far (kept_c hc2 (by assumption)) (by simp <;> omega))
      ((first
        | (go_at_call 17; go_fit (ofQ so _ hso0 hso1); rintro e v1 ⟨f1, c1, n1, k1, d1', m1, l1, rfl, G1, hb1⟩; have hc1 : Below w28.heap.size w28 v1 := (by first | exact bel_tr (bel_d1 _) hb1 | exact bel_tr (bel_d2 _ _) hb1); have hsv1 := Below.size hc1; try (have VA1 : Var3 v1 w28.heap.size (.bool false) (.slice none 0 0) (.slice none 0 0) := (var3_new w28.drew (.bool false) (.slice none 0 0) (.slice none 0 0) 27).below hb1))
        | (go_at_call 15; go_fit (mulQ _ (Gb.tr.below (by first | exact hc1 | exact bel_tr hc1 (bel_d0 _ _))) (G1.below (by first | exact Below.refl _ _ | exact bel_d0 _ _)).tr (by omega) (by omega) (by omega) (hT.below (by first | exact hc1 | exact bel_tr hc1 (bel_d0 _ _)))); rintro e v2 ⟨f2, c2, n2, k2, d2', m2, l2, rfl, G2, hb2⟩; have hc2 : Below w28.heap.size w28 v2 := (by first | exact bel_tr hc1 hb2 | exact bel_tr (bel_tr hc1 (bel_d0 _ _)) hb2); replace G2 := (G2.val HFL.out).le (S' := S + 4) (by omega); first | (have VB1 : Var3 v2 w28.heap.size _ _ _ := VA1.below hb2; obtain ⟨y0, y1, y2, y3, y4, y5⟩ := id VB1) | (have VB1 := (var3_new _ _ _ _ _).below hb2; obtain ⟨y0, y1, y2, y3, y4, y5⟩ := id VB1) | skip)))
    · exact ⟨rfl, v2.heap.size, f1, c1, n1, k1, d1', m1, l1, f2, c2, n2, k2, d2', m2, l2, rfl, var3_new _ _ _ _ _, (G2.below (bel_d0 _ _)).mono hsv1, bel_tr hc2 (bel_d0 _ _)⟩
    · obtain ⟨V, O⟩ := VB1.set (.bool f2) (.slice c2 n2 k2) (.slice d2' m2 l2)
      exact ⟨rfl, v1.heap.size, f1, c1, n1, k1, d1', m1, l1, f2, c2, n2, k2, d2', m2, l2, rfl, V, (G2.off O (by simp)).mono (by simp; omega), hc2.trans (O.below hsv1)⟩
    · have hs0 := Below.size hb1
      have hs0' : w28.heap.size + 1 ≤ v1.heap.size := by simpa using hs0
      obtain ⟨V, O⟩ := VB1.set (.bool f2) (.slice c2 n2 k2) (.slice d2' m2 l2)
      exact ⟨rfl, w28.heap.size, f1, c1, n1, k1, d1', m1, l1, f2, c2, n2, k2, d2', m2, l2, rfl, V, (G2.off O (by omega)).mono (by omega), hc2.trans (O.below (Nat.le_refl _))⟩
  rintro a' wf ⟨Rf, f0, c0, n0, k0, d0, m0, l0, ff, cf, nf, kf, df, mf, lf, rfl, Vf, Gf, hx⟩
  clear hvb
  clear vbc0 vbc1 vbc2 vbc3 vbc4 vbc5
  replace hA := hA.below hx
  replace hB := hB.below hx
  replace hC := hC.below hx
  replace hT := hT.below hx
  replace Gx := Gx.below hx
  replace Gy := Gy.below hx
  replace Gb := Gb.below hx
  replace VA := VA.below hx
  replace VB := VB.below hx
  replace VC := VC.below hx
  replace Vx := Vx.below hx
  replace Vy := Vy.below hx
  replace Vb := Vb.below hx
  replace hb0 := bel_tr hb0 hx
  clear hx
  simp only [Act.put, List.setIfInBounds_toArray, List.set_cons_zero, List.set_cons_succ]
  obtain ⟨vfc0, vfc1, vfc2, vfc3, vfc4, vfc5⟩ := id Vf
  obtain ⟨vxc0, vxc1, vxc2, vxc3, vxc4, vxc5⟩ := id Vx
  go_wp2_with fail
  refine (sameQ _ Gf Gx (rfl) (by omega)).mono ?_
  rintro e w29 ⟨rfl, hx⟩
  clear vfc0 vfc1 vfc2 vfc3 vfc4 vfc5 vxc0 vxc1 vxc2 vxc3 vxc4 vxc5
  replace hA := hA.below hx
  replace hB := hB.below hx
  replace hC := hC.below hx
  replace hT := hT.below hx
  replace Gx := Gx.below hx
  replace Gy := Gy.below hx
  replace Gb := Gb.below hx
  replace Gf := Gf.below hx
  replace VA := VA.below hx
  replace VB := VB.below hx
  replace VC := VC.below hx
  replace Vx := Vx.below hx
  replace Vy := Vy.below hx
  replace Vb := Vb.below hx
  replace Vf := Vf.below hx
  replace hb0 := bel_tr hb0 hx
  clear hx
  obtain ⟨vac0, vac1, vac2, vac3, vac4, vac5⟩ := id VA
  obtain ⟨vbc0, vbc1, vbc2, vbc3, vbc4, vbc5⟩ := id VB
  obtain ⟨vcc0, vcc1, vcc2, vcc3, vcc4, vcc5⟩ := id VC
  clear Vf
  clear Gf
  clear Vb
  clear Gb
  go_wp2_with fail
  have hx := bel_d0 w29 (.cells #[.bool p1, .slice a1 na1 ca1, .slice d1 nd1 cd1, .bool p2, .slice a2 na2 ca2, .slice d2 nd2 cd2, .bool p3, .slice a3 na3 ca3, .slice d3 nd3 cd3] 27)
  clear vac0 vac1 vac2 vac3 vac4 vac5 vbc0 vbc1 vbc2 vbc3 vbc4 vbc5 vcc0 vcc1 vcc2 vcc3 vcc4 vcc5
  replace hA := hA.below hx
  replace hB := hB.below hx
  replace hC := hC.below hx
  replace hT := hT.below hx
  replace Gx := Gx.below hx
  replace Gy := Gy.below hx
  replace VA := VA.below hx
  replace VB := VB.below hx
  replace VC := VC.below hx
  replace Vx := Vx.below hx
  replace Vy := Vy.below hx
  replace hb0 := bel_tr hb0 hx
  clear hx
  have hx0 := fun (i : Nat) (hi : i < 2 + 1) => (show TR (w29.alloc (.cells #[.bool p1, .slice a1 na1 ca1, .slice d1 nd1 cd1, .bool p2, .slice a2 na2 ca2, .slice d2 nd2 cd2, .bool p3, .slice a3 na3 ca3, .slice d3 nd3 cd3] 27)) (([p1, p2, p3] : List Bool).getD i false) ([a1, a2, a3].getD i none) ([na1, na2, na3].getD i 0) ([ca1, ca2, ca3].getD i 0) ([d1, d2, d3].getD i none) ([nd1, nd2, nd3].getD i 0) ([cd1, cd2, cd3].getD i 0) ([x, y, z].getD i 0) S by rcases (by omega : i = 0 ∨ i = 1 ∨ i = 2) with rfl | rfl | rfl <;> first | exact hA | exact hB | exact hC)
  refine (leastQ w29.heap.size 3 2 (fun i => [p1, p2, p3].getD i false) (fun i => [a1, a2, a3].getD i none) (fun i => [na1, na2, na3].getD i 0) (fun i => [ca1, ca2, ca3].getD i 0) (fun i => [d1, d2, d3].getD i none) (fun i => [nd1, nd2, nd3].getD i 0) (fun i => [cd1, cd2, cd3].getD i 0) (fun i => [x, y, z].getD i 0) S _ (by intro i hi; rcases (by omega : i = 0 ∨ i = 1 ∨ i = 2) with rfl | rfl | rfl <;> simp) hx0 (by omega) (by omega) (by omega) hS hS1 (by omega) hT).mono ?_
  clear hx0
  rintro e w30 ⟨fq, cq, nq, kq, dq, mq, lq, j, rfl, Gq, hj, hM, hx⟩
  replace hA := hA.below hx
  replace hB := hB.below hx
  replace hC := hC.below hx
  replace hT := hT.below hx
  replace Gx := Gx.below hx
  replace Gy := Gy.below hx
  replace VA := VA.below hx
  replace VB := VB.below hx
  replace VC := VC.below hx
  replace Vx := Vx.below hx
  replace Vy := Vy.below hx
  replace hb0 := bel_tr hb0 hx
  clear hx
  obtain ⟨q, hqe⟩ : ∃ u, [x, y, z].getD j 0 = u := ⟨_, rfl⟩
  have HQ : Hid (q ≤ x ∧ q ≤ y ∧ q ≤ z ∧ (q = x ∨ q = y ∨ q = z)) := by
    rw [hqe] at hM
    refine ⟨hM 0 (by omega), hM 1 (by omega), hM 2 (by omega), ?_⟩
    rcases (by omega : j = 0 ∨ j = 1 ∨ j = 2) with rfl | rfl | rfl
    · exact .inl hqe.symm
    · exact .inr (.inl hqe.symm)
    · exact .inr (.inr hqe.symm)
  replace Gq := Gq.val hqe
  clear hqe hM hj
  have hsN : (w30.alloc (.cells #[.bool fq, .slice cq nq kq, .slice dq mq lq] 27)).heap.size = w30.heap.size + 1 := by simp
  have hx := bel_d0 w30 (.cells #[.bool fq, .slice cq nq kq, .slice dq mq lq] 27)
  replace hA := hA.below hx
  replace hB := hB.below hx
  replace hC := hC.below hx
  replace hT := hT.below hx
  replace Gx := Gx.below hx
  replace Gy := Gy.below hx
  replace Gq := Gq.below hx
  replace VA := VA.below hx
  replace VB := VB.below hx
  replace VC := VC.below hx
  replace Vx := Vx.below hx
  replace Vy := Vy.below hx
  replace hb0 := bel_tr hb0 hx
  have Vq := var3_new w30 (.bool fq) (.slice cq nq kq) (.slice dq mq lq) 27
  clear hx
  obtain ⟨vac0, vac1, vac2, vac3, vac4, vac5⟩ := id VA
  obtain ⟨vbc0, vbc1, vbc2, vbc3, vbc4, vbc5⟩ := id VB
  obtain ⟨vcc0, vcc1, vcc2, vcc3, vcc4, vcc5⟩ := id VC
  go_wp2_with fail
  generalize w30.alloc (.cells #[.bool fq, .slice cq nq kq, .slice dq mq lq] 27) = w31 at *
  have hx := bel_d0 w31 (.cells #[.bool p1, .slice a1 na1 ca1, .slice d1 nd1 cd1, .bool p2, .slice a2 na2 ca2, .slice d2 nd2 cd2, .bool p3, .slice a3 na3 ca3, .slice d3 nd3 cd3] 27)
  clear vac0 vac1 vac2 vac3 vac4 vac5 vbc0 vbc1 vbc2 vbc3 vbc4 vbc5 vcc0 vcc1 vcc2 vcc3 vcc4 vcc5
  replace hA := hA.below hx
  replace hB := hB.below hx
  replace hC := hC.below hx
  replace hT := hT.below hx
  replace Gx := Gx.below hx
  replace Gy := Gy.below hx
  replace Gq := Gq.below hx
  replace VA := VA.below hx
  replace VB := VB.below hx
  replace VC := VC.below hx
  replace Vx := Vx.below hx
  replace Vy := Vy.below hx
  replace Vq := Vq.below hx
  replace hb0 := bel_tr hb0 hx
  clear hx
  have hx0 := fun (i : Nat) (hi : i < 2 + 1) => (show TR (w31.alloc (.cells #[.bool p1, .slice a1 na1 ca1, .slice d1 nd1 cd1, .bool p2, .slice a2 na2 ca2, .slice d2 nd2 cd2, .bool p3, .slice a3 na3 ca3, .slice d3 nd3 cd3] 27)) (([p1, p2, p3] : List Bool).getD i false) ([a1, a2, a3].getD i none) ([na1, na2, na3].getD i 0) ([ca1, ca2, ca3].getD i 0) ([d1, d2, d3].getD i none) ([nd1, nd2, nd3].getD i 0) ([cd1, cd2, cd3].getD i 0) ([x, y, z].getD i 0) S by rcases (by omega : i = 0 ∨ i = 1 ∨ i = 2) with rfl | rfl | rfl <;> first | exact hA | exact hB | exact hC)
  refine (greatQ (w30.heap.size + 1) 3 2 (fun i => [p1, p2, p3].getD i false) (fun i => [a1, a2, a3].getD i none) (fun i => [na1, na2, na3].getD i 0) (fun i => [ca1, ca2, ca3].getD i 0) (fun i => [d1, d2, d3].getD i none) (fun i => [nd1, nd2, nd3].getD i 0) (fun i => [cd1, cd2, cd3].getD i 0) (fun i => [x, y, z].getD i 0) S _ (by intro i hi; rw [← hsN]; rcases (by omega : i = 0 ∨ i = 1 ∨ i = 2) with rfl | rfl | rfl <;> simp) hx0 (by omega) (by omega) (by omega) hS hS1 (by omega) hT).mono ?_
  clear hx0 hsN
  rintro e w32 ⟨ft, ct, nt, kt, dt, mt, lt, j, rfl, Gt, hj, hM, hx⟩
  replace hA := hA.below hx
  replace hB := hB.below hx
  replace hC := hC.below hx
  replace hT := hT.below hx
  replace Gx := Gx.below hx
  replace Gy := Gy.below hx
  replace Gq := Gq.below hx
  replace VA := VA.below hx
  replace VB := VB.below hx
  replace VC := VC.below hx
  replace Vx := Vx.below hx
  replace Vy := Vy.below hx
  replace Vq := Vq.below hx
  replace hb0 := bel_tr hb0 hx
  clear hx
  obtain ⟨t, hqe⟩ : ∃ u, [x, y, z].getD j 0 = u := ⟨_, rfl⟩
  have HT : Hid (x ≤ t ∧ y ≤ t ∧ z ≤ t ∧ (t = x ∨ t = y ∨ t = z)) := by
    rw [hqe] at hM
    refine ⟨hM 0 (by omega), hM 1 (by omega), hM 2 (by omega), ?_⟩
    rcases (by omega : j = 0 ∨ j = 1 ∨ j = 2) with rfl | rfl | rfl
    · exact .inl hqe.symm
    · exact .inr (.inl hqe.symm)
    · exact .inr (.inr hqe.symm)
  replace Gt := Gt.val hqe
  clear hqe hM hj
  have hx := bel_d0 w32 (.cells #[.bool ft, .slice ct nt kt, .slice dt mt lt] 27)
  replace hA := hA.below hx
  replace hB := hB.below hx
  replace hC := hC.below hx
  replace hT := hT.below hx
  replace Gx := Gx.below hx
  replace Gy := Gy.below hx
  replace Gq := Gq.below hx
  replace Gt := Gt.below hx
  replace VA := VA.below hx
  replace VB := VB.below hx
  replace VC := VC.below hx
  replace Vx := Vx.below hx
  replace Vy := Vy.below hx
  replace Vq := Vq.below hx
  replace hb0 := bel_tr hb0 hx
  have Vt := var3_new w32 (.bool ft) (.slice ct nt kt) (.slice dt mt lt) 27
  clear hx
  obtain ⟨vcc0, vcc1, vcc2, vcc3, vcc4, vcc5⟩ := id VC
  go_wp2_with fail
  generalize w32.alloc (.cells #[.bool ft, .slice ct nt kt, .slice dt mt lt] 27) = w33 at *
  refine (normR _ hC (by omega) hS1 hT).mono ?_
  rintro e w34 ⟨fz, cz, nz, kz, dz, mz, lz, rfl, Gz, hx⟩
  clear vcc0 vcc1 vcc2 vcc3 vcc4 vcc5
  replace hA := hA.below hx
  replace hB := hB.below hx
  replace hC := hC.below hx
  replace hT := hT.below hx
  replace Gx := Gx.below hx
  replace Gy := Gy.below hx
  replace Gq := Gq.below hx
  replace Gt := Gt.below hx
  replace VA := VA.below hx
  replace VB := VB.below hx
  replace VC := VC.below hx
  replace Vx := Vx.below hx
  replace Vy := Vy.below hx
  replace Vq := Vq.below hx
  replace Vt := Vt.below hx
  replace hb0 := bel_tr hb0 hx
  clear hx
  have hx := bel_d0 w34 (.cells #[.bool fz, .slice cz nz kz, .slice dz mz lz] 27)
  replace hA := hA.below hx
  replace hB := hB.below hx
  replace hC := hC.below hx
  replace hT := hT.below hx
  replace Gx := Gx.below hx
  replace Gy := Gy.below hx
  replace Gq := Gq.below hx
  replace Gt := Gt.below hx
  replace Gz := Gz.below hx
  replace VA := VA.below hx
  replace VB := VB.below hx
  replace VC := VC.below hx
  replace Vx := Vx.below hx
  replace Vy := Vy.below hx
  replace Vq := Vq.below hx
  replace Vt := Vt.below hx
  replace hb0 := bel_tr hb0 hx
  have Vz := var3_new w34 (.bool fz) (.slice cz nz kz) (.slice dz mz lz) 27
  clear hx
  obtain ⟨vqc0, vqc1, vqc2, vqc3, vqc4, vqc5⟩ := id Vq
  obtain ⟨vac0, vac1, vac2, vac3, vac4, vac5⟩ := id VA
  go_wp2_with fail
  generalize w34.alloc (.cells #[.bool fz, .slice cz nz kz, .slice dz mz lz] 27) = w35 at *
  obtain ⟨q0, hl, hl0⟩ : ∃ u : Int, u = cs q x ∧ u ≤ 0 := ⟨_, rfl, cs_le.2 HQ.out.1⟩
  have HL : Hid (q0 = cs q x) := hl
  clear hl
  refine (cmpB q0 _ Gq.tr hA (by omega) (by omega) (by omega) HL.out).mono ?_
  rintro e w36 ⟨rfl, hx⟩
  clear vqc0 vqc1 vqc2 vqc3 vqc4 vqc5 vac0 vac1 vac2 vac3 vac4 vac5
  replace hA := hA.below hx
  replace hB := hB.below hx
  replace hC := hC.below hx
  replace hT := hT.below hx
  replace Gx := Gx.below hx
  replace Gy := Gy.below hx
  replace Gq := Gq.below hx
  replace Gt := Gt.below hx
  replace Gz := Gz.below hx
  replace VA := VA.below hx
  replace VB := VB.below hx
  replace VC := VC.below hx
  replace Vx := Vx.below hx
  replace Vy := Vy.below hx
  replace Vq := Vq.below hx
  replace Vt := Vt.below hx
  replace Vz := Vz.below hx
  replace hb0 := bel_tr hb0 hx
  clear hx
  obtain ⟨vqc0, vqc1, vqc2, vqc3, vqc4, vqc5⟩ := id Vq
  obtain ⟨vbc0, vbc1, vbc2, vbc3, vbc4, vbc5⟩ := id VB
  clear HL
  obtain ⟨q1, hl, hl0⟩ : ∃ u : Int, u = cs q y ∧ u ≤ 0 := ⟨_, rfl, cs_le.2 HQ.out.2.1⟩
  have HL : Hid (q1 = cs q y) := hl
  clear hl
  go_wp2_with fail
  refine (cmpB q1 _ Gq.tr hB (by omega) (by omega) (by omega) HL.out).mono ?_
  rintro e w37 ⟨rfl, hx⟩
  clear vqc0 vqc1 vqc2 vqc3 vqc4 vqc5 vbc0 vbc1 vbc2 vbc3 vbc4 vbc5
  replace hA := hA.below hx
  replace hB := hB.below hx
  replace hC := hC.below hx
  replace hT := hT.below hx
  replace Gx := Gx.below hx
  replace Gy := Gy.below hx
  replace Gq := Gq.below hx
  replace Gt := Gt.below hx
  replace Gz := Gz.below hx
  replace VA := VA.below hx
  replace VB := VB.below hx
  replace VC := VC.below hx
  replace Vx := Vx.below hx
  replace Vy := Vy.below hx
  replace Vq := Vq.below hx
  replace Vt := Vt.below hx
  replace Vz := Vz.below hx
  replace hb0 := bel_tr hb0 hx
  clear hx
  obtain ⟨vqc0, vqc1, vqc2, vqc3, vqc4, vqc5⟩ := id Vq
  obtain ⟨vcc0, vcc1, vcc2, vcc3, vcc4, vcc5⟩ := id VC
  clear HL
  obtain ⟨q2, hl, hl0⟩ : ∃ u : Int, u = cs q z ∧ u ≤ 0 := ⟨_, rfl, cs_le.2 HQ.out.2.2.1⟩
  have HL : Hid (q2 = cs q z) := hl
  clear hl
  go_wp2_with fail
  refine (cmpB q2 _ Gq.tr hC (by omega) (by omega) (by omega) HL.out).mono ?_
  rintro e w38 ⟨rfl, hx⟩
  clear vqc0 vqc1 vqc2 vqc3 vqc4 vqc5 vcc0 vcc1 vcc2 vcc3 vcc4 vcc5
  replace hA := hA.below hx
  replace hB := hB.below hx
  replace hC := hC.below hx
  replace hT := hT.below hx
  replace Gx := Gx.below hx
  replace Gy := Gy.below hx
  replace Gq := Gq.below hx
  replace Gt := Gt.below hx
  replace Gz := Gz.below hx
  replace VA := VA.below hx
  replace VB := VB.below hx
  replace VC := VC.below hx
  replace Vx := Vx.below hx
  replace Vy := Vy.below hx
  replace Vq := Vq.below hx
  replace Vt := Vt.below hx
  replace Vz := Vz.below hx
  replace hb0 := bel_tr hb0 hx
  clear hx
  obtain ⟨vtc0, vtc1, vtc2, vtc3, vtc4, vtc5⟩ := id Vt
  obtain ⟨vac0, vac1, vac2, vac3, vac4, vac5⟩ := id VA
  clear HL
  obtain ⟨t0, hl, hl0⟩ : ∃ u : Int, u = cs t x ∧ 0 ≤ u := ⟨_, rfl, cs_ge.2 HT.out.1⟩
  have HL : Hid (t0 = cs t x) := hl
  clear hl
  go_wp2_with fail
  refine (cmpB t0 _ Gt.tr hA (by omega) (by omega) (by omega) HL.out).mono ?_
  rintro e w39 ⟨rfl, hx⟩
  clear vtc0 vtc1 vtc2 vtc3 vtc4 vtc5 vac0 vac1 vac2 vac3 vac4 vac5
  replace hA := hA.below hx
  replace hB := hB.below hx
  replace hC := hC.below hx
  replace hT := hT.below hx
  replace Gx := Gx.below hx
  replace Gy := Gy.below hx
  replace Gq := Gq.below hx
  replace Gt := Gt.below hx
  replace Gz := Gz.below hx
  replace VA := VA.below hx
  replace VB := VB.below hx
  replace VC := VC.below hx
  replace Vx := Vx.below hx
  replace Vy := Vy.below hx
  replace Vq := Vq.below hx
  replace Vt := Vt.below hx
  replace Vz := Vz.below hx
  replace hb0 := bel_tr hb0 hx
  clear hx
  obtain ⟨vtc0, vtc1, vtc2, vtc3, vtc4, vtc5⟩ := id Vt
  obtain ⟨vbc0, vbc1, vbc2, vbc3, vbc4, vbc5⟩ := id VB
  clear HL
  obtain ⟨t1, hl, hl0⟩ : ∃ u : Int, u = cs t y ∧ 0 ≤ u := ⟨_, rfl, cs_ge.2 HT.out.2.1⟩
  have HL : Hid (t1 = cs t y) := hl
  clear hl
  go_wp2_with fail
  refine (cmpB t1 _ Gt.tr hB (by omega) (by omega) (by omega) HL.out).mono ?_
  rintro e w40 ⟨rfl, hx⟩
  clear vtc0 vtc1 vtc2 vtc3 vtc4 vtc5 vbc0 vbc1 vbc2 vbc3 vbc4 vbc5
  replace hA := hA.below hx
  replace hB := hB.below hx
  replace hC := hC.below hx
  replace hT := hT.below hx
  replace Gx := Gx.below hx
  replace Gy := Gy.below hx
  replace Gq := Gq.below hx
  replace Gt := Gt.below hx
  replace Gz := Gz.below hx
  replace VA := VA.below hx
  replace VB := VB.below hx
  replace VC := VC.below hx
  replace Vx := Vx.below hx
  replace Vy := Vy.below hx
  replace Vq := Vq.below hx
  replace Vt := Vt.below hx
  replace Vz := Vz.below hx
  replace hb0 := bel_tr hb0 hx
  clear hx
  obtain ⟨vtc0, vtc1, vtc2, vtc3, vtc4, vtc5⟩ := id Vt
  obtain ⟨vcc0, vcc1, vcc2, vcc3, vcc4, vcc5⟩ := id VC
  clear HL
  obtain ⟨t2, hl, hl0⟩ : ∃ u : Int, u = cs t z ∧ 0 ≤ u := ⟨_, rfl, cs_ge.2 HT.out.2.2.1⟩
  have HL : Hid (t2 = cs t z) := hl
  clear hl
  go_wp2_with fail
  refine (cmpB t2 _ Gt.tr hC (by omega) (by omega) (by omega) HL.out).mono ?_
  rintro e w41 ⟨rfl, hx⟩
  clear vtc0 vtc1 vtc2 vtc3 vtc4 vtc5 vcc0 vcc1 vcc2 vcc3 vcc4 vcc5
  replace hA := hA.below hx
  replace hB := hB.below hx
  replace hC := hC.below hx
  replace hT := hT.below hx
  replace Gx := Gx.below hx
  replace Gy := Gy.below hx
  replace Gq := Gq.below hx
  replace Gt := Gt.below hx
  replace Gz := Gz.below hx
  replace VA := VA.below hx
  replace VB := VB.below hx
  replace VC := VC.below hx
  replace Vx := Vx.below hx
  replace Vy := Vy.below hx
  replace Vq := Vq.below hx
  replace Vt := Vt.below hx
  replace Vz := Vz.below hx
  replace hb0 := bel_tr hb0 hx
  clear hx
  obtain ⟨vqc0, vqc1, vqc2, vqc3, vqc4, vqc5⟩ := id Vq
  obtain ⟨vxc0, vxc1, vxc2, vxc3, vxc4, vxc5⟩ := id Vx
  clear HL
  clear VA
  clear VB
  clear VC
  clear hA
  clear hB
  clear hC
  clear hT
  rcases eqs HQ.out.2.2.2 with e1 | ⟨e1, e2⟩ | ⟨e1, e2, e3⟩
  · go_wp2_with fail
    refine (sameQ _ Gq Gx (e1) (by omega)).mono ?_
    rintro e w42 ⟨rfl, hx⟩
    clear vqc0 vqc1 vqc2 vqc3 vqc4 vqc5 vxc0 vxc1 vxc2 vxc3 vxc4 vxc5
    replace Gx := Gx.below hx
    replace Gy := Gy.below hx
    replace Gq := Gq.below hx
    replace Gt := Gt.below hx
    replace Gz := Gz.below hx
    replace Vx := Vx.below hx
    replace Vy := Vy.below hx
    replace Vq := Vq.below hx
    replace Vt := Vt.below hx
    replace Vz := Vz.below hx
    replace hb0 := bel_tr hb0 hx
    clear hx
    obtain ⟨vtc0, vtc1, vtc2, vtc3, vtc4, vtc5⟩ := id Vt
    obtain ⟨vxc0, vxc1, vxc2, vxc3, vxc4, vxc5⟩ := id Vx
    rcases eqs HT.out.2.2.2 with e4 | ⟨e4, e5⟩ | ⟨e4, e5, e6⟩
    · go_wp2_with fail
      refine (sameQ _ Gt Gx (e4) (by omega)).mono ?_
      rintro e w43 ⟨rfl, hx⟩
      clear vtc0 vtc1 vtc2 vtc3 vtc4 vtc5 vxc0 vxc1 vxc2 vxc3 vxc4 vxc5
      replace Gx := Gx.below hx
      replace Gy := Gy.below hx
      replace Gq := Gq.below hx
      replace Gt := Gt.below hx
      replace Gz := Gz.below hx
      replace Vx := Vx.below hx
      replace Vy := Vy.below hx
      replace Vq := Vq.below hx
      replace Vt := Vt.below hx
      replace Vz := Vz.below hx
      replace hb0 := bel_tr hb0 hx
      clear hx
      go_wp2
      go_ret
      exact ⟨rfl, hb0⟩
    · go_wp2_with fail
      refine (sameN _ Gt Gx (e4) (by omega) (by omega)).mono ?_
      rintro e w43 ⟨rfl, hx⟩
      clear vtc0 vtc1 vtc2 vtc3 vtc4 vtc5 vxc0 vxc1 vxc2 vxc3 vxc4 vxc5
      replace Gx := Gx.below hx
      replace Gy := Gy.below hx
      replace Gq := Gq.below hx
      replace Gt := Gt.below hx
      replace Gz := Gz.below hx
      replace Vx := Vx.below hx
      replace Vy := Vy.below hx
      replace Vq := Vq.below hx
      replace Vt := Vt.below hx
      replace Vz := Vz.below hx
      replace hb0 := bel_tr hb0 hx
      clear hx
      obtain ⟨vtc0, vtc1, vtc2, vtc3, vtc4, vtc5⟩ := id Vt
      obtain ⟨vyc0, vyc1, vyc2, vyc3, vyc4, vyc5⟩ := id Vy
      go_wp2_with fail
      refine (sameQ _ Gt Gy (e5) (by omega)).mono ?_
      rintro e w44 ⟨rfl, hx⟩
      clear vtc0 vtc1 vtc2 vtc3 vtc4 vtc5 vyc0 vyc1 vyc2 vyc3 vyc4 vyc5
      replace Gx := Gx.below hx
      replace Gy := Gy.below hx
      replace Gq := Gq.below hx
      replace Gt := Gt.below hx
      replace Gz := Gz.below hx
      replace Vx := Vx.below hx
      replace Vy := Vy.below hx
      replace Vq := Vq.below hx
      replace Vt := Vt.below hx
      replace Vz := Vz.below hx
      replace hb0 := bel_tr hb0 hx
      clear hx
      go_wp2
      go_ret
      exact ⟨rfl, hb0⟩
    · go_wp2_with fail
      refine (sameN _ Gt Gx (e4) (by omega) (by omega)).mono ?_
      rintro e w43 ⟨rfl, hx⟩
      clear vtc0 vtc1 vtc2 vtc3 vtc4 vtc5 vxc0 vxc1 vxc2 vxc3 vxc4 vxc5
      replace Gx := Gx.below hx
      replace Gy := Gy.below hx
      replace Gq := Gq.below hx
      replace Gt := Gt.below hx
      replace Gz := Gz.below hx
      replace Vx := Vx.below hx
      replace Vy := Vy.below hx
      replace Vq := Vq.below hx
      replace Vt := Vt.below hx
      replace Vz := Vz.below hx
      replace hb0 := bel_tr hb0 hx
      clear hx
      obtain ⟨vtc0, vtc1, vtc2, vtc3, vtc4, vtc5⟩ := id Vt
      obtain ⟨vyc0, vyc1, vyc2, vyc3, vyc4, vyc5⟩ := id Vy
      go_wp2_with fail
      refine (sameN _ Gt Gy (e5) (by omega) (by omega)).mono ?_
      rintro e w44 ⟨rfl, hx⟩
      clear vtc0 vtc1 vtc2 vtc3 vtc4 vtc5 vyc0 vyc1 vyc2 vyc3 vyc4 vyc5
      replace Gx := Gx.below hx
      replace Gy := Gy.below hx
      replace Gq := Gq.below hx
      replace Gt := Gt.below hx
      replace Gz := Gz.below hx
      replace Vx := Vx.below hx
      replace Vy := Vy.below hx
      replace Vq := Vq.below hx
      replace Vt := Vt.below hx
      replace Vz := Vz.below hx
      replace hb0 := bel_tr hb0 hx
      clear hx
      obtain ⟨vtc0, vtc1, vtc2, vtc3, vtc4, vtc5⟩ := id Vt
      obtain ⟨vzc0, vzc1, vzc2, vzc3, vzc4, vzc5⟩ := id Vz
      go_wp2_with fail
      refine (sameQ _ Gt Gz (e6) (by omega)).mono ?_
      rintro e w45 ⟨rfl, hx⟩
      clear vtc0 vtc1 vtc2 vtc3 vtc4 vtc5 vzc0 vzc1 vzc2 vzc3 vzc4 vzc5
      replace Gx := Gx.below hx
      replace Gy := Gy.below hx
      replace Gq := Gq.below hx
      replace Gt := Gt.below hx
      replace Gz := Gz.below hx
      replace Vx := Vx.below hx
      replace Vy := Vy.below hx
      replace Vq := Vq.below hx
      replace Vt := Vt.below hx
      replace Vz := Vz.below hx
      replace hb0 := bel_tr hb0 hx
      clear hx
      go_wp2
      go_ret
      exact ⟨rfl, hb0⟩
  · go_wp2_with fail
    refine (sameN _ Gq Gx (e1) (by omega) (by omega)).mono ?_
    rintro e w42 ⟨rfl, hx⟩
    clear vqc0 vqc1 vqc2 vqc3 vqc4 vqc5 vxc0 vxc1 vxc2 vxc3 vxc4 vxc5
    replace Gx := Gx.below hx
    replace Gy := Gy.below hx
    replace Gq := Gq.below hx
    replace Gt := Gt.below hx
    replace Gz := Gz.below hx
    replace Vx := Vx.below hx
    replace Vy := Vy.below hx
    replace Vq := Vq.below hx
    replace Vt := Vt.below hx
    replace Vz := Vz.below hx
    replace hb0 := bel_tr hb0 hx
    clear hx
    obtain ⟨vqc0, vqc1, vqc2, vqc3, vqc4, vqc5⟩ := id Vq
    obtain ⟨vyc0, vyc1, vyc2, vyc3, vyc4, vyc5⟩ := id Vy
    go_wp2_with fail
    refine (sameQ _ Gq Gy (e2) (by omega)).mono ?_
    rintro e w43 ⟨rfl, hx⟩
    clear vqc0 vqc1 vqc2 vqc3 vqc4 vqc5 vyc0 vyc1 vyc2 vyc3 vyc4 vyc5
    replace Gx := Gx.below hx
    replace Gy := Gy.below hx
    replace Gq := Gq.below hx
    replace Gt := Gt.below hx
    replace Gz := Gz.below hx
    replace Vx := Vx.below hx
    replace Vy := Vy.below hx
    replace Vq := Vq.below hx
    replace Vt := Vt.below hx
    replace Vz := Vz.below hx
    replace hb0 := bel_tr hb0 hx
    clear hx
    obtain ⟨vtc0, vtc1, vtc2, vtc3, vtc4, vtc5⟩ := id Vt
    obtain ⟨vxc0, vxc1, vxc2, vxc3, vxc4, vxc5⟩ := id Vx
    rcases eqs HT.out.2.2.2 with e4 | ⟨e4, e5⟩ | ⟨e4, e5, e6⟩
    · go_wp2_with fail
      refine (sameQ _ Gt Gx (e4) (by omega)).mono ?_
      rintro e w44 ⟨rfl, hx⟩
      clear vtc0 vtc1 vtc2 vtc3 vtc4 vtc5 vxc0 vxc1 vxc2 vxc3 vxc4 vxc5
      replace Gx := Gx.below hx
      replace Gy := Gy.below hx
      replace Gq := Gq.below hx
      replace Gt := Gt.below hx
      replace Gz := Gz.below hx
      replace Vx := Vx.below hx
      replace Vy := Vy.below hx
      replace Vq := Vq.below hx
      replace Vt := Vt.below hx
      replace Vz := Vz.below hx
      replace hb0 := bel_tr hb0 hx
      clear hx
      go_wp2
      go_ret
      exact ⟨rfl, hb0⟩
    · go_wp2_with fail
      refine (sameN _ Gt Gx (e4) (by omega) (by omega)).mono ?_
      rintro e w44 ⟨rfl, hx⟩
      clear vtc0 vtc1 vtc2 vtc3 vtc4 vtc5 vxc0 vxc1 vxc2 vxc3 vxc4 vxc5
      replace Gx := Gx.below hx
      replace Gy := Gy.below hx
      replace Gq := Gq.below hx
      replace Gt := Gt.below hx
      replace Gz := Gz.below hx
      replace Vx := Vx.below hx
      replace Vy := Vy.below hx
      replace Vq := Vq.below hx
      replace Vt := Vt.below hx
      replace Vz := Vz.below hx
      replace hb0 := bel_tr hb0 hx
      clear hx
      obtain ⟨vtc0, vtc1, vtc2, vtc3, vtc4, vtc5⟩ := id Vt
      obtain ⟨vyc0, vyc1, vyc2, vyc3, vyc4, vyc5⟩ := id Vy
      go_wp2_with fail
      refine (sameQ _ Gt Gy (e5) (by omega)).mono ?_
      rintro e w45 ⟨rfl, hx⟩
      clear vtc0 vtc1 vtc2 vtc3 vtc4 vtc5 vyc0 vyc1 vyc2 vyc3 vyc4 vyc5
      replace Gx := Gx.below hx
      replace Gy := Gy.below hx
      replace Gq := Gq.below hx
      replace Gt := Gt.below hx
      replace Gz := Gz.below hx
      replace Vx := Vx.below hx
      replace Vy := Vy.below hx
      replace Vq := Vq.below hx
      replace Vt := Vt.below hx
      replace Vz := Vz.below hx
      replace hb0 := bel_tr hb0 hx
      clear hx
      go_wp2
      go_ret
      exact ⟨rfl, hb0⟩
    · go_wp2_with fail
      refine (sameN _ Gt Gx (e4) (by omega) (by omega)).mono ?_
      rintro e w44 ⟨rfl, hx⟩
      clear vtc0 vtc1 vtc2 vtc3 vtc4 vtc5 vxc0 vxc1 vxc2 vxc3 vxc4 vxc5
      replace Gx := Gx.below hx
      replace Gy := Gy.below hx
      replace Gq := Gq.below hx
      replace Gt := Gt.below hx
      replace Gz := Gz.below hx
      replace Vx := Vx.below hx
      replace Vy := Vy.below hx
      replace Vq := Vq.below hx
      replace Vt := Vt.below hx
      replace Vz := Vz.below hx
      replace hb0 := bel_tr hb0 hx
      clear hx
      obtain ⟨vtc0, vtc1, vtc2, vtc3, vtc4, vtc5⟩ := id Vt
      obtain ⟨vyc0, vyc1, vyc2, vyc3, vyc4, vyc5⟩ := id Vy
      go_wp2_with fail
      refine (sameN _ Gt Gy (e5) (by omega) (by omega)).mono ?_
      rintro e w45 ⟨rfl, hx⟩
      clear vtc0 vtc1 vtc2 vtc3 vtc4 vtc5 vyc0 vyc1 vyc2 vyc3 vyc4 vyc5
      replace Gx := Gx.below hx
      replace Gy := Gy.below hx
      replace Gq := Gq.below hx
      replace Gt := Gt.below hx
      replace Gz := Gz.below hx
      replace Vx := Vx.below hx
      replace Vy := Vy.below hx
      replace Vq := Vq.below hx
      replace Vt := Vt.below hx
      replace Vz := Vz.below hx
      replace hb0 := bel_tr hb0 hx
      clear hx
      obtain ⟨vtc0, vtc1, vtc2, vtc3, vtc4, vtc5⟩ := id Vt
      obtain ⟨vzc0, vzc1, vzc2, vzc3, vzc4, vzc5⟩ := id Vz
      go_wp2_with fail
      refine (sameQ _ Gt Gz (e6) (by omega)).mono ?_
      rintro e w46 ⟨rfl, hx⟩
      clear vtc0 vtc1 vtc2 vtc3 vtc4 vtc5 vzc0 vzc1 vzc2 vzc3 vzc4 vzc5
      replace Gx := Gx.below hx
      replace Gy := Gy.below hx
      replace Gq := Gq.below hx
      replace Gt := Gt.below hx
      replace Gz := Gz.below hx
      replace Vx := Vx.below hx
      replace Vy := Vy.below hx
      replace Vq := Vq.below hx
      replace Vt := Vt.below hx
      replace Vz := Vz.below hx
      replace hb0 := bel_tr hb0 hx
      clear hx
      go_wp2
      go_ret
      exact ⟨rfl, hb0⟩
  · go_wp2_with fail
    refine (sameN _ Gq Gx (e1) (by omega) (by omega)).mono ?_
    rintro e w42 ⟨rfl, hx⟩
    clear vqc0 vqc1 vqc2 vqc3 vqc4 vqc5 vxc0 vxc1 vxc2 vxc3 vxc4 vxc5
    replace Gx := Gx.below hx
    replace Gy := Gy.below hx
    replace Gq := Gq.below hx
    replace Gt := Gt.below hx
    replace Gz := Gz.below hx
    replace Vx := Vx.below hx
    replace Vy := Vy.below hx
    replace Vq := Vq.below hx
    replace Vt := Vt.below hx
    replace Vz := Vz.below hx
    replace hb0 := bel_tr hb0 hx
    clear hx
    obtain ⟨vqc0, vqc1, vqc2, vqc3, vqc4, vqc5⟩ := id Vq
    obtain ⟨vyc0, vyc1, vyc2, vyc3, vyc4, vyc5⟩ := id Vy
    go_wp2_with fail
    refine (sameN _ Gq Gy (e2) (by omega) (by omega)).mono ?_
    rintro e w43 ⟨rfl, hx⟩
    clear vqc0 vqc1 vqc2 vqc3 vqc4 vqc5 vyc0 vyc1 vyc2 vyc3 vyc4 vyc5
    replace Gx := Gx.below hx
    replace Gy := Gy.below hx
    replace Gq := Gq.below hx
    replace Gt := Gt.below hx
    replace Gz := Gz.below hx
    replace Vx := Vx.below hx
    replace Vy := Vy.below hx
    replace Vq := Vq.below hx
    replace Vt := Vt.below hx
    replace Vz := Vz.below hx
    replace hb0 := bel_tr hb0 hx
    clear hx
    obtain ⟨vqc0, vqc1, vqc2, vqc3, vqc4, vqc5⟩ := id Vq
    obtain ⟨vzc0, vzc1, vzc2, vzc3, vzc4, vzc5⟩ := id Vz
    go_wp2_with fail
    refine (sameQ _ Gq Gz (e3) (by omega)).mono ?_
    rintro e w44 ⟨rfl, hx⟩
    clear vqc0 vqc1 vqc2 vqc3 vqc4 vqc5 vzc0 vzc1 vzc2 vzc3 vzc4 vzc5
    replace Gx := Gx.below hx
    replace Gy := Gy.below hx
    replace Gq := Gq.below hx
    replace Gt := Gt.below hx
    replace Gz := Gz.below hx
    replace Vx := Vx.below hx
    replace Vy := Vy.below hx
    replace Vq := Vq.below hx
    replace Vt := Vt.below hx
    replace Vz := Vz.below hx
    replace hb0 := bel_tr hb0 hx
    clear hx
    obtain ⟨vtc0, vtc1, vtc2, vtc3, vtc4, vtc5⟩ := id Vt
    obtain ⟨vxc0, vxc1, vxc2, vxc3, vxc4, vxc5⟩ := id Vx
    rcases eqs HT.out.2.2.2 with e4 | ⟨e4, e5⟩ | ⟨e4, e5, e6⟩
    · go_wp2_with fail
      refine (sameQ _ Gt Gx (e4) (by omega)).mono ?_
      rintro e w45 ⟨rfl, hx⟩
      clear vtc0 vtc1 vtc2 vtc3 vtc4 vtc5 vxc0 vxc1 vxc2 vxc3 vxc4 vxc5
      replace Gx := Gx.below hx
      replace Gy := Gy.below hx
      replace Gq := Gq.below hx
      replace Gt := Gt.below hx
      replace Gz := Gz.below hx
      replace Vx := Vx.below hx
      replace Vy := Vy.below hx
      replace Vq := Vq.below hx
      replace Vt := Vt.below hx
      replace Vz := Vz.below hx
      replace hb0 := bel_tr hb0 hx
      clear hx
      go_wp2
      go_ret
      exact ⟨rfl, hb0⟩
    · go_wp2_with fail
      refine (sameN _ Gt Gx (e4) (by omega) (by omega)).mono ?_
      rintro e w45 ⟨rfl, hx⟩
      clear vtc0 vtc1 vtc2 vtc3 vtc4 vtc5 vxc0 vxc1 vxc2 vxc3 vxc4 vxc5
      replace Gx := Gx.below hx
      replace Gy := Gy.below hx
      replace Gq := Gq.below hx
      replace Gt := Gt.below hx
      replace Gz := Gz.below hx
      replace Vx := Vx.below hx
      replace Vy := Vy.below hx
      replace Vq := Vq.below hx
      replace Vt := Vt.below hx
      replace Vz := Vz.below hx
      replace hb0 := bel_tr hb0 hx
      clear hx
      obtain ⟨vtc0, vtc1, vtc2, vtc3, vtc4, vtc5⟩ := id Vt
      obtain ⟨vyc0, vyc1, vyc2, vyc3, vyc4, vyc5⟩ := id Vy
      go_wp2_with fail
      refine (sameQ _ Gt Gy (e5) (by omega)).mono ?_
      rintro e w46 ⟨rfl, hx⟩
      clear vtc0 vtc1 vtc2 vtc3 vtc4 vtc5 vyc0 vyc1 vyc2 vyc3 vyc4 vyc5
      replace Gx := Gx.below hx
      replace Gy := Gy.below hx
      replace Gq := Gq.below hx
      replace Gt := Gt.below hx
      replace Gz := Gz.below hx
      replace Vx := Vx.below hx
      replace Vy := Vy.below hx
      replace Vq := Vq.below hx
      replace Vt := Vt.below hx
      replace Vz := Vz.below hx
      replace hb0 := bel_tr hb0 hx
      clear hx
      go_wp2
      go_ret
      exact ⟨rfl, hb0⟩
    · go_wp2_with fail
      refine (sameN _ Gt Gx (e4) (by omega) (by omega)).mono ?_
      rintro e w45 ⟨rfl, hx⟩
      clear vtc0 vtc1 vtc2 vtc3 vtc4 vtc5 vxc0 vxc1 vxc2 vxc3 vxc4 vxc5
      replace Gx := Gx.below hx
      replace Gy := Gy.below hx
      replace Gq := Gq.below hx
      replace Gt := Gt.below hx
      replace Gz := Gz.below hx
      replace Vx := Vx.below hx
      replace Vy := Vy.below hx
      replace Vq := Vq.below hx
      replace Vt := Vt.below hx
      replace Vz := Vz.below hx
      replace hb0 := bel_tr hb0 hx
      clear hx
      obtain ⟨vtc0, vtc1, vtc2, vtc3, vtc4, vtc5⟩ := id Vt
      obtain ⟨vyc0, vyc1, vyc2, vyc3, vyc4, vyc5⟩ := id Vy
      go_wp2_with fail
      refine (sameN _ Gt Gy (e5) (by omega) (by omega)).mono ?_
      rintro e w46 ⟨rfl, hx⟩
      clear vtc0 vtc1 vtc2 vtc3 vtc4 vtc5 vyc0 vyc1 vyc2 vyc3 vyc4 vyc5
      replace Gx := Gx.below hx
      replace Gy := Gy.below hx
      replace Gq := Gq.below hx
      replace Gt := Gt.below hx
      replace Gz := Gz.below hx
      replace Vx := Vx.below hx
      replace Vy := Vy.below hx
      replace Vq := Vq.below hx
      replace Vt := Vt.below hx
      replace Vz := Vz.below hx
      replace hb0 := bel_tr hb0 hx
      clear hx
      obtain ⟨vtc0, vtc1, vtc2, vtc3, vtc4, vtc5⟩ := id Vt
      obtain ⟨vzc0, vzc1, vzc2, vzc3, vzc4, vzc5⟩ := id Vz
      go_wp2_with fail
      refine (sameQ _ Gt Gz (e6) (by omega)).mono ?_
      rintro e w47 ⟨rfl, hx⟩
      clear vtc0 vtc1 vtc2 vtc3 vtc4 vtc5 vzc0 vzc1 vzc2 vzc3 vzc4 vzc5
      replace Gx := Gx.below hx
      replace Gy := Gy.below hx
      replace Gq := Gq.below hx
      replace Gt := Gt.below hx
      replace Gz := Gz.below hx
      replace Vx := Vx.below hx
      replace Vy := Vy.below hx
      replace Vq := Vq.below hx
      replace Vt := Vt.below hx
      replace Vz := Vz.below hx
      replace hb0 := bel_tr hb0 hx
      clear hx
      go_wp2
      go_ret
      exact ⟨rfl, hb0⟩
  all_goals (exfalso; omega)
end Go.Proofs.YtpngkbljalnfjaaGreatDoor

import Derived.Test.YtkbbdfflodiddabDoorWhEAll
namespace Go.Proofs.YtkbbdfflodiddabDoor
open Go.RowKit

set_option maxHeartbeats 1000000 in
/-- Some of the document's examples. -/
theorem awakeI (w : World) : Calls Tryd.prog 6 #[] w fun e w' => e = .returned (.bool true) ∧ Below w.heap.size w w' := by
  go_enter Tryd.func6, Tryd.ntmps6
  go_wp2_with fail
  refine (ofI (-7) _ (by omega) (by omega)).mono ?_
  rintro e w1 ⟨u, rfl, GA, hb0⟩
  obtain ⟨c0, n0, d0, rfl, KA⟩ := id GA
  go_wp2_with fail
  refine (ofI 2 _ (by omega) (by omega)).mono ?_
  rintro e w2 ⟨u, rfl, GB, hb1⟩
  obtain ⟨c1, n1, d1, rfl, KB⟩ := id GB
  replace hb0 := bel_tr hb0 hb1
  go_wp2_with fail
  refine (divI _ _ _ (KA.below hb1).num KB.num (by omega) (by omega) (by decide)).mono ?_
  rintro e w3 ⟨q, r, rfl, GQ, GR, hb2⟩
  replace GQ := GQ.val (show _ = (-4 : Int) by decide)
  replace GR := GR.val (show _ = (1 : Int) by decide)
  obtain ⟨c2, n2, d2, rfl, KQ⟩ := id GQ
  obtain ⟨c3, n3, d3, rfl, KR⟩ := id GR
  replace hb0 := bel_tr hb0 hb2
  clear GA GB KA KB hb1 hb2
  obtain ⟨Vq, Vr, hx, hsx⟩ := box2 w3 (.bool true) (.slice c2 n2 d2) (.bool false) (.slice c3 n3 d3) 30
  go_wp2_with fail
  generalize (w3.alloc (.cells #[.bool true, .slice c2 n2 d2] 30)).alloc (.cells #[.bool false, .slice c3 n3 d3] 30) = w4 at *
  replace GQ : GI w4 _ (.agg #[.bool true, .slice c2 n2 d2]) (-4) _ := GQ.below hx
  replace GR : GI w4 _ (.agg #[.bool false, .slice c3 n3 d3]) 1 _ := GR.below hx
  replace hb0 := bel_tr hb0 hx
  clear hx hsx KQ KR
  refine (parse7 _).mono ?_
  rintro e w5 ⟨v, rfl, GP, hb⟩
  obtain ⟨c4, n4, d4, rfl, KP⟩ := id GP
  replace Vq := Vq.below hb
  replace Vr := Vr.below hb
  replace GQ := GQ.below hb
  replace GR := GR.below hb
  replace hb0 := bel_tr hb0 hb
  clear hb KP
  obtain ⟨Vp, hx, hsx⟩ := box1 w5 (.bool true) (.slice c4 n4 d4) 30
  go_wp2_with fail
  generalize w5.alloc (.cells #[.bool true, .slice c4 n4 d4] 30) = w6 at *
  replace GP : GI w6 _ (.agg #[.bool true, .slice c4 n4 d4]) (-7) _ := GP.below hx
  replace Vq := Vq.below hx
  replace Vr := Vr.below hx
  replace GQ := GQ.below hx
  replace GR := GR.below hx
  replace hb0 := bel_tr hb0 hx
  clear hx hsx
  refine (ofI (-3) _ (by omega) (by omega)).mono ?_
  rintro e wa1 ⟨u, rfl, GA, ha⟩
  obtain ⟨ca, na, da, rfl, KA⟩ := id GA
  go_wp2_with fail
  refine (ofI 5 _ (by omega) (by omega)).mono ?_
  rintro e wb1 ⟨u, rfl, GB, hbb⟩
  obtain ⟨cb, nb, db, rfl, KB⟩ := id GB
  go_wp2_with fail
  refine (addI _ _ _ (KA.below hbb).num KB.num (by omega) (by omega)).mono ?_
  rintro e wc1 ⟨u, rfl, Gs, hc⟩
  replace Gs := Gs.val (show _ = (2 : Int) by decide)
  obtain ⟨c51, n51, d51, rfl, KX⟩ := id Gs
  have hb := bel_tr ha (bel_tr hbb hc)
  replace Vq := Vq.below hb
  replace Vr := Vr.below hb
  replace Vp := Vp.below hb
  replace GQ := GQ.below hb
  replace GR := GR.below hb
  replace GP := GP.below hb
  replace hb0 := bel_tr hb0 hb
  clear ha hbb hc hb GA GB KA KB KX
  obtain ⟨Vs, hx, hsx⟩ := box1 wc1 (.bool false) (.slice c51 n51 d51) 30
  go_wp2_with fail
  generalize wc1.alloc (.cells #[.bool false, .slice c51 n51 d51] 30) = we1 at *
  replace Gs : GI we1 _ (.agg #[.bool false, .slice c51 n51 d51]) (2) _ := Gs.below hx
  replace Vq := Vq.below hx
  replace Vr := Vr.below hx
  replace Vp := Vp.below hx
  replace GQ := GQ.below hx
  replace GR := GR.below hx
  replace GP := GP.below hx
  replace hb0 := bel_tr hb0 hx
  clear hx hsx
  refine (ofI (-3) _ (by omega) (by omega)).mono ?_
  rintro e wa2 ⟨u, rfl, GA, ha⟩
  obtain ⟨ca, na, da, rfl, KA⟩ := id GA
  go_wp2_with fail
  refine (ofI 5 _ (by omega) (by omega)).mono ?_
  rintro e wb2 ⟨u, rfl, GB, hbb⟩
  obtain ⟨cb, nb, db, rfl, KB⟩ := id GB
  go_wp2_with fail
  refine (mulI _ _ _ (KA.below hbb).num KB.num (by omega) (by omega)).mono ?_
  rintro e wc2 ⟨u, rfl, Gm, hc⟩
  replace Gm := Gm.val (show _ = (-15 : Int) by decide)
  obtain ⟨c52, n52, d52, rfl, KX⟩ := id Gm
  have hb := bel_tr ha (bel_tr hbb hc)
  replace Vq := Vq.below hb
  replace Vr := Vr.below hb
  replace Vp := Vp.below hb
  replace Vs := Vs.below hb
  replace GQ := GQ.below hb
  replace GR := GR.below hb
  replace GP := GP.below hb
  replace Gs := Gs.below hb
  replace hb0 := bel_tr hb0 hb
  clear ha hbb hc hb GA GB KA KB KX
  obtain ⟨Vm, hx, hsx⟩ := box1 wc2 (.bool true) (.slice c52 n52 d52) 30
  obtain ⟨x0, x1, _, _⟩ := id (Vq.below hx)
  go_wp2_with fail
  generalize wc2.alloc (.cells #[.bool true, .slice c52 n52 d52] 30) = we2 at *
  replace Gm : GI we2 _ (.agg #[.bool true, .slice c52 n52 d52]) (-15) _ := Gm.below hx
  replace Vq := Vq.below hx
  replace Vr := Vr.below hx
  replace Vp := Vp.below hx
  replace Vs := Vs.below hx
  replace GQ := GQ.below hx
  replace GR := GR.below hx
  replace GP := GP.below hx
  replace Gs := Gs.below hx
  replace hb0 := bel_tr hb0 hx
  clear hx hsx
  refine (textK _ GQ (by omega) tm4).mono ?_
  rintro e wt1 ⟨rfl, hb⟩
  replace Vq := Vq.below hb
  replace Vr := Vr.below hb
  replace Vp := Vp.below hb
  replace Vs := Vs.below hb
  replace Vm := Vm.below hb
  replace GQ := GQ.below hb
  replace GR := GR.below hb
  replace GP := GP.below hb
  replace Gs := Gs.below hb
  replace Gm := Gm.below hb
  replace hb0 := bel_tr hb0 hb
  clear hb x0 x1
  obtain ⟨x0, x1, _, _⟩ := id Vr
  go_wp2_with fail
  refine (textK _ GR (by omega) tp1).mono ?_
  rintro e wt2 ⟨rfl, hb⟩
  replace Vq := Vq.below hb
  replace Vr := Vr.below hb
  replace Vp := Vp.below hb
  replace Vs := Vs.below hb
  replace Vm := Vm.below hb
  replace GQ := GQ.below hb
  replace GR := GR.below hb
  replace GP := GP.below hb
  replace Gs := Gs.below hb
  replace Gm := Gm.below hb
  replace hb0 := bel_tr hb0 hb
  clear hb x0 x1
  obtain ⟨x0, x1, _, _⟩ := id Vp
  go_wp2_with fail
  refine (textK _ GP (by omega) tm7).mono ?_
  rintro e wt3 ⟨rfl, hb⟩
  replace Vq := Vq.below hb
  replace Vr := Vr.below hb
  replace Vp := Vp.below hb
  replace Vs := Vs.below hb
  replace Vm := Vm.below hb
  replace GQ := GQ.below hb
  replace GR := GR.below hb
  replace GP := GP.below hb
  replace Gs := Gs.below hb
  replace Gm := Gm.below hb
  replace hb0 := bel_tr hb0 hb
  clear hb x0 x1
  obtain ⟨x0, x1, _, _⟩ := id Vs
  go_wp2_with fail
  refine (textK _ Gs (by omega) tp2).mono ?_
  rintro e wt4 ⟨rfl, hb⟩
  replace Vq := Vq.below hb
  replace Vr := Vr.below hb
  replace Vp := Vp.below hb
  replace Vs := Vs.below hb
  replace Vm := Vm.below hb
  replace GQ := GQ.below hb
  replace GR := GR.below hb
  replace GP := GP.below hb
  replace Gs := Gs.below hb
  replace Gm := Gm.below hb
  replace hb0 := bel_tr hb0 hb
  clear hb x0 x1
  obtain ⟨x0, x1, _, _⟩ := id Vm
  go_wp2_with fail
  refine (textK _ Gm (by omega) tm15).mono ?_
  rintro e wt5 ⟨rfl, hb⟩
  replace Vq := Vq.below hb
  replace Vr := Vr.below hb
  replace Vp := Vp.below hb
  replace Vs := Vs.below hb
  replace Vm := Vm.below hb
  replace GQ := GQ.below hb
  replace GR := GR.below hb
  replace GP := GP.below hb
  replace Gs := Gs.below hb
  replace Gm := Gm.below hb
  replace hb0 := bel_tr hb0 hb
  clear hb x0 x1
  obtain ⟨x0, x1, _, _⟩ := id Vq
  obtain ⟨y0, y1, _, _⟩ := id Vr
  go_wp2_with fail
  have hsg := signI true wt5 GQ.parts.2.num (by omega)
  rw [show (ws true (((-4 : Int).natAbs : Nat) : Int)).sign = -1 by decide] at hsg
  refine hsg.mono ?_
  rintro e wt6 ⟨rfl, hb⟩
  replace Vq := Vq.below hb
  replace Vr := Vr.below hb
  replace GQ := GQ.below hb
  replace GR := GR.below hb
  replace hb0 := bel_tr hb0 hb
  clear hb hsg x0 x1 y0 y1
  obtain ⟨x0, x1, _, _⟩ := id Vq
  obtain ⟨y0, y1, _, _⟩ := id Vr
  go_wp2_with fail
  have hcm := wcmpI true false wt6 GQ.parts.2.num GR.parts.2.num (by omega) (by omega)
  rw [show (ws true (((-4 : Int).natAbs : Nat) : Int) - ws false (((1 : Int).natAbs : Nat) : Int)).sign = -1 by decide] at hcm
  refine hcm.mono ?_
  rintro e wt7 ⟨rfl, hb⟩
  replace hb0 := bel_tr hb0 hb
  clear hb hcm x0 x1 y0 y1
  go_wp2
  go_ret
  exact ⟨rfl, hb0⟩
end Go.Proofs.YtkbbdfflodiddabDoor

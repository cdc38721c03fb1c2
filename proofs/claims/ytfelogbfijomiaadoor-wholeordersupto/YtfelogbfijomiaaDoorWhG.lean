import Derived.Test.YtfelogbfijomiaaDoorWhF
import Derived.Test.YtfelogbfijomiaaDoorParse
namespace Go.Proofs.YtfelogbfijomiaaDoor
open Go.RowKit

set_option maxHeartbeats 1000000 in
theorem cut7 (w : World) :
    Calls Tryd.prog 70 #[.string ⟨#[45, 48, 48, 55]⟩] w fun e w' => e = .returned (.tuple #[.bool true, .string ⟨#[48, 48, 55]⟩]) ∧ Below w.heap.size w w' := by
  have hby := byt_get (s := ⟨#[45, 48, 48, 55]⟩) (k := 0) (by decide)
  rw [show byt ⟨#[45, 48, 48, 55]⟩ 0 = 45 by decide] at hby
  go_enter Tryd.func70, Tryd.ntmps70
  go_wp2
  go_region
  go_wp2
  go_ret2
  exact ⟨rfl, (Below.refl _ _).drew⟩
theorem digs7 : Digs ⟨#[48, 48, 55]⟩ 3 := by
  intro i hi
  rcases (by omega : i = 0 ∨ i = 1 ∨ i = 2) with rfl | rfl | rfl <;> decide
theorem rd7 : rdF ⟨#[48, 48, 55]⟩ 0 3 = 7 := by decide
set_option maxHeartbeats 1000000 in
theorem parse7 (w : World) :
    Calls Tryd.prog 43 #[.string ⟨#[45, 48, 48, 55]⟩] w fun e w' => ∃ v, e = .returned (.tuple #[v, .nilIface]) ∧ GI w' w.heap.size v (-7) 3 ∧ Below w.heap.size w w' := by
  obtain ⟨R0, hb0, hsz⟩ := box1 w (.bool false) (.slice none 0 0) 25
  go_enter Tryd.func43, Tryd.ntmps43
  go_wp2_with fail
  generalize w.alloc (.cells #[.bool false, .slice none 0 0] 25) = W0 at *
  refine (cut7 _).mono ?_
  rintro e w1 ⟨rfl, hb1⟩
  replace R0 := R0.below hb1
  replace hb0 := bel_tr hb0 hb1
  have hs1 := hb1.size
  clear hb1
  go_wp2_with fail
  refine (parse_yes _ _ (by decide) digs7 (by decide)).mono ?_
  rintro e w2 ⟨c1, n1, d1, rfl, G, hb2⟩
  replace R0 := R0.below hb2
  replace hb0 := bel_tr hb0 hb2
  have hs2 := hb2.size
  clear hb2
  go_wp2_with fail
  refine (signed_any _ _ _ _ _).mono ?_
  rintro e w3 ⟨rfl, hb3⟩
  replace R0 := R0.below hb3
  have hw2 := bel_tr hb0 hb3
  have GF : GI w3 w1.heap.size _ (-7) 3 := ((G.gi true).below hb3).val (by show ws true (rdF _ 0 3) = -7; rw [rd7]; rfl)
  obtain ⟨r0, r1, r2, r3⟩ := id R0
  obtain ⟨V, O⟩ := R0.set (.bool (decide (0 < n1))) (.slice c1 n1 d1)
  clear hb3 hb0 G
  go_wp2
  refine bodyPost_ret (v := .tuple #[.agg #[.bool (decide (0 < n1)), .slice c1 n1 d1], .nilIface]) (by simp [results, Tryd.results43, go_sem, V.c0, V.c1]) rfl ⟨_, rfl, ((GF.off O (by omega)).mono (by omega)), hw2.trans (O.below (by omega))⟩
theorem decs_small {v : Nat} (h : v ≠ 0) (h9 : v < 10) : decs v = [(v : Int)] := by
  rw [decs_pos h, show v / 10 = 0 by omega, decs_zero, show v % 10 = v by omega]
theorem txt_small {v : Nat} (h : v ≠ 0) (h9 : v < 10) : txt v = strOfNums [48 + (v : Int)] := by
  unfold txt
  rw [if_neg h, decs_small h h9]; rfl
theorem tm4 : txtI (-4) = ⟨#[45, 52]⟩ := by
  unfold txtI
  rw [if_pos (by decide), txt_small (by decide) (by decide)]; rfl
theorem tm7 : txtI (-7) = ⟨#[45, 55]⟩ := by
  unfold txtI
  rw [if_pos (by decide), txt_small (by decide) (by decide)]; rfl
theorem tp1 : txtI 1 = ⟨#[49]⟩ := by
  unfold txtI
  rw [if_neg (by decide), txt_small (by decide) (by decide)]; rfl
theorem tp2 : txtI 2 = ⟨#[50]⟩ := by
  unfold txtI
  rw [if_neg (by decide), txt_small (by decide) (by decide)]; rfl
theorem tm15 : txtI (-15) = ⟨#[45, 49, 53]⟩ := by
  unfold txtI txt
  rw [if_pos (by decide), if_neg (by decide), decs_pos (by decide), decs_small (by decide) (by decide)]; rfl
theorem GI.parts {w : World} {B : Nat} {b : Bool} {c : Option Addr} {n d : Nat} {x : Int} {S : Nat} (h : GI w B (.agg #[.bool b, .slice c n d]) x S) : b = decide (x < 0) ∧ Got w B (.slice c n d) (x.natAbs : Int) S := by
  obtain ⟨a', n', c', h1, h2⟩ := h
  simp only [Value.agg.injEq, Array.mk.injEq, List.cons.injEq, Value.bool.injEq, and_true] at h1
  obtain ⟨h0, h1⟩ := h1
  rw [← h1] at h2
  exact ⟨h0, h2⟩
/-- whole.Text of a number that is known. -/
theorem textK {x : Int} {b : Bool} {c : Option Addr} {n d B S : Nat} {s : ByteArray} (w : World) (h : GI w B (.agg #[.bool b, .slice c n d]) x S) (hS : S ≤ 10000000000) (hs : txtI x = s) :
    Calls Tryd.prog 44 #[.agg #[.bool b, .slice c n d]] w fun e w' => e = .returned (.string s) ∧ Below w.heap.size w w' := by
  obtain ⟨a', n', c', h1, h2⟩ := h
  simp only [Value.agg.injEq, Array.mk.injEq, List.cons.injEq, Value.bool.injEq, and_true] at h1
  obtain ⟨rfl, h1⟩ := h1
  rw [← h1] at h2
  have := textI (decide (x < 0)) w h2.num hS
  rw [ws_sign, hs] at this
  exact this
set_option maxHeartbeats 1000000 in
/-- Some of the document's examples. -/
theorem awakeI (w : World) : Calls Tryd.prog 9 #[] w fun e w' => e = .returned (.bool true) ∧ Below w.heap.size w w' := by
  go_enter Tryd.func9, Tryd.ntmps9
  go_wp2_with fail
  refine (ofI (-7) _ (by omega) (by omega)).mono ?_
  rintro e w1 ⟨u, rfl, GA, hb0⟩
  obtain ⟨c0, n0, d0, rfl, KA⟩ := id GA
  go_wp2_with fail
  refine (ofI 2 _ (by omega) (by omega)).mono ?_
  rintro e w2 ⟨u, rfl, GB, hb1⟩
  obtain ⟨c1, n1, d1, rfl, KB⟩ := id GB
  replace hb0 := bel_tr hb0 hb1
  go_wp2_with fail
  refine (divI _ _ _ (KA.below hb1).num KB.num (by omega) (by omega) (by decide)).mono ?_
  rintro e w3 ⟨q, r, rfl, GQ, GR, hb2⟩
  replace GQ := GQ.val (show _ = (-4 : Int) by decide)
  replace GR := GR.val (show _ = (1 : Int) by decide)
  obtain ⟨c2, n2, d2, rfl, KQ⟩ := id GQ
  obtain ⟨c3, n3, d3, rfl, KR⟩ := id GR
  replace hb0 := bel_tr hb0 hb2
  clear GA GB KA KB hb1 hb2
  obtain ⟨Vq, Vr, hx, hsx⟩ := box2 w3 (.bool true) (.slice c2 n2 d2) (.bool false) (.slice c3 n3 d3) 25
  go_wp2_with fail
  generalize (w3.alloc (.cells #[.bool true, .slice c2 n2 d2] 25)).alloc (.cells #[.bool false, .slice c3 n3 d3] 25) = w4 at *
  replace GQ : GI w4 _ (.agg #[.bool true, .slice c2 n2 d2]) (-4) _ := GQ.below hx
  replace GR : GI w4 _ (.agg #[.bool false, .slice c3 n3 d3]) 1 _ := GR.below hx
  replace hb0 := bel_tr hb0 hx
  clear hx hsx KQ KR
  refine (parse7 _).mono ?_
  rintro e w5 ⟨v, rfl, GP, hb⟩
  obtain ⟨c4, n4, d4, rfl, KP⟩ := id GP
  replace Vq := Vq.below hb
  replace Vr := Vr.below hb
  replace GQ := GQ.below hb
  replace GR := GR.below hb
  replace hb0 := bel_tr hb0 hb
  clear hb KP
  obtain ⟨Vp, hx, hsx⟩ := box1 w5 (.bool true) (.slice c4 n4 d4) 25
  go_wp2_with fail
  generalize w5.alloc (.cells #[.bool true, .slice c4 n4 d4] 25) = w6 at *
  replace GP : GI w6 _ (.agg #[.bool true, .slice c4 n4 d4]) (-7) _ := GP.below hx
  replace Vq := Vq.below hx
  replace Vr := Vr.below hx
  replace GQ := GQ.below hx
  replace GR := GR.below hx
  replace hb0 := bel_tr hb0 hx
  clear hx hsx
  refine (ofI (-3) _ (by omega) (by omega)).mono ?_
  rintro e wa1 ⟨u, rfl, GA, ha⟩
  obtain ⟨ca, na, da, rfl, KA⟩ := id GA
  go_wp2_with fail
  refine (ofI 5 _ (by omega) (by omega)).mono ?_
  rintro e wb1 ⟨u, rfl, GB, hbb⟩
  obtain ⟨cb, nb, db, rfl, KB⟩ := id GB
  go_wp2_with fail
  refine (addI _ _ _ (KA.below hbb).num KB.num (by omega) (by omega)).mono ?_
  rintro e wc1 ⟨u, rfl, Gs, hc⟩
  replace Gs := Gs.val (show _ = (2 : Int) by decide)
  obtain ⟨c51, n51, d51, rfl, KX⟩ := id Gs
  have hb := bel_tr ha (bel_tr hbb hc)
  replace Vq := Vq.below hb
  replace Vr := Vr.below hb
  replace Vp := Vp.below hb
  replace GQ := GQ.below hb
  replace GR := GR.below hb
  replace GP := GP.below hb
  replace hb0 := bel_tr hb0 hb
  clear ha hbb hc hb GA GB KA KB KX
  obtain ⟨Vs, hx, hsx⟩ := box1 wc1 (.bool false) (.slice c51 n51 d51) 25
  go_wp2_with fail
  generalize wc1.alloc (.cells #[.bool false, .slice c51 n51 d51] 25) = we1 at *
  replace Gs : GI we1 _ (.agg #[.bool false, .slice c51 n51 d51]) (2) _ := Gs.below hx
  replace Vq := Vq.below hx
  replace Vr := Vr.below hx
  replace Vp := Vp.below hx
  replace GQ := GQ.below hx
  replace GR := GR.below hx
  replace GP := GP.below hx
  replace hb0 := bel_tr hb0 hx
  clear hx hsx
  refine (ofI (-3) _ (by omega) (by omega)).mono ?_
  rintro e wa2 ⟨u, rfl, GA, ha⟩
  obtain ⟨ca, na, da, rfl, KA⟩ := id GA
  go_wp2_with fail
  refine (ofI 5 _ (by omega) (by omega)).mono ?_
  rintro e wb2 ⟨u, rfl, GB, hbb⟩
  obtain ⟨cb, nb, db, rfl, KB⟩ := id GB
  go_wp2_with fail
  refine (mulI _ _ _ (KA.below hbb).num KB.num (by omega) (by omega)).mono ?_
  rintro e wc2 ⟨u, rfl, Gm, hc⟩
  replace Gm := Gm.val (show _ = (-15 : Int) by decide)
  obtain ⟨c52, n52, d52, rfl, KX⟩ := id Gm
  have hb := bel_tr ha (bel_tr hbb hc)
  replace Vq := Vq.below hb
  replace Vr := Vr.below hb
  replace Vp := Vp.below hb
  replace Vs := Vs.below hb
  replace GQ := GQ.below hb
  replace GR := GR.below hb
  replace GP := GP.below hb
  replace Gs := Gs.below hb
  replace hb0 := bel_tr hb0 hb
  clear ha hbb hc hb GA GB KA KB KX
  obtain ⟨Vm, hx, hsx⟩ := box1 wc2 (.bool true) (.slice c52 n52 d52) 25
  obtain ⟨x0, x1, _, _⟩ := id (Vq.below hx)
  go_wp2_with fail
  generalize wc2.alloc (.cells #[.bool true, .slice c52 n52 d52] 25) = we2 at *
  replace Gm : GI we2 _ (.agg #[.bool true, .slice c52 n52 d52]) (-15) _ := Gm.below hx
  replace Vq := Vq.below hx
  replace Vr := Vr.below hx
  replace Vp := Vp.below hx
  replace Vs := Vs.below hx
  replace GQ := GQ.below hx
  replace GR := GR.below hx
  replace GP := GP.below hx
  replace Gs := Gs.below hx
  replace hb0 := bel_tr hb0 hx
  clear hx hsx
  refine (textK _ GQ (by omega) tm4).mono ?_
  rintro e wt1 ⟨rfl, hb⟩
  replace Vq := Vq.below hb
  replace Vr := Vr.below hb
  replace Vp := Vp.below hb
  replace Vs := Vs.below hb
  replace Vm := Vm.below hb
  replace GQ := GQ.below hb
  replace GR := GR.below hb
  replace GP := GP.below hb
  replace Gs := Gs.below hb
  replace Gm := Gm.below hb
  replace hb0 := bel_tr hb0 hb
  clear hb x0 x1
  obtain ⟨x0, x1, _, _⟩ := id Vr
  go_wp2_with fail
  refine (textK _ GR (by omega) tp1).mono ?_
  rintro e wt2 ⟨rfl, hb⟩
  replace Vq := Vq.below hb
  replace Vr := Vr.below hb
  replace Vp := Vp.below hb
  replace Vs := Vs.below hb
  replace Vm := Vm.below hb
  replace GQ := GQ.below hb
  replace GR := GR.below hb
  replace GP := GP.below hb
  replace Gs := Gs.below hb
  replace Gm := Gm.below hb
  replace hb0 := bel_tr hb0 hb
  clear hb x0 x1
  obtain ⟨x0, x1, _, _⟩ := id Vp
  go_wp2_with fail
  refine (textK _ GP (by omega) tm7).mono ?_
  rintro e wt3 ⟨rfl, hb⟩
  replace Vq := Vq.below hb
  replace Vr := Vr.below hb
  replace Vp := Vp.below hb
  replace Vs := Vs.below hb
  replace Vm := Vm.below hb
  replace GQ := GQ.below hb
  replace GR := GR.below hb
  replace GP := GP.below hb
  replace Gs := Gs.below hb
  replace Gm := Gm.below hb
  replace hb0 := bel_tr hb0 hb
  clear hb x0 x1
  obtain ⟨x0, x1, _, _⟩ := id Vs
  go_wp2_with fail
  refine (textK _ Gs (by omega) tp2).mono ?_
  rintro e wt4 ⟨rfl, hb⟩
  replace Vq := Vq.below hb
  replace Vr := Vr.below hb
  replace Vp := Vp.below hb
  replace Vs := Vs.below hb
  replace Vm := Vm.below hb
  replace GQ := GQ.below hb
  replace GR := GR.below hb
  replace GP := GP.below hb
  replace Gs := Gs.below hb
  replace Gm := Gm.below hb
  replace hb0 := bel_tr hb0 hb
  clear hb x0 x1
  obtain ⟨x0, x1, _, _⟩ := id Vm
  go_wp2_with fail
  refine (textK _ Gm (by omega) tm15).mono ?_
  rintro e wt5 ⟨rfl, hb⟩
  replace Vq := Vq.below hb
  replace Vr := Vr.below hb
  replace Vp := Vp.below hb
  replace Vs := Vs.below hb
  replace Vm := Vm.below hb
  replace GQ := GQ.below hb
  replace GR := GR.below hb
  replace GP := GP.below hb
  replace Gs := Gs.below hb
  replace Gm := Gm.below hb
  replace hb0 := bel_tr hb0 hb
  clear hb x0 x1
  obtain ⟨x0, x1, _, _⟩ := id Vq
  obtain ⟨y0, y1, _, _⟩ := id Vr
  go_wp2_with fail
  have hsg := signI true wt5 GQ.parts.2.num (by omega)
  rw [show (ws true (((-4 : Int).natAbs : Nat) : Int)).sign = -1 by decide] at hsg
  refine hsg.mono ?_
  rintro e wt6 ⟨rfl, hb⟩
  replace Vq := Vq.below hb
  replace Vr := Vr.below hb
  replace GQ := GQ.below hb
  replace GR := GR.below hb
  replace hb0 := bel_tr hb0 hb
  clear hb hsg x0 x1 y0 y1
  obtain ⟨x0, x1, _, _⟩ := id Vq
  obtain ⟨y0, y1, _, _⟩ := id Vr
  go_wp2_with fail
  have hcm := wcmpI true false wt6 GQ.parts.2.num GR.parts.2.num (by omega) (by omega)
  rw [show (ws true (((-4 : Int).natAbs : Nat) : Int) - ws false (((1 : Int).natAbs : Nat) : Int)).sign = -1 by decide] at hcm
  refine hcm.mono ?_
  rintro e wt7 ⟨rfl, hb⟩
  replace hb0 := bel_tr hb0 hb
  clear hb hcm x0 x1 y0 y1
  go_wp2
  go_ret
  exact ⟨rfl, hb0⟩
end Go.Proofs.YtfelogbfijomiaaDoor

import Derived.Test.YtcocjcjjlgcbcaaGreatDoorLs
import Derived.Test.YtcocjcjjlgcbcaaGreatDoorPvO0
namespace Go.Proofs.YtcocjcjjlgcbcaaGreatDoor
open Go.RowKit

set_option maxRecDepth 100000 in
set_option maxHeartbeats 32000000 in
/-- CheckSound. -/
theorem sound_walk (P : Prob) (C : Crt) {xa : Option Addr} {nx xc : Nat} {X : Nat → Rat} {Zx : Nat → Nat} {p : Bool} {a : Option Addr} {na ca : Nat} {d : Option Addr} {nd cd : Nat} {t : Rat} {Kx Kt : Nat} (w : World) (hP : PQ w P) (hC : CQ w C) (hx : LQ w xa nx X Zx) (hzx : ∀ i, i < nx → 1 ≤ Zx i ∧ SzR (X i) (Zx i)) (htx : tot Zx nx ≤ Kx) (ht : TR w p a na ca d nd cd t Kt) (hKt : 1 ≤ Kt) (hK : P.K + C.K + Kx + Kt ≤ 1048576) (hT : TB w)
    {pS : Addr} {tS : List UInt8} {pP : Addr} {tP : List UInt8} {pV : Addr} {tV : List UInt8} {pB : Addr} {tB : List UInt8} {pR : Addr} {tR : List UInt8} {pD : Addr} {tD : List UInt8} (ES : Err3 w 3 pS tS) (EP : Err3 w 4 pP tP) (EV : Err3 w 1 pV tV) (EB : Err3 w 0 pB tB) (ER : Err3 w 5 pR tR) (ED : Err3 w 2 pD tD) (nPS : tP ≠ tS) (nVS : tV ≠ tS) (nVP : tV ≠ tP) (nBS : tB ≠ tS) (nBP : tB ≠ tP) (nBV : tB ≠ tV) (nRS : tR ≠ tS) (nRP : tR ≠ tP) (nRV : tR ≠ tV) (nRB : tR ≠ tB) (nDS : tD ≠ tS) (nDP : tD ≠ tP) (nDV : tD ≠ tV) (nDB : tD ≠ tB) (nDR : tD ≠ tR) :
    Calls Tryz.prog 3 #[P.val, C.val, .slice xa nx xc, .agg #[.bool p, .slice a na ca, .slice d nd cd]] w fun e w' => e = .returned (.bool true) ∧ Below w.heap.size w w' := by
  have EH : EE w (.iface 139 (.pointer (some pS))) (.iface 139 (.pointer (some pP))) (.iface 139 (.pointer (some pV))) (.iface 139 (.pointer (some pB))) (.iface 139 (.pointer (some pR))) (.iface 139 (.pointer (some pD))) := ⟨ES.errs, EP.errs, EV.errs, EB.errs, ER.errs, ED.errs⟩
  have hall := hC.all
  have ht1 := tot_pos C.ZX C.xn
  have ht2 := tot_pos C.ZY C.yn
  have ht3 := tot_pos C.ZZ C.zn
  have hs1C := hC.s1
  unfold Prob.val Crt.val
  have Pb := box_new w #[.bool P.mx, .string P.nm, .bool P.p, .slice P.a P.na P.ca, .slice P.d P.nd P.cd, .slice P.va P.vn P.vc, .slice P.ra P.rn P.rc] 31
  have hz0 := bel_d0 w (.cells #[.bool P.mx, .string P.nm, .bool P.p, .slice P.a P.na P.ca, .slice P.d P.nd P.cd, .slice P.va P.vn P.vc, .slice P.ra P.rn P.rc] 31)
  have hs0 : (w.alloc (.cells #[.bool P.mx, .string P.nm, .bool P.p, .slice P.a P.na P.ca, .slice P.d P.nd P.cd, .slice P.va P.vn P.vc, .slice P.ra P.rn P.rc] 31)).heap.size = w.heap.size + 1 := by simp
  have Cb := box_new (w.alloc (.cells #[.bool P.mx, .string P.nm, .bool P.p, .slice P.a P.na P.ca, .slice P.d P.nd P.cd, .slice P.va P.vn P.vc, .slice P.ra P.rn P.rc] 31)) #[.int .i64 C.vd, .bool C.p, .slice C.a C.na C.ca, .slice C.d C.nd C.cd, .slice C.xa C.xn C.xc, .slice C.ya C.yn C.yc, .slice C.za C.zn C.zc] 34
  have hz1 := bel_d0 (w.alloc (.cells #[.bool P.mx, .string P.nm, .bool P.p, .slice P.a P.na P.ca, .slice P.d P.nd P.cd, .slice P.va P.vn P.vc, .slice P.ra P.rn P.rc] 31)) (.cells #[.int .i64 C.vd, .bool C.p, .slice C.a C.na C.ca, .slice C.d C.nd C.cd, .slice C.xa C.xn C.xc, .slice C.ya C.yn C.yc, .slice C.za C.zn C.zc] 34)
  have hs1 : ((w.alloc (.cells #[.bool P.mx, .string P.nm, .bool P.p, .slice P.a P.na P.ca, .slice P.d P.nd P.cd, .slice P.va P.vn P.vc, .slice P.ra P.rn P.rc] 31)).alloc (.cells #[.int .i64 C.vd, .bool C.p, .slice C.a C.na C.ca, .slice C.d C.nd C.cd, .slice C.xa C.xn C.xc, .slice C.ya C.yn C.yc, .slice C.za C.zn C.zc] 34)).heap.size = w.heap.size + 2 := by simp
  have Tb := var3_new ((w.alloc (.cells #[.bool P.mx, .string P.nm, .bool P.p, .slice P.a P.na P.ca, .slice P.d P.nd P.cd, .slice P.va P.vn P.vc, .slice P.ra P.rn P.rc] 31)).alloc (.cells #[.int .i64 C.vd, .bool C.p, .slice C.a C.na C.ca, .slice C.d C.nd C.cd, .slice C.xa C.xn C.xc, .slice C.ya C.yn C.yc, .slice C.za C.zn C.zc] 34)) (.bool p) (.slice a na ca) (.slice d nd cd) 27
  have hz2 := bel_d0 ((w.alloc (.cells #[.bool P.mx, .string P.nm, .bool P.p, .slice P.a P.na P.ca, .slice P.d P.nd P.cd, .slice P.va P.vn P.vc, .slice P.ra P.rn P.rc] 31)).alloc (.cells #[.int .i64 C.vd, .bool C.p, .slice C.a C.na C.ca, .slice C.d C.nd C.cd, .slice C.xa C.xn C.xc, .slice C.ya C.yn C.yc, .slice C.za C.zn C.zc] 34)) (.cells #[.bool p, .slice a na ca, .slice d nd cd] 27)
  have hs2 : (((w.alloc (.cells #[.bool P.mx, .string P.nm, .bool P.p, .slice P.a P.na P.ca, .slice P.d P.nd P.cd, .slice P.va P.vn P.vc, .slice P.ra P.rn P.rc] 31)).alloc (.cells #[.int .i64 C.vd, .bool C.p, .slice C.a C.na C.ca, .slice C.d C.nd C.cd, .slice C.xa C.xn C.xc, .slice C.ya C.yn C.yc, .slice C.za C.zn C.zc] 34)).alloc (.cells #[.bool p, .slice a na ca, .slice d nd cd] 27)).heap.size = w.heap.size + 3 := by simp
  rw [hs0] at Cb
  rw [hs1] at Tb
  replace Pb := (Pb.below hz1).below hz2
  replace Cb := Cb.below hz2
  have hb0 := bel_tr (bel_tr hz0 hz1) hz2
  clear hz0 hz1 hz2 hs0 hs1
  go_enter Tryz.func3, Tryz.ntmps3
  go_wp2_with fail
  generalize ((w.alloc (.cells #[.bool P.mx, .string P.nm, .bool P.p, .slice P.a P.na P.ca, .slice P.d P.nd P.cd, .slice P.va P.vn P.vc, .slice P.ra P.rn P.rc] 31)).alloc (.cells #[.int .i64 C.vd, .bool C.p, .slice C.a C.na C.ca, .slice C.d C.nd C.cd, .slice C.xa C.xn C.xc, .slice C.ya C.yn C.yc, .slice C.za C.zn C.zc] 34)).alloc (.cells #[.bool p, .slice a na ca, .slice d nd cd] 27) = W0 at *
  refine (awake14 W0 (hT.below hb0) (EH.below hb0)).mono ?_
  rintro e w1 ⟨rfl, h1⟩
  have hb1 := bel_tr hb0 h1
  have hsw1 := h1.size
  replace Pb := Pb.below h1
  replace Cb := Cb.below h1
  replace Tb := Tb.below h1
  clear h1 hb0
  have p0 := Pb 0 _ rfl; have p1 := Pb 1 _ rfl; have p2 := Pb 2 _ rfl; have p3 := Pb 3 _ rfl; have p4 := Pb 4 _ rfl; have p5 := Pb 5 _ rfl; have p6 := Pb 6 _ rfl
  have c0 := Cb 0 _ rfl; have c1 := Cb 1 _ rfl; have c2 := Cb 2 _ rfl; have c3 := Cb 3 _ rfl; have c4 := Cb 4 _ rfl; have c5 := Cb 5 _ rfl; have c6 := Cb 6 _ rfl
  go_wp2_with fail
  clear p0 p1 p2 p3 p4 p5 p6 c0 c1 c2 c3 c4 c5 c6
  refine (chkA P C w1 (hP.below hb1) (hC.below hb1) (by omega) (hT.below hb1) (EH.below hb1)).mono ?_
  rintro e w2 ⟨h2, hh⟩
  have hb2 := bel_tr hb1 h2
  have hsw2 := h2.size
  replace Pb := Pb.below h2
  replace Cb := Cb.below h2
  replace Tb := Tb.below h2
  clear h2 hb1
  rcases hh with ⟨v, rfl, hv⟩ | ⟨rfl, hS⟩
  · rcases hv with rfl | rfl | rfl | rfl | rfl | rfl
    · go_wp2_with fail
      refine (codeS w2 (ES.below hb2) ).mono ?_
      rintro e w3 ⟨rfl, h3⟩
      have hw := bel_tr hb2 h3
      clear Pb Cb Tb h3 hb2
      go_wp2
      go_ret
      exact ⟨rfl, hw⟩
    · go_wp2_with fail
      refine (codeP w2 (ES.below hb2) (EP.below hb2) nPS).mono ?_
      rintro e w3 ⟨rfl, h3⟩
      have hw := bel_tr hb2 h3
      clear Pb Cb Tb h3 hb2
      go_wp2
      go_ret
      exact ⟨rfl, hw⟩
    · go_wp2_with fail
      refine (codeV w2 (ES.below hb2) (EP.below hb2) (EV.below hb2) nVS nVP).mono ?_
      rintro e w3 ⟨rfl, h3⟩
      have hw := bel_tr hb2 h3
      clear Pb Cb Tb h3 hb2
      go_wp2
      go_ret
      exact ⟨rfl, hw⟩
    · go_wp2_with fail
      refine (codeB w2 (ES.below hb2) (EP.below hb2) (EV.below hb2) (EB.below hb2) nBS nBP nBV).mono ?_
      rintro e w3 ⟨rfl, h3⟩
      have hw := bel_tr hb2 h3
      clear Pb Cb Tb h3 hb2
      go_wp2
      go_ret
      exact ⟨rfl, hw⟩
    · go_wp2_with fail
      refine (codeR w2 (ES.below hb2) (EP.below hb2) (EV.below hb2) (EB.below hb2) (ER.below hb2) nRS nRP nRV nRB).mono ?_
      rintro e w3 ⟨rfl, h3⟩
      have hw := bel_tr hb2 h3
      clear Pb Cb Tb h3 hb2
      go_wp2
      go_ret
      exact ⟨rfl, hw⟩
    · go_wp2_with fail
      refine (codeD w2 (ES.below hb2) (EP.below hb2) (EV.below hb2) (EB.below hb2) (ER.below hb2) (ED.below hb2) nDS nDP nDV nDB nDR).mono ?_
      rintro e w3 ⟨rfl, h3⟩
      have hw := bel_tr hb2 h3
      clear Pb Cb Tb h3 hb2
      go_wp2
      go_ret
      exact ⟨rfl, hw⟩
  · have HS : Hid (Snd P C) := hS
    clear hS ES EP EV EB ER ED nPS nVS nVP nBS nBP nBV nRS nRP nRV nRB nDS nDP nDV nDB nDR EH
    have p0 := Pb 0 _ rfl; have p1 := Pb 1 _ rfl; have p2 := Pb 2 _ rfl; have p3 := Pb 3 _ rfl; have p4 := Pb 4 _ rfl; have p5 := Pb 5 _ rfl; have p6 := Pb 6 _ rfl
    go_wp2_with fail
    clear p0 p1 p2 p3 p4 p5 p6
    refine (holdD2 P (Kx := Kx) w2 (hP.below hb2) (hx.below hb2) hzx htx (by omega)).mono ?_
    rintro e w3 ⟨b, rfl, hb, h3⟩
    have hb3 := bel_tr hb2 h3
    have hsw3 := h3.size
    have HH : Hid (b = true ↔ Hlds P nx X) := hb
    replace Pb := Pb.below h3
    replace Cb := Cb.below h3
    replace Tb := Tb.below h3
    clear h3 hb2 hb
    have c0 := Cb 0 _ rfl
    rcases HS.out with ⟨hvd, hxn, hl, hv, ho, hp⟩ | ⟨hvd, hnone⟩ | ⟨hvd, hxn, hzn, hl, hd, hi⟩
    · have HV : Hid ((0 : Int) = cs (vlu P (xn C.X C.xn)) C.v) := by
        show (0 : Int) = _
        rw [vlu_xn P C.X (by omega), hv]
        exact (cs_zero.2 rfl).symm
      have HL : Hid (Hlds P C.xn C.X) := hl
      have HW0 : Hid (∀ n X, Hlds P n X → ¬ btr P (vlu P X) C.v) := fun n X h => by rw [← hp]; exact weak h ho
      rw [hvd] at c0
      have p0 := Pb 0 _ rfl; have p1 := Pb 1 _ rfl; have p2 := Pb 2 _ rfl; have p3 := Pb 3 _ rfl; have p4 := Pb 4 _ rfl; have p5 := Pb 5 _ rfl; have p6 := Pb 6 _ rfl
      have c4 := Cb 4 _ rfl
      clear hvd hxn hl hv ho hp HS
      go_wp2_with fail
      clear p0 p1 p2 p3 p4 p5 p6 c4 c0
      refine (holdD2 P (Kx := C.K) w3 (hP.below hb3) (hC.x.below hb3) hC.zx (by omega) (by omega)).mono ?_
      rintro e w4 ⟨b2, rfl, hbb, h4⟩
      obtain rfl : b2 = true := hbb.2 HL.out
      have hb4 := bel_tr hb3 h4
      replace Pb := Pb.below h4
      replace Cb := Cb.below h4
      clear h4 hbb hb3 Tb
      go_wp2_with fail
      have HBX : ∀ w', Below w4.heap.size w4 w' → (w'.cell? ⟨w.heap.size, 0, none⟩ = some (.bool P.mx) ∧ w'.cell? ⟨w.heap.size, 1, none⟩ = some (.string P.nm) ∧ w'.cell? ⟨w.heap.size, 2, none⟩ = some (.bool P.p) ∧ w'.cell? ⟨w.heap.size, 3, none⟩ = some (.slice P.a P.na P.ca) ∧ w'.cell? ⟨w.heap.size, 4, none⟩ = some (.slice P.d P.nd P.cd) ∧ w'.cell? ⟨w.heap.size, 5, none⟩ = some (.slice P.va P.vn P.vc) ∧ w'.cell? ⟨w.heap.size, 6, none⟩ = some (.slice P.ra P.rn P.rc) ∧ w'.cell? ⟨w.heap.size + 1, 1, none⟩ = some (.bool C.p) ∧ w'.cell? ⟨w.heap.size + 1, 2, none⟩ = some (.slice C.a C.na C.ca) ∧ w'.cell? ⟨w.heap.size + 1, 3, none⟩ = some (.slice C.d C.nd C.cd) ∧ w'.cell? ⟨w.heap.size + 1, 4, none⟩ = some (.slice C.xa C.xn C.xc)) := fun w' h => ⟨(Pb.below h) 0 _ rfl, (Pb.below h) 1 _ rfl, (Pb.below h) 2 _ rfl, (Pb.below h) 3 _ rfl, (Pb.below h) 4 _ rfl, (Pb.below h) 5 _ rfl, (Pb.below h) 6 _ rfl, (Cb.below h) 1 _ rfl, (Cb.below h) 2 _ rfl, (Cb.below h) 3 _ rfl, (Cb.below h) 4 _ rfl⟩
      refine wp_region_noPanic (wp_region_guard (fun _ w' => w'.cell? ⟨w.heap.size, 0, none⟩ = some (.bool P.mx) ∧ w'.cell? ⟨w.heap.size, 1, none⟩ = some (.string P.nm) ∧ w'.cell? ⟨w.heap.size, 2, none⟩ = some (.bool P.p) ∧ w'.cell? ⟨w.heap.size, 3, none⟩ = some (.slice P.a P.na P.ca) ∧ w'.cell? ⟨w.heap.size, 4, none⟩ = some (.slice P.d P.nd P.cd) ∧ w'.cell? ⟨w.heap.size, 5, none⟩ = some (.slice P.va P.vn P.vc) ∧ w'.cell? ⟨w.heap.size, 6, none⟩ = some (.slice P.ra P.rn P.rc) ∧ w'.cell? ⟨w.heap.size + 1, 1, none⟩ = some (.bool C.p) ∧ w'.cell? ⟨w.heap.size + 1, 2, none⟩ = some (.slice C.a C.na C.ca) ∧ w'.cell? ⟨w.heap.size + 1, 3, none⟩ = some (.slice C.d C.nd C.cd) ∧ w'.cell? ⟨w.heap.size + 1, 4, none⟩ = some (.slice C.xa C.xn C.xc)) (by as_aux_lemma => kernel_rfl) ?_)
      have hc0 : Below w4.heap.size w4 w4.drew := bel_d1 _
      generalize w4.drew = z0 at *
      refine wpAnyG.take 0 (v := .agg #[.bool P.mx, .string P.nm, .bool P.p, .slice P.a P.na P.ca, .slice P.d P.nd P.cd, .slice P.va P.vn P.vc, .slice P.ra P.rn P.rc]) (by decide) (by as_aux_lemma => kernel_rfl) (fun _ _ _ h => h) 7 _ (by rfl) (fun _ _ => Iff.rfl) (fun _ _ _ h => h) (by as_aux_lemma => kernel_rfl) (by as_aux_lemma => kernel_rfl) (by as_aux_lemma => kernel_rfl) (by rfl) ?y0 (HBX _ hc0) (by rfl) ?_
      case y0 =>
        rintro w' ⟨q0, q1, q2, q3, q4, q5, q6, q7, q8, q9, q10⟩
        simp only [lgA, lgZ]
        go_simp
      simp only [lgA, lgZ, Act.put, lsA, lsZ, lsS]
      refine wpAnyG.take 1 (v := .pointer (some ⟨w.heap.size + 1, 4, none⟩)) (by decide) (by as_aux_lemma => kernel_rfl) (fun _ _ _ h => h) 7 _ (by rfl) (fun _ _ => Iff.rfl) (fun _ _ _ h => h) (by as_aux_lemma => kernel_rfl) (by as_aux_lemma => kernel_rfl) (by as_aux_lemma => kernel_rfl) (by rfl) ?y1 (HBX _ hc0) (by rfl) ?_
      case y1 =>
        rintro w' ⟨q0, q1, q2, q3, q4, q5, q6, q7, q8, q9, q10⟩
        simp only [lgA, lgZ, lgS]
        go_simp
      simp only [lgA, lgZ, lgS, Act.put, lsA, lsZ, lsS]
      refine wpAnyG.take 2 (v := .slice C.xa C.xn C.xc) (by decide) (by as_aux_lemma => kernel_rfl) (fun _ _ _ h => h) 7 _ (by rfl) (fun _ _ => Iff.rfl) (fun _ _ _ h => h) (by as_aux_lemma => kernel_rfl) (by as_aux_lemma => kernel_rfl) (by as_aux_lemma => kernel_rfl) (by rfl) ?y2 (HBX _ hc0) (by rfl) ?_
      case y2 =>
        rintro w' ⟨q0, q1, q2, q3, q4, q5, q6, q7, q8, q9, q10⟩
        simp only [lgA, lgZ, lgS]
        go_simp
      simp only [lgA, lgZ, lgS, Act.put, lsA, lsZ, lsS]
      refine wpAnyG.take 4 (v := .pointer (some ⟨w.heap.size + 1, 1, none⟩)) (by decide) (by as_aux_lemma => kernel_rfl) (fun _ _ _ h => h) 7 _ (by rfl) (fun _ _ => Iff.rfl) (fun _ _ _ h => h) (by as_aux_lemma => kernel_rfl) (by as_aux_lemma => kernel_rfl) (by as_aux_lemma => kernel_rfl) (by rfl) ?y4 (HBX _ hc0) (by rfl) ?_
      case y4 =>
        rintro w' ⟨q0, q1, q2, q3, q4, q5, q6, q7, q8, q9, q10⟩
        simp only [lgA, lgZ, lgS]
        go_simp
      simp only [lgA, lgZ, lgS, Act.put, lsA, lsZ, lsS]
      refine wpAnyG.take 5 (v := .agg #[.bool C.p, .slice C.a C.na C.ca, .slice C.d C.nd C.cd]) (by decide) (by as_aux_lemma => kernel_rfl) (fun _ _ _ h => h) 7 _ (by rfl) (fun _ _ => Iff.rfl) (fun _ _ _ h => h) (by as_aux_lemma => kernel_rfl) (by as_aux_lemma => kernel_rfl) (by as_aux_lemma => kernel_rfl) (by rfl) ?y5 (HBX _ hc0) (by rfl) ?_
      case y5 =>
        rintro w' ⟨q0, q1, q2, q3, q4, q5, q6, q7, q8, q9, q10⟩
        simp only [lgA, lgZ, lgS]
        go_simp
      simp only [lgA, lgZ, lgS, Act.put, lsA, lsZ, lsS]
      refine wpAnyG.one 3 (by as_aux_lemma => kernel_rfl) (by decide) (by rfl) (fun K hK => ?_)
      simp only [lgA, lgZ, lgS]
      go_simp
      refine (valD2 P (Kx := C.K) z0 (hP.below (bel_tr hb4 hc0)) (hC.x.below (bel_tr hb4 hc0)) hC.zx (by omega) (by omega)).mono ?_
      rintro e z1 ⟨f1, d1, n1, k1, d2, n2, k2, rfl, G1, hk1⟩
      have hc1 : Below w4.heap.size w4 z1 := bel_tr hc0 hk1
      dsimp only
      refine hK _ _ (HBX _ hc1) ?_
      clear hK K
      refine wpAnyG.one 6 (by as_aux_lemma => kernel_rfl) (by decide) (by rfl) (fun K hK => ?_)
      simp only [lgA, lgZ, lgS]
      go_simp
      refine (cmpD 0 z1 G1.tr (hC.v.below (bel_tr hb4 hc1)) (by omega) (by omega) hC.s1 HV.out).mono ?_
      rintro e z2 ⟨rfl, hk2⟩
      have hc2 : Below w4.heap.size w4 z2 := bel_tr hc1 hk2
      dsimp only
      refine hK _ _ (HBX _ hc2) ?_
      clear hK K
      refine wpAnyG.one 7 (by as_aux_lemma => kernel_rfl) (by decide) (by rfl) (fun K hK => ?_)
      simp only [lgA, lgZ, lgS]
      go_simp
      refine hK _ _ (HBX _ hc2) ?_
      clear hK K
      refine wpAnyG.done (by as_aux_lemma => kernel_rfl) (NoPanic.normal ?_)
      have hb5 := bel_tr hb4 hc2
      replace Pb := Pb.below hc2
      replace Cb := Cb.below hc2
      clear HBX hc0 hc1 hc2 hk1 hk2 G1 hb4 HV
      cases b
      · clear HH HW0
        go_wp2_with fail
        have HBX : ∀ w', Below z2.heap.size z2 w' → (w'.cell? ⟨w.heap.size, 0, none⟩ = some (.bool P.mx) ∧ w'.cell? ⟨w.heap.size, 1, none⟩ = some (.string P.nm) ∧ w'.cell? ⟨w.heap.size, 2, none⟩ = some (.bool P.p) ∧ w'.cell? ⟨w.heap.size, 3, none⟩ = some (.slice P.a P.na P.ca) ∧ w'.cell? ⟨w.heap.size, 4, none⟩ = some (.slice P.d P.nd P.cd) ∧ w'.cell? ⟨w.heap.size, 5, none⟩ = some (.slice P.va P.vn P.vc) ∧ w'.cell? ⟨w.heap.size, 6, none⟩ = some (.slice P.ra P.rn P.rc) ∧ w'.cell? ⟨w.heap.size + 1, 1, none⟩ = some (.bool C.p) ∧ w'.cell? ⟨w.heap.size + 1, 2, none⟩ = some (.slice C.a C.na C.ca) ∧ w'.cell? ⟨w.heap.size + 1, 3, none⟩ = some (.slice C.d C.nd C.cd) ∧ w'.cell? ⟨w.heap.size + 1, 4, none⟩ = some (.slice C.xa C.xn C.xc)) := fun w' h => ⟨(Pb.below h) 0 _ rfl, (Pb.below h) 1 _ rfl, (Pb.below h) 2 _ rfl, (Pb.below h) 3 _ rfl, (Pb.below h) 4 _ rfl, (Pb.below h) 5 _ rfl, (Pb.below h) 6 _ rfl, (Cb.below h) 1 _ rfl, (Cb.below h) 2 _ rfl, (Cb.below h) 3 _ rfl, (Cb.below h) 4 _ rfl⟩
        refine wp_region_noPanic (wp_region_guard (fun _ w' => w'.cell? ⟨w.heap.size, 0, none⟩ = some (.bool P.mx) ∧ w'.cell? ⟨w.heap.size, 1, none⟩ = some (.string P.nm) ∧ w'.cell? ⟨w.heap.size, 2, none⟩ = some (.bool P.p) ∧ w'.cell? ⟨w.heap.size, 3, none⟩ = some (.slice P.a P.na P.ca) ∧ w'.cell? ⟨w.heap.size, 4, none⟩ = some (.slice P.d P.nd P.cd) ∧ w'.cell? ⟨w.heap.size, 5, none⟩ = some (.slice P.va P.vn P.vc) ∧ w'.cell? ⟨w.heap.size, 6, none⟩ = some (.slice P.ra P.rn P.rc) ∧ w'.cell? ⟨w.heap.size + 1, 1, none⟩ = some (.bool C.p) ∧ w'.cell? ⟨w.heap.size + 1, 2, none⟩ = some (.slice C.a C.na C.ca) ∧ w'.cell? ⟨w.heap.size + 1, 3, none⟩ = some (.slice C.d C.nd C.cd) ∧ w'.cell? ⟨w.heap.size + 1, 4, none⟩ = some (.slice C.xa C.xn C.xc)) (by as_aux_lemma => kernel_rfl) ?_)
        have hc0 : Below z2.heap.size z2 z2.drew := bel_d1 _
        generalize z2.drew = y0 at *
        refine wpAnyG.take 0 (v := .bool true) (by decide) (by as_aux_lemma => kernel_rfl) (fun _ _ _ h => h) 18 _ (by rfl) (fun _ _ => Iff.rfl) (fun _ _ _ h => h) (by as_aux_lemma => kernel_rfl) (by as_aux_lemma => kernel_rfl) (by as_aux_lemma => kernel_rfl) (by rfl) ?y0 (HBX _ hc0) (by rfl) ?_
        case y0 =>
          rintro w' ⟨q0, q1, q2, q3, q4, q5, q6, q7, q8, q9, q10⟩
          simp only [lgA, lgZ]
          go_simp
        simp only [lgA, lgZ, Act.put, lsA, lsZ, lsS]
        refine wpAnyG.take 1 (v := .bool true) (by decide) (by as_aux_lemma => kernel_rfl) (fun _ _ _ h => h) 18 _ (by rfl) (fun _ _ => Iff.rfl) (fun _ _ _ h => h) (by as_aux_lemma => kernel_rfl) (by as_aux_lemma => kernel_rfl) (by as_aux_lemma => kernel_rfl) (by rfl) ?y1 (HBX _ hc0) (by rfl) ?_
        case y1 =>
          rintro w' ⟨q0, q1, q2, q3, q4, q5, q6, q7, q8, q9, q10⟩
          simp only [lgA, lgZ, lgS]
          go_simp
        simp only [lgA, lgZ, lgS, Act.put, lsA, lsZ, lsS]
        refine wpAnyG.take 2 (v := .int .i64 0) (by decide) (by as_aux_lemma => kernel_rfl) (fun _ _ _ h => h) 18 _ (by rfl) (fun _ _ => Iff.rfl) (fun _ _ _ h => h) (by as_aux_lemma => kernel_rfl) (by as_aux_lemma => kernel_rfl) (by as_aux_lemma => kernel_rfl) (by rfl) ?y2 (HBX _ hc0) (by rfl) ?_
        case y2 =>
          rintro w' ⟨q0, q1, q2, q3, q4, q5, q6, q7, q8, q9, q10⟩
          simp only [lgA, lgZ, lgS]
          go_simp
        simp only [lgA, lgZ, lgS, Act.put, lsA, lsZ, lsS]
        refine wpAnyG.take 3 (v := .bool true) (by decide) (by as_aux_lemma => kernel_rfl) (fun _ _ _ h => h) 18 _ (by rfl) (fun _ _ => Iff.rfl) (fun _ _ _ h => h) (by as_aux_lemma => kernel_rfl) (by as_aux_lemma => kernel_rfl) (by as_aux_lemma => kernel_rfl) (by rfl) ?y3 (HBX _ hc0) (by rfl) ?_
        case y3 =>
          rintro w' ⟨q0, q1, q2, q3, q4, q5, q6, q7, q8, q9, q10⟩
          simp only [lgA, lgZ, lgS]
          go_simp
        simp only [lgA, lgZ, lgS, Act.put, lsA, lsZ, lsS]
        refine wpAnyG.take 4 (v := .bool true) (by decide) (by as_aux_lemma => kernel_rfl) (fun _ _ _ h => h) 18 _ (by rfl) (fun _ _ => Iff.rfl) (fun _ _ _ h => h) (by as_aux_lemma => kernel_rfl) (by as_aux_lemma => kernel_rfl) (by as_aux_lemma => kernel_rfl) (by rfl) ?y4 (HBX _ hc0) (by rfl) ?_
        case y4 =>
          rintro w' ⟨q0, q1, q2, q3, q4, q5, q6, q7, q8, q9, q10⟩
          simp only [lgA, lgZ, lgS]
          go_simp
        simp only [lgA, lgZ, lgS, Act.put, lsA, lsZ, lsS]
        refine wpAnyG.take 5 (v := .bool true) (by decide) (by as_aux_lemma => kernel_rfl) (fun _ _ _ h => h) 18 _ (by rfl) (fun _ _ => Iff.rfl) (fun _ _ _ h => h) (by as_aux_lemma => kernel_rfl) (by as_aux_lemma => kernel_rfl) (by as_aux_lemma => kernel_rfl) (by rfl) ?y5 (HBX _ hc0) (by rfl) ?_
        case y5 =>
          rintro w' ⟨q0, q1, q2, q3, q4, q5, q6, q7, q8, q9, q10⟩
          simp only [lgA, lgZ, lgS]
          go_simp
        simp only [lgA, lgZ, lgS, Act.put, lsA, lsZ, lsS]
        refine wpAnyG.take 6 (v := .bool false) (by decide) (by as_aux_lemma => kernel_rfl) (fun _ _ _ h => h) 18 _ (by rfl) (fun _ _ => Iff.rfl) (fun _ _ _ h => h) (by as_aux_lemma => kernel_rfl) (by as_aux_lemma => kernel_rfl) (by as_aux_lemma => kernel_rfl) (by rfl) ?y6 (HBX _ hc0) (by rfl) ?_
        case y6 =>
          rintro w' ⟨q0, q1, q2, q3, q4, q5, q6, q7, q8, q9, q10⟩
          simp only [lgA, lgZ, lgS]
          go_simp
        simp only [lgA, lgZ, lgS, Act.put, lsA, lsZ, lsS]
        refine wpAnyG.take 7 (v := .bool false) (by decide) (by as_aux_lemma => kernel_rfl) (fun _ _ _ h => h) 18 _ (by rfl) (fun _ _ => Iff.rfl) (fun _ _ _ h => h) (by as_aux_lemma => kernel_rfl) (by as_aux_lemma => kernel_rfl) (by as_aux_lemma => kernel_rfl) (by rfl) ?y7 (HBX _ hc0) (by rfl) ?_
        case y7 =>
          rintro w' ⟨q0, q1, q2, q3, q4, q5, q6, q7, q8, q9, q10⟩
          simp only [lgA, lgZ, lgS]
          go_simp
        simp only [lgA, lgZ, lgS, Act.put, lsA, lsZ, lsS]
        refine wpAnyG.skip 8 (by decide) (by as_aux_lemma => kernel_rfl) (fun _ _ _ h => h) 18 (by rfl) (fun _ _ => Iff.rfl) (by as_aux_lemma => kernel_rfl) (by as_aux_lemma => kernel_rfl) (by as_aux_lemma => kernel_rfl) (by rfl) (HBX _ hc0) (by rfl) ?_
        simp only [lgA, lgZ, lgS, Act.put, lsA, lsZ, lsS]
        refine wpAnyG.skip 9 (by decide) (by as_aux_lemma => kernel_rfl) (fun _ _ _ h => h) 18 (by rfl) (fun _ _ => Iff.rfl) (by as_aux_lemma => kernel_rfl) (by as_aux_lemma => kernel_rfl) (by as_aux_lemma => kernel_rfl) (by rfl) (HBX _ hc0) (by rfl) ?_
        simp only [lgA, lgZ, lgS, Act.put, lsA, lsZ, lsS]
        refine wpAnyG.skip 10 (by decide) (by as_aux_lemma => kernel_rfl) (fun _ _ _ h => h) 18 (by rfl) (fun _ _ => Iff.rfl) (by as_aux_lemma => kernel_rfl) (by as_aux_lemma => kernel_rfl) (by as_aux_lemma => kernel_rfl) (by rfl) (HBX _ hc0) (by rfl) ?_
        simp only [lgA, lgZ, lgS, Act.put, lsA, lsZ, lsS]
        refine wpAnyG.skip 11 (by decide) (by as_aux_lemma => kernel_rfl) (fun _ _ _ h => h) 18 (by rfl) (fun _ _ => Iff.rfl) (by as_aux_lemma => kernel_rfl) (by as_aux_lemma => kernel_rfl) (by as_aux_lemma => kernel_rfl) (by rfl) (HBX _ hc0) (by rfl) ?_
        simp only [lgA, lgZ, lgS, Act.put, lsA, lsZ, lsS]
        refine wpAnyG.skip 12 (by decide) (by as_aux_lemma => kernel_rfl) (fun _ _ _ h => h) 18 (by rfl) (fun _ _ => Iff.rfl) (by as_aux_lemma => kernel_rfl) (by as_aux_lemma => kernel_rfl) (by as_aux_lemma => kernel_rfl) (by rfl) (HBX _ hc0) (by rfl) ?_
        simp only [lgA, lgZ, lgS, Act.put, lsA, lsZ, lsS]
        refine wpAnyG.skip 13 (by decide) (by as_aux_lemma => kernel_rfl) (fun _ _ _ h => h) 18 (by rfl) (fun _ _ => Iff.rfl) (by as_aux_lemma => kernel_rfl) (by as_aux_lemma => kernel_rfl) (by as_aux_lemma => kernel_rfl) (by rfl) (HBX _ hc0) (by rfl) ?_
        simp only [lgA, lgZ, lgS, Act.put, lsA, lsZ, lsS]
        refine wpAnyG.skip 14 (by decide) (by as_aux_lemma => kernel_rfl) (fun _ _ _ h => h) 18 (by rfl) (fun _ _ => Iff.rfl) (by as_aux_lemma => kernel_rfl) (by as_aux_lemma => kernel_rfl) (by as_aux_lemma => kernel_rfl) (by rfl) (HBX _ hc0) (by rfl) ?_
        simp only [lgA, lgZ, lgS, Act.put, lsA, lsZ, lsS]
        refine wpAnyG.take 15 (v := .bool false) (by decide) (by as_aux_lemma => kernel_rfl) (fun _ _ _ h => h) 18 _ (by rfl) (fun _ _ => Iff.rfl) (fun _ _ _ h => h) (by as_aux_lemma => kernel_rfl) (by as_aux_lemma => kernel_rfl) (by as_aux_lemma => kernel_rfl) (by rfl) ?y15 (HBX _ hc0) (by rfl) ?_
        case y15 =>
          rintro w' ⟨q0, q1, q2, q3, q4, q5, q6, q7, q8, q9, q10⟩
          simp only [lgA, lgZ, lgS]
          go_simp
        simp only [lgA, lgZ, lgS, Act.put, lsA, lsZ, lsS]
        refine wpAnyG.take 16 (v := .bool true) (by decide) (by as_aux_lemma => kernel_rfl) (fun _ _ _ h => h) 18 _ (by rfl) (fun _ _ => Iff.rfl) (fun _ _ _ h => h) (by as_aux_lemma => kernel_rfl) (by as_aux_lemma => kernel_rfl) (by as_aux_lemma => kernel_rfl) (by rfl) ?y16 (HBX _ hc0) (by rfl) ?_
        case y16 =>
          rintro w' ⟨q0, q1, q2, q3, q4, q5, q6, q7, q8, q9, q10⟩
          simp only [lgA, lgZ, lgS]
          go_simp
        simp only [lgA, lgZ, lgS, Act.put, lsA, lsZ, lsS]
        refine wpAnyG.take 17 (v := .bool true) (by decide) (by as_aux_lemma => kernel_rfl) (fun _ _ _ h => h) 18 _ (by rfl) (fun _ _ => Iff.rfl) (fun _ _ _ h => h) (by as_aux_lemma => kernel_rfl) (by as_aux_lemma => kernel_rfl) (by as_aux_lemma => kernel_rfl) (by rfl) ?y17 (HBX _ hc0) (by rfl) ?_
        case y17 =>
          rintro w' ⟨q0, q1, q2, q3, q4, q5, q6, q7, q8, q9, q10⟩
          simp only [lgA, lgZ, lgS]
          go_simp
        simp only [lgA, lgZ, lgS, Act.put, lsA, lsZ, lsS]
        refine wpAnyG.one 18 (by as_aux_lemma => kernel_rfl) (by decide) (by rfl) (fun K hK => ?_)
        simp only [lgA, lgZ, lgS]
        go_simp
        refine hK _ _ (HBX _ hc0) ?_
        clear hK K
        refine wpAnyG.done (by as_aux_lemma => kernel_rfl) (NoPanic.normal ?_)
        have hw := bel_tr hb5 hc0
        clear HBX hc0 Pb Cb hb5
        go_wp2
        go_ret
        exact ⟨rfl, hw⟩
      · have HW : Hid (false = true ↔ btr P (vlu P (xn X nx)) C.v) := by
          have hH := HH.out.1 (by first | rfl | trivial)
          show false = true ↔ _
          rw [vlu_xn P X (by have := hH.1; omega)]
          exact ⟨fun h => (by cases h), fun h => absurd h (HW0.out _ _ hH)⟩
        clear HH HW0
        go_wp2_with fail
        have HBX : ∀ w', Below z2.heap.size z2 w' → (w'.cell? ⟨w.heap.size, 0, none⟩ = some (.bool P.mx) ∧ w'.cell? ⟨w.heap.size, 1, none⟩ = some (.string P.nm) ∧ w'.cell? ⟨w.heap.size, 2, none⟩ = some (.bool P.p) ∧ w'.cell? ⟨w.heap.size, 3, none⟩ = some (.slice P.a P.na P.ca) ∧ w'.cell? ⟨w.heap.size, 4, none⟩ = some (.slice P.d P.nd P.cd) ∧ w'.cell? ⟨w.heap.size, 5, none⟩ = some (.slice P.va P.vn P.vc) ∧ w'.cell? ⟨w.heap.size, 6, none⟩ = some (.slice P.ra P.rn P.rc) ∧ w'.cell? ⟨w.heap.size + 1, 1, none⟩ = some (.bool C.p) ∧ w'.cell? ⟨w.heap.size + 1, 2, none⟩ = some (.slice C.a C.na C.ca) ∧ w'.cell? ⟨w.heap.size + 1, 3, none⟩ = some (.slice C.d C.nd C.cd) ∧ w'.cell? ⟨w.heap.size + 1, 4, none⟩ = some (.slice C.xa C.xn C.xc)) := fun w' h => ⟨(Pb.below h) 0 _ rfl, (Pb.below h) 1 _ rfl, (Pb.below h) 2 _ rfl, (Pb.below h) 3 _ rfl, (Pb.below h) 4 _ rfl, (Pb.below h) 5 _ rfl, (Pb.below h) 6 _ rfl, (Cb.below h) 1 _ rfl, (Cb.below h) 2 _ rfl, (Cb.below h) 3 _ rfl, (Cb.below h) 4 _ rfl⟩
        refine wp_region_noPanic (wp_region_guard (fun _ w' => w'.cell? ⟨w.heap.size, 0, none⟩ = some (.bool P.mx) ∧ w'.cell? ⟨w.heap.size, 1, none⟩ = some (.string P.nm) ∧ w'.cell? ⟨w.heap.size, 2, none⟩ = some (.bool P.p) ∧ w'.cell? ⟨w.heap.size, 3, none⟩ = some (.slice P.a P.na P.ca) ∧ w'.cell? ⟨w.heap.size, 4, none⟩ = some (.slice P.d P.nd P.cd) ∧ w'.cell? ⟨w.heap.size, 5, none⟩ = some (.slice P.va P.vn P.vc) ∧ w'.cell? ⟨w.heap.size, 6, none⟩ = some (.slice P.ra P.rn P.rc) ∧ w'.cell? ⟨w.heap.size + 1, 1, none⟩ = some (.bool C.p) ∧ w'.cell? ⟨w.heap.size + 1, 2, none⟩ = some (.slice C.a C.na C.ca) ∧ w'.cell? ⟨w.heap.size + 1, 3, none⟩ = some (.slice C.d C.nd C.cd) ∧ w'.cell? ⟨w.heap.size + 1, 4, none⟩ = some (.slice C.xa C.xn C.xc)) (by as_aux_lemma => kernel_rfl) ?_)
        have hc0 : Below z2.heap.size z2 z2.drew := bel_d1 _
        generalize z2.drew = y0 at *
        refine wpAnyG.take 0 (v := .bool true) (by decide) (by as_aux_lemma => kernel_rfl) (fun _ _ _ h => h) 18 _ (by rfl) (fun _ _ => Iff.rfl) (fun _ _ _ h => h) (by as_aux_lemma => kernel_rfl) (by as_aux_lemma => kernel_rfl) (by as_aux_lemma => kernel_rfl) (by rfl) ?y0 (HBX _ hc0) (by rfl) ?_
        case y0 =>
          rintro w' ⟨q0, q1, q2, q3, q4, q5, q6, q7, q8, q9, q10⟩
          simp only [lgA, lgZ]
          go_simp
        simp only [lgA, lgZ, Act.put, lsA, lsZ, lsS]
        refine wpAnyG.take 1 (v := .bool true) (by decide) (by as_aux_lemma => kernel_rfl) (fun _ _ _ h => h) 18 _ (by rfl) (fun _ _ => Iff.rfl) (fun _ _ _ h => h) (by as_aux_lemma => kernel_rfl) (by as_aux_lemma => kernel_rfl) (by as_aux_lemma => kernel_rfl) (by rfl) ?y1 (HBX _ hc0) (by rfl) ?_
        case y1 =>
          rintro w' ⟨q0, q1, q2, q3, q4, q5, q6, q7, q8, q9, q10⟩
          simp only [lgA, lgZ, lgS]
          go_simp
        simp only [lgA, lgZ, lgS, Act.put, lsA, lsZ, lsS]
        refine wpAnyG.take 2 (v := .int .i64 0) (by decide) (by as_aux_lemma => kernel_rfl) (fun _ _ _ h => h) 18 _ (by rfl) (fun _ _ => Iff.rfl) (fun _ _ _ h => h) (by as_aux_lemma => kernel_rfl) (by as_aux_lemma => kernel_rfl) (by as_aux_lemma => kernel_rfl) (by rfl) ?y2 (HBX _ hc0) (by rfl) ?_
        case y2 =>
          rintro w' ⟨q0, q1, q2, q3, q4, q5, q6, q7, q8, q9, q10⟩
          simp only [lgA, lgZ, lgS]
          go_simp
        simp only [lgA, lgZ, lgS, Act.put, lsA, lsZ, lsS]
        refine wpAnyG.take 3 (v := .bool true) (by decide) (by as_aux_lemma => kernel_rfl) (fun _ _ _ h => h) 18 _ (by rfl) (fun _ _ => Iff.rfl) (fun _ _ _ h => h) (by as_aux_lemma => kernel_rfl) (by as_aux_lemma => kernel_rfl) (by as_aux_lemma => kernel_rfl) (by rfl) ?y3 (HBX _ hc0) (by rfl) ?_
        case y3 =>
          rintro w' ⟨q0, q1, q2, q3, q4, q5, q6, q7, q8, q9, q10⟩
          simp only [lgA, lgZ, lgS]
          go_simp
        simp only [lgA, lgZ, lgS, Act.put, lsA, lsZ, lsS]
        refine wpAnyG.take 4 (v := .bool true) (by decide) (by as_aux_lemma => kernel_rfl) (fun _ _ _ h => h) 18 _ (by rfl) (fun _ _ => Iff.rfl) (fun _ _ _ h => h) (by as_aux_lemma => kernel_rfl) (by as_aux_lemma => kernel_rfl) (by as_aux_lemma => kernel_rfl) (by rfl) ?y4 (HBX _ hc0) (by rfl) ?_
        case y4 =>
          rintro w' ⟨q0, q1, q2, q3, q4, q5, q6, q7, q8, q9, q10⟩
          simp only [lgA, lgZ, lgS]
          go_simp
        simp only [lgA, lgZ, lgS, Act.put, lsA, lsZ, lsS]
        refine wpAnyG.take 5 (v := .bool true) (by decide) (by as_aux_lemma => kernel_rfl) (fun _ _ _ h => h) 18 _ (by rfl) (fun _ _ => Iff.rfl) (fun _ _ _ h => h) (by as_aux_lemma => kernel_rfl) (by as_aux_lemma => kernel_rfl) (by as_aux_lemma => kernel_rfl) (by rfl) ?y5 (HBX _ hc0) (by rfl) ?_
        case y5 =>
          rintro w' ⟨q0, q1, q2, q3, q4, q5, q6, q7, q8, q9, q10⟩
          simp only [lgA, lgZ, lgS]
          go_simp
        simp only [lgA, lgZ, lgS, Act.put, lsA, lsZ, lsS]
        refine wpAnyG.take 6 (v := .bool true) (by decide) (by as_aux_lemma => kernel_rfl) (fun _ _ _ h => h) 18 _ (by rfl) (fun _ _ => Iff.rfl) (fun _ _ _ h => h) (by as_aux_lemma => kernel_rfl) (by as_aux_lemma => kernel_rfl) (by as_aux_lemma => kernel_rfl) (by rfl) ?y6 (HBX _ hc0) (by rfl) ?_
        case y6 =>
          rintro w' ⟨q0, q1, q2, q3, q4, q5, q6, q7, q8, q9, q10⟩
          simp only [lgA, lgZ, lgS]
          go_simp
        simp only [lgA, lgZ, lgS, Act.put, lsA, lsZ, lsS]
        refine wpAnyG.take 7 (v := .bool true) (by decide) (by as_aux_lemma => kernel_rfl) (fun _ _ _ h => h) 18 _ (by rfl) (fun _ _ => Iff.rfl) (fun _ _ _ h => h) (by as_aux_lemma => kernel_rfl) (by as_aux_lemma => kernel_rfl) (by as_aux_lemma => kernel_rfl) (by rfl) ?y7 (HBX _ hc0) (by rfl) ?_
        case y7 =>
          rintro w' ⟨q0, q1, q2, q3, q4, q5, q6, q7, q8, q9, q10⟩
          simp only [lgA, lgZ, lgS]
          go_simp
        simp only [lgA, lgZ, lgS, Act.put, lsA, lsZ, lsS]
        refine wpAnyG.take 8 (v := .agg #[.bool P.mx, .string P.nm, .bool P.p, .slice P.a P.na P.ca, .slice P.d P.nd P.cd, .slice P.va P.vn P.vc, .slice P.ra P.rn P.rc]) (by decide) (by as_aux_lemma => kernel_rfl) (fun _ _ _ h => h) 18 _ (by rfl) (fun _ _ => Iff.rfl) (fun _ _ _ h => h) (by as_aux_lemma => kernel_rfl) (by as_aux_lemma => kernel_rfl) (by as_aux_lemma => kernel_rfl) (by rfl) ?y8 (HBX _ hc0) (by rfl) ?_
        case y8 =>
          rintro w' ⟨q0, q1, q2, q3, q4, q5, q6, q7, q8, q9, q10⟩
          simp only [lgA, lgZ, lgS]
          go_simp
        simp only [lgA, lgZ, lgS, Act.put, lsA, lsZ, lsS]
        refine wpAnyG.take 9 (v := .agg #[.bool P.mx, .string P.nm, .bool P.p, .slice P.a P.na P.ca, .slice P.d P.nd P.cd, .slice P.va P.vn P.vc, .slice P.ra P.rn P.rc]) (by decide) (by as_aux_lemma => kernel_rfl) (fun _ _ _ h => h) 18 _ (by rfl) (fun _ _ => Iff.rfl) (fun _ _ _ h => h) (by as_aux_lemma => kernel_rfl) (by as_aux_lemma => kernel_rfl) (by as_aux_lemma => kernel_rfl) (by rfl) ?y9 (HBX _ hc0) (by rfl) ?_
        case y9 =>
          rintro w' ⟨q0, q1, q2, q3, q4, q5, q6, q7, q8, q9, q10⟩
          simp only [lgA, lgZ, lgS]
          go_simp
        simp only [lgA, lgZ, lgS, Act.put, lsA, lsZ, lsS]
        refine wpAnyG.take 10 (v := .slice xa nx xc) (by decide) (by as_aux_lemma => kernel_rfl) (fun _ _ _ h => h) 18 _ (by rfl) (fun _ _ => Iff.rfl) (fun _ _ _ h => h) (by as_aux_lemma => kernel_rfl) (by as_aux_lemma => kernel_rfl) (by as_aux_lemma => kernel_rfl) (by rfl) ?y10 (HBX _ hc0) (by rfl) ?_
        case y10 =>
          rintro w' ⟨q0, q1, q2, q3, q4, q5, q6, q7, q8, q9, q10⟩
          simp only [lgA, lgZ, lgS]
          go_simp
        simp only [lgA, lgZ, lgS, Act.put, lsA, lsZ, lsS]
        refine wpAnyG.take 12 (v := .pointer (some ⟨w.heap.size + 1, 1, none⟩)) (by decide) (by as_aux_lemma => kernel_rfl) (fun _ _ _ h => h) 18 _ (by rfl) (fun _ _ => Iff.rfl) (fun _ _ _ h => h) (by as_aux_lemma => kernel_rfl) (by as_aux_lemma => kernel_rfl) (by as_aux_lemma => kernel_rfl) (by rfl) ?y12 (HBX _ hc0) (by rfl) ?_
        case y12 =>
          rintro w' ⟨q0, q1, q2, q3, q4, q5, q6, q7, q8, q9, q10⟩
          simp only [lgA, lgZ, lgS]
          go_simp
        simp only [lgA, lgZ, lgS, Act.put, lsA, lsZ, lsS]
        refine wpAnyG.take 13 (v := .agg #[.bool C.p, .slice C.a C.na C.ca, .slice C.d C.nd C.cd]) (by decide) (by as_aux_lemma => kernel_rfl) (fun _ _ _ h => h) 18 _ (by rfl) (fun _ _ => Iff.rfl) (fun _ _ _ h => h) (by as_aux_lemma => kernel_rfl) (by as_aux_lemma => kernel_rfl) (by as_aux_lemma => kernel_rfl) (by rfl) ?y13 (HBX _ hc0) (by rfl) ?_
        case y13 =>
          rintro w' ⟨q0, q1, q2, q3, q4, q5, q6, q7, q8, q9, q10⟩
          simp only [lgA, lgZ, lgS]
          go_simp
        simp only [lgA, lgZ, lgS, Act.put, lsA, lsZ, lsS]
        refine wpAnyG.one 11 (by as_aux_lemma => kernel_rfl) (by decide) (by rfl) (fun K hK => ?_)
        simp only [lgA, lgZ, lgS]
        go_simp
        refine (valD2 P (Kx := Kx) y0 (hP.below (bel_tr hb5 hc0)) (hx.below (bel_tr hb5 hc0)) hzx htx (by omega)).mono ?_
        rintro e y1 ⟨f1, d1, n1, k1, d2, n2, k2, rfl, G1, hk1⟩
        have hc1 : Below z2.heap.size z2 y1 := bel_tr hc0 hk1
        dsimp only
        refine hK _ _ (HBX _ hc1) ?_
        clear hK K
        refine wpAnyG.one 14 (by as_aux_lemma => kernel_rfl) (by decide) (by rfl) (fun K hK => ?_)
        simp only [lgA, lgZ, lgS]
        go_simp
        refine (betterQ P false y1 G1.tr (hC.v.below (bel_tr hb5 hc1)) (by omega) (by omega) hC.s1 HW.out).mono ?_
        rintro e y2 ⟨rfl, hk2⟩
        have hc2 : Below z2.heap.size z2 y2 := bel_tr hc1 hk2
        dsimp only
        refine hK _ _ (HBX _ hc2) ?_
        clear hK K
        refine wpAnyG.take 15 (v := .bool false) (by decide) (by as_aux_lemma => kernel_rfl) (fun _ _ _ h => h) 18 _ (by rfl) (fun _ _ => Iff.rfl) (fun _ _ _ h => h) (by as_aux_lemma => kernel_rfl) (by as_aux_lemma => kernel_rfl) (by as_aux_lemma => kernel_rfl) (by rfl) ?y15 (HBX _ hc2) (by rfl) ?_
        case y15 =>
          rintro w' ⟨q0, q1, q2, q3, q4, q5, q6, q7, q8, q9, q10⟩
          simp only [lgA, lgZ, lgS]
          go_simp
        simp only [lgA, lgZ, lgS, Act.put, lsA, lsZ, lsS]
        refine wpAnyG.take 16 (v := .bool true) (by decide) (by as_aux_lemma => kernel_rfl) (fun _ _ _ h => h) 18 _ (by rfl) (fun _ _ => Iff.rfl) (fun _ _ _ h => h) (by as_aux_lemma => kernel_rfl) (by as_aux_lemma => kernel_rfl) (by as_aux_lemma => kernel_rfl) (by rfl) ?y16 (HBX _ hc2) (by rfl) ?_
        case y16 =>
          rintro w' ⟨q0, q1, q2, q3, q4, q5, q6, q7, q8, q9, q10⟩
          simp only [lgA, lgZ, lgS]
          go_simp
        simp only [lgA, lgZ, lgS, Act.put, lsA, lsZ, lsS]
        refine wpAnyG.take 17 (v := .bool true) (by decide) (by as_aux_lemma => kernel_rfl) (fun _ _ _ h => h) 18 _ (by rfl) (fun _ _ => Iff.rfl) (fun _ _ _ h => h) (by as_aux_lemma => kernel_rfl) (by as_aux_lemma => kernel_rfl) (by as_aux_lemma => kernel_rfl) (by rfl) ?y17 (HBX _ hc2) (by rfl) ?_
        case y17 =>
          rintro w' ⟨q0, q1, q2, q3, q4, q5, q6, q7, q8, q9, q10⟩
          simp only [lgA, lgZ, lgS]
          go_simp
        simp only [lgA, lgZ, lgS, Act.put, lsA, lsZ, lsS]
        refine wpAnyG.one 18 (by as_aux_lemma => kernel_rfl) (by decide) (by rfl) (fun K hK => ?_)
        simp only [lgA, lgZ, lgS]
        go_simp
        refine hK _ _ (HBX _ hc2) ?_
        clear hK K
        refine wpAnyG.done (by as_aux_lemma => kernel_rfl) (NoPanic.normal ?_)
        have hw := bel_tr hb5 hc2
        clear HBX hc0 hc1 hc2 hk1 hk2 G1 Pb Cb hb5 HW
        go_wp2
        go_ret
        exact ⟨rfl, hw⟩
    · obtain rfl : b = false := by
        cases b
        · rfl
        · exact absurd (HH.out.1 (by first | rfl | trivial)) (hnone _ _)
      rw [hvd] at c0
      clear HH hnone HS hvd
      go_wp2
      go_ret
      exact ⟨rfl, hb3⟩
    · have HXN : Hid (C.xn = P.vn) := hxn
      have HZN : Hid (C.zn = C.xn) := by show C.zn = C.xn; omega
      have HL1 : Hid (Hlds P C.xn (fun j => C.X j + absR t * C.Z j)) := hlds_ray (absR_nn t) hl hd
      have HL2 : Hid (Hlds P C.xn (fun j => C.X j + (absR t + ((1 : Int) : Rat)) * C.Z j)) := hlds_ray (by have := absR_nn t; rw [q1]; grind) hl hd
      have HBT : Hid (true = true ↔ btr P (vlu P (fun j => C.X j + (absR t + ((1 : Int) : Rat)) * C.Z j)) (vlu P (fun j => C.X j + absR t * C.Z j))) := by
        show true = true ↔ _
        rw [q1]
        exact ⟨fun _ => imp_btr hi, fun _ => rfl⟩
      rw [hvd] at c0
      obtain ⟨t0, t1, t2, t3, t4, t5⟩ := id Tb
      have hxv : C.xn ≤ 1048576 := by have := tot_len C.ZX C.xn; omega
      have hCz : ∀ i, i < C.xn → 1 ≤ C.ZZ i ∧ SzR (C.Z i) (C.ZZ i) := fun i hi => hC.zz i (by have := HZN.out; omega)
      have htz : tot C.ZZ C.xn = tot C.ZZ C.zn := by rw [HZN.out]
      clear hvd hxn hzn hl hd hi HS HH
      go_wp2_with fail
      clear c0 t0 t1 t2 t3 t4 t5
      refine (absD w3 (ht.below hb3) (by omega) hKt).mono ?_
      rintro e w4 ⟨fT, cT, nT, kT, dT, mT, lT, rfl, GT0, h4⟩
      have hb4 := bel_tr hb3 h4
      have hsw4 := h4.size
      replace Pb := Pb.below h4
      replace Cb := Cb.below h4
      replace Tb := Tb.below h4
      obtain ⟨t0, t1, t2, t3, t4, t5⟩ := id Tb
      obtain ⟨Tb5, O⟩ := Tb.set (.bool fT) (.slice cT nT kT) (.slice dT mT lT)
      have GT1 := GT0.off O (by omega)
      have hb5 : Below w.heap.size w _ := hb4.trans (O.below (by omega))
      have Pb5 : BoxC _ w.heap.size (#[.bool P.mx, .string P.nm, .bool P.p, .slice P.a P.na P.ca, .slice P.d P.nd P.cd, .slice P.va P.vn P.vc, .slice P.ra P.rn P.rc]).toList := fun i u hu => (World.cell?_of_block (O.block w.heap.size (by omega))).trans (Pb i u hu)
      have Cb5 : BoxC _ (w.heap.size + 1) (#[.int .i64 C.vd, .bool C.p, .slice C.a C.na C.ca, .slice C.d C.nd C.cd, .slice C.xa C.xn C.xc, .slice C.ya C.yn C.yc, .slice C.za C.zn C.zc]).toList := fun i u hu => (World.cell?_of_block (O.block (w.heap.size + 1) (by omega))).trans (Cb i u hu)
      have c4 := Cb5 4 _ rfl
      have c6 := Cb5 6 _ rfl
      have s0 := Tb5.c0
      have s1 := Tb5.c1
      have s2 := Tb5.c2
      clear GT0 O Tb Pb Cb h4 hb3
      go_wp2_with fail
      clear c4 c6 s0 s1 s2 t0 t1 t2 t3 t4 t5
      generalize ((w4.setCell ⟨w.heap.size + 2, 0, none⟩ (.bool fT)).setCell ⟨w.heap.size + 2, 1, none⟩ (.slice cT nT kT)).setCell ⟨w.heap.size + 2, 2, none⟩ (.slice dT mT lT) = w5 at *
      have hsz : ∀ i, i < C.xn → 1 ≤ C.ZX i ∧ C.ZX i ≤ C.K := fun i hi => ⟨(hC.zx i hi).1, by have := tot_le (Z := C.ZX) hi; omega⟩
      have HFAR : ∀ (w' : World) (r : Rat) (Kr : Nat) (f2 : Bool) (e1 : Option Addr) (n3 k3 : Nat) (e2 : Option Addr) (n4 k4 : Nat), Below w.heap.size w w' → TR w' f2 e1 n3 k3 e2 n4 k4 r Kr → 1 ≤ Kr → Kr ≤ Kt + 2 → Calls Tryz.prog 13 #[.slice C.xa C.xn C.xc, .agg #[.bool f2, .slice e1 n3 k3, .slice e2 n4 k4], .slice C.za C.zn C.zc] w' fun e w'' => ∃ b cap, e = .returned (.slice b C.xn cap) ∧ LQ w'' b C.xn (fun j => C.X j + r * C.Z j) (fun _ => C.K + Kr + C.K + 1) ∧ Below w'.heap.size w' w'' := fun w' r Kr f2 e1 n3 k3 e2 n4 k4 hb htr h1 h2 => by
        have hzl : LQ w' C.za C.xn C.Z C.ZZ := by rw [← HZN.out]; exact hC.z.below hb
        have hszz : ∀ i, i < C.xn → 1 ≤ C.ZZ i ∧ C.ZZ i ≤ C.K := fun i hi => ⟨(hCz i hi).1, by have := tot_le (Z := C.ZZ) (show i < C.zn by have := HZN.out; omega); omega⟩
        rw [HZN.out]
        exact fartherQ (Kx := C.K) (Kz := C.K) (Kt := Kr) w' (hC.x.below hb) hsz hzl hszz htr h1 (by omega) hxv
      have hsum : tot C.ZX C.xn + tot C.ZZ C.xn ≤ C.K := by
        have e : tot C.ZZ C.xn = tot C.ZZ C.zn := by rw [HZN.out]
        have h2 := hC.all
        omega
      obtain ⟨D1, a1, a2, a3⟩ := far_wd (X := C.X) (Z := C.Z) (K := C.K) (fun i hi => (hC.zx i hi).2) (fun i hi => (hCz i hi).2) hsum (GT1.tr.sz hKt)
      have HD1 : Hid (0 < D1 ∧ D1 < pw (C.K + Kt + 1) ∧ ∀ i, i < C.xn → Wd (C.K + Kt + 1) D1 (C.X i + absR t * C.Z i)) := ⟨a1, a2, a3⟩
      have HSUM : Hid (tot C.ZX C.xn + tot C.ZZ C.xn ≤ C.K) := hsum
      clear a1 a2 a3 hsum htz
      refine (HFAR w5 (absR t) Kt fT cT nT kT dT mT lT hb5 GT1.tr hKt (by omega)).mono ?_
      rintro e w6 ⟨nb, nc, rfl, LN, h6⟩
      have hb6 := bel_tr hb5 h6
      have GT := GT1.below h6
      have Pb := Pb5.below h6
      have Cb := Cb5.below h6
      have Tb := Tb5.below h6
      clear h6 hb5 Pb5 Cb5 Tb5 GT1
      obtain ⟨t0, t1, t2, _, _, _⟩ := id Tb
      have c4 := Cb 4 _ rfl
      have c6 := Cb 6 _ rfl
      go_wp2_with fail
      have HBX : ∀ w', Below w6.heap.size w6 w' → (w'.cell? ⟨w.heap.size + 1, 4, none⟩ = some (.slice C.xa C.xn C.xc) ∧ w'.cell? ⟨w.heap.size + 1, 6, none⟩ = some (.slice C.za C.zn C.zc) ∧ w'.cell? ⟨w.heap.size + 2, 0, none⟩ = some (.bool fT) ∧ w'.cell? ⟨w.heap.size + 2, 1, none⟩ = some (.slice cT nT kT) ∧ w'.cell? ⟨w.heap.size + 2, 2, none⟩ = some (.slice dT mT lT)) := fun w' h => ⟨kept_c h c4, kept_c h c6, kept_c h t0, kept_c h t1, kept_c h t2⟩
      clear c4 c6 t0 t1 t2
      refine wp_region_noPanic (wp_region_guard (fun _ w' => w'.cell? ⟨w.heap.size + 1, 4, none⟩ = some (.slice C.xa C.xn C.xc) ∧ w'.cell? ⟨w.heap.size + 1, 6, none⟩ = some (.slice C.za C.zn C.zc) ∧ w'.cell? ⟨w.heap.size + 2, 0, none⟩ = some (.bool fT) ∧ w'.cell? ⟨w.heap.size + 2, 1, none⟩ = some (.slice cT nT kT) ∧ w'.cell? ⟨w.heap.size + 2, 2, none⟩ = some (.slice dT mT lT)) (by as_aux_lemma => kernel_rfl) ?_)
      have hc0 : Below w6.heap.size w6 w6.drew := bel_d1 _
      generalize w6.drew = z0 at *
      refine wpAnyG.take 0 (v := .pointer (some ⟨w.heap.size + 1, 4, none⟩)) (by decide) (by as_aux_lemma => kernel_rfl) (fun _ _ _ h => h) 8 _ (by rfl) (fun _ _ => Iff.rfl) (fun _ _ _ h => h) (by as_aux_lemma => kernel_rfl) (by as_aux_lemma => kernel_rfl) (by as_aux_lemma => kernel_rfl) (by rfl) ?y0 (HBX _ hc0) (by rfl) ?_
      case y0 =>
        rintro w' ⟨q0, q1, q2, q3, q4⟩
        simp only [lgA, lgZ]
        go_simp
      simp only [lgA, lgZ, Act.put, lsA, lsZ, lsS]
      refine wpAnyG.take 1 (v := .slice C.xa C.xn C.xc) (by decide) (by as_aux_lemma => kernel_rfl) (fun _ _ _ h => h) 8 _ (by rfl) (fun _ _ => Iff.rfl) (fun _ _ _ h => h) (by as_aux_lemma => kernel_rfl) (by as_aux_lemma => kernel_rfl) (by as_aux_lemma => kernel_rfl) (by rfl) ?y1 (HBX _ hc0) (by rfl) ?_
      case y1 =>
        rintro w' ⟨q0, q1, q2, q3, q4⟩
        simp only [lgA, lgZ, lgS]
        go_simp
      simp only [lgA, lgZ, lgS, Act.put, lsA, lsZ, lsS]
      refine wpAnyG.take 2 (v := .agg #[.bool fT, .slice cT nT kT, .slice dT mT lT]) (by decide) (by as_aux_lemma => kernel_rfl) (fun _ _ _ h => h) 8 _ (by rfl) (fun _ _ => Iff.rfl) (fun _ _ _ h => h) (by as_aux_lemma => kernel_rfl) (by as_aux_lemma => kernel_rfl) (by as_aux_lemma => kernel_rfl) (by rfl) ?y2 (HBX _ hc0) (by rfl) ?_
      case y2 =>
        rintro w' ⟨q0, q1, q2, q3, q4⟩
        simp only [lgA, lgZ, lgS]
        go_simp
      simp only [lgA, lgZ, lgS, Act.put, lsA, lsZ, lsS]
      refine wpAnyG.take 5 (v := .pointer (some ⟨w.heap.size + 1, 6, none⟩)) (by decide) (by as_aux_lemma => kernel_rfl) (fun _ _ _ h => h) 8 _ (by rfl) (fun _ _ => Iff.rfl) (fun _ _ _ h => h) (by as_aux_lemma => kernel_rfl) (by as_aux_lemma => kernel_rfl) (by as_aux_lemma => kernel_rfl) (by rfl) ?y5 (HBX _ hc0) (by rfl) ?_
      case y5 =>
        rintro w' ⟨q0, q1, q2, q3, q4⟩
        simp only [lgA, lgZ, lgS]
        go_simp
      simp only [lgA, lgZ, lgS, Act.put, lsA, lsZ, lsS]
      refine wpAnyG.take 6 (v := .slice C.za C.zn C.zc) (by decide) (by as_aux_lemma => kernel_rfl) (fun _ _ _ h => h) 8 _ (by rfl) (fun _ _ => Iff.rfl) (fun _ _ _ h => h) (by as_aux_lemma => kernel_rfl) (by as_aux_lemma => kernel_rfl) (by as_aux_lemma => kernel_rfl) (by rfl) ?y6 (HBX _ hc0) (by rfl) ?_
      case y6 =>
        rintro w' ⟨q0, q1, q2, q3, q4⟩
        simp only [lgA, lgZ, lgS]
        go_simp
      simp only [lgA, lgZ, lgS, Act.put, lsA, lsZ, lsS]
      refine wpAnyG.one 3 (by as_aux_lemma => kernel_rfl) (by decide) (by rfl) (fun K hK => ?_)
      simp only [lgA, lgZ, lgS]
      go_simp
      refine (nQ14 1 z0 (by decide) (by decide)).mono ?_
      rintro e z1 ⟨f1, d1, n1, k1, d2, n2, k2, rfl, G1, hk1⟩
      have hc1 : Below w6.heap.size w6 z1 := bel_tr hc0 hk1
      dsimp only
      refine hK _ _ (HBX _ hc1) ?_
      clear hK K
      refine wpAnyG.one 4 (by as_aux_lemma => kernel_rfl) (by decide) (by rfl) (fun K hK => ?_)
      simp only [lgA, lgZ, lgS]
      go_simp
      refine (addD z1 (GT.tr.below hc1) G1.tr (by omega) hKt (by omega)).mono ?_
      rintro e z2 ⟨f2, e1, n3, k3, e2, n4, k4, rfl, G2, hk2⟩
      have hc2 : Below w6.heap.size w6 z2 := bel_tr hc1 hk2
      dsimp only
      refine hK _ _ (HBX _ hc2) ?_
      clear hK K
      refine wpAnyG.one 7 (by as_aux_lemma => kernel_rfl) (by decide) (by rfl) (fun K hK => ?_)
      simp only [lgA, lgZ, lgS]
      go_simp
      refine (HFAR z2 _ (Kt + 1 + 1) f2 e1 n3 k3 e2 n4 k4 (bel_tr hb6 hc2) G2.tr (by omega) (by omega)).mono ?_
      rintro e z3 ⟨fb, fc, rfl, LF, hk3⟩
      have hc3 : Below w6.heap.size w6 z3 := bel_tr hc2 hk3
      dsimp only
      refine hK _ _ (HBX _ hc3) ?_
      clear hK K
      refine wpAnyG.one 8 (by as_aux_lemma => kernel_rfl) (by decide) (by rfl) (fun K hK => ?_)
      simp only [lgA, lgZ, lgS]
      go_simp
      refine hK _ _ (HBX _ hc3) ?_
      clear hK K
      refine wpAnyG.done (by as_aux_lemma => kernel_rfl) (NoPanic.normal ?_)
      have hb7 := bel_tr hb6 hc3
      have Pb7 := Pb.below hc3
      have LN7 := LN.below hc3
      obtain ⟨D2, a1, a2, a3⟩ := far_wd (X := C.X) (Z := C.Z) (K := C.K) (fun i hi => (hC.zx i hi).2) (fun i hi => (hCz i hi).2) HSUM.out (G2.tr.sz (by omega))
      have HD2 : Hid (0 < D2 ∧ D2 < pw (C.K + (Kt + 1 + 1) + 1) ∧ ∀ i, i < C.xn → Wd (C.K + (Kt + 1 + 1) + 1) D2 (C.X i + (absR t + ((1 : Int) : Rat)) * C.Z i)) := ⟨a1, a2, a3⟩
      clear a1 a2 a3 HBX hc0 hc1 hc2 hc3 hk1 hk2 hk3 G1 G2 GT Tb Cb Pb LN hb6 HSUM HFAR
      have p0 := Pb7 0 _ rfl; have p1 := Pb7 1 _ rfl; have p2 := Pb7 2 _ rfl; have p3 := Pb7 3 _ rfl; have p4 := Pb7 4 _ rfl; have p5 := Pb7 5 _ rfl; have p6 := Pb7 6 _ rfl
      go_wp2_with fail
      clear p0 p1 p2 p3 p4 p5 p6
      refine (holdD3 P (U := C.K + Kt + C.K + 1) z3 (hP.below hb7) LN7 (fun j hj => ⟨by show 1 ≤ C.K + Kt + C.K + 1; omega, Nat.le_refl _⟩) ⟨by omega, by omega⟩ HD1.out.1 HD1.out.2.1 HD1.out.2.2 (by omega) (by omega)).mono ?_
      rintro e w8 ⟨b1, rfl, hbb, h8⟩
      obtain rfl : b1 = true := hbb.2 HL1.out
      have hb8 := bel_tr hb7 h8
      have Pb8 := Pb7.below h8
      have LN8 := LN7.below h8
      have LF8 := LF.below h8
      clear h8 hbb hb7 Pb7 LN7 LF
      have p0 := Pb8 0 _ rfl; have p1 := Pb8 1 _ rfl; have p2 := Pb8 2 _ rfl; have p3 := Pb8 3 _ rfl; have p4 := Pb8 4 _ rfl; have p5 := Pb8 5 _ rfl; have p6 := Pb8 6 _ rfl
      go_wp2_with fail
      clear p0 p1 p2 p3 p4 p5 p6
      refine (holdD3 P (U := C.K + (Kt + 1 + 1) + C.K + 1) w8 (hP.below hb8) LF8 (fun j hj => ⟨by show 1 ≤ C.K + (Kt + 1 + 1) + C.K + 1; omega, Nat.le_refl _⟩) ⟨by omega, by omega⟩ HD2.out.1 HD2.out.2.1 HD2.out.2.2 (by omega) (by omega)).mono ?_
      rintro e w9 ⟨b2, rfl, hbb, h9⟩
      obtain rfl : b2 = true := hbb.2 HL2.out
      have hb9 := bel_tr hb8 h9
      have Pb := Pb8.below h9
      have LN := LN8.below h9
      have LF := LF8.below h9
      clear h9 hbb hb8 Pb8 LN8 LF8
      go_wp2_with fail
      have HBX : ∀ w', Below w9.heap.size w9 w' → (w'.cell? ⟨w.heap.size, 0, none⟩ = some (.bool P.mx) ∧ w'.cell? ⟨w.heap.size, 1, none⟩ = some (.string P.nm) ∧ w'.cell? ⟨w.heap.size, 2, none⟩ = some (.bool P.p) ∧ w'.cell? ⟨w.heap.size, 3, none⟩ = some (.slice P.a P.na P.ca) ∧ w'.cell? ⟨w.heap.size, 4, none⟩ = some (.slice P.d P.nd P.cd) ∧ w'.cell? ⟨w.heap.size, 5, none⟩ = some (.slice P.va P.vn P.vc) ∧ w'.cell? ⟨w.heap.size, 6, none⟩ = some (.slice P.ra P.rn P.rc)) := fun w' h => ⟨(Pb.below h) 0 _ rfl, (Pb.below h) 1 _ rfl, (Pb.below h) 2 _ rfl, (Pb.below h) 3 _ rfl, (Pb.below h) 4 _ rfl, (Pb.below h) 5 _ rfl, (Pb.below h) 6 _ rfl⟩
      refine wp_region_noPanic (wp_region_guard (fun _ w' => w'.cell? ⟨w.heap.size, 0, none⟩ = some (.bool P.mx) ∧ w'.cell? ⟨w.heap.size, 1, none⟩ = some (.string P.nm) ∧ w'.cell? ⟨w.heap.size, 2, none⟩ = some (.bool P.p) ∧ w'.cell? ⟨w.heap.size, 3, none⟩ = some (.slice P.a P.na P.ca) ∧ w'.cell? ⟨w.heap.size, 4, none⟩ = some (.slice P.d P.nd P.cd) ∧ w'.cell? ⟨w.heap.size, 5, none⟩ = some (.slice P.va P.vn P.vc) ∧ w'.cell? ⟨w.heap.size, 6, none⟩ = some (.slice P.ra P.rn P.rc)) (by as_aux_lemma => kernel_rfl) ?_)
      have hc0 : Below w9.heap.size w9 w9.drew := bel_d1 _
      generalize w9.drew = z0 at *
      refine wpAnyG.take 0 (v := .bool true) (by decide) (by as_aux_lemma => kernel_rfl) (fun _ _ _ h => h) 14 _ (by rfl) (fun _ _ => Iff.rfl) (fun _ _ _ h => h) (by as_aux_lemma => kernel_rfl) (by as_aux_lemma => kernel_rfl) (by as_aux_lemma => kernel_rfl) (by rfl) ?y0 (HBX _ hc0) (by rfl) ?_
      case y0 =>
        rintro w' ⟨q0, q1, q2, q3, q4, q5, q6⟩
        simp only [lgA, lgZ]
        go_simp
      simp only [lgA, lgZ, Act.put, lsA, lsZ, lsS]
      refine wpAnyG.take 1 (v := .bool true) (by decide) (by as_aux_lemma => kernel_rfl) (fun _ _ _ h => h) 14 _ (by rfl) (fun _ _ => Iff.rfl) (fun _ _ _ h => h) (by as_aux_lemma => kernel_rfl) (by as_aux_lemma => kernel_rfl) (by as_aux_lemma => kernel_rfl) (by rfl) ?y1 (HBX _ hc0) (by rfl) ?_
      case y1 =>
        rintro w' ⟨q0, q1, q2, q3, q4, q5, q6⟩
        simp only [lgA, lgZ, lgS]
        go_simp
      simp only [lgA, lgZ, lgS, Act.put, lsA, lsZ, lsS]
      refine wpAnyG.take 2 (v := .bool true) (by decide) (by as_aux_lemma => kernel_rfl) (fun _ _ _ h => h) 14 _ (by rfl) (fun _ _ => Iff.rfl) (fun _ _ _ h => h) (by as_aux_lemma => kernel_rfl) (by as_aux_lemma => kernel_rfl) (by as_aux_lemma => kernel_rfl) (by rfl) ?y2 (HBX _ hc0) (by rfl) ?_
      case y2 =>
        rintro w' ⟨q0, q1, q2, q3, q4, q5, q6⟩
        simp only [lgA, lgZ, lgS]
        go_simp
      simp only [lgA, lgZ, lgS, Act.put, lsA, lsZ, lsS]
      refine wpAnyG.take 3 (v := .bool true) (by decide) (by as_aux_lemma => kernel_rfl) (fun _ _ _ h => h) 14 _ (by rfl) (fun _ _ => Iff.rfl) (fun _ _ _ h => h) (by as_aux_lemma => kernel_rfl) (by as_aux_lemma => kernel_rfl) (by as_aux_lemma => kernel_rfl) (by rfl) ?y3 (HBX _ hc0) (by rfl) ?_
      case y3 =>
        rintro w' ⟨q0, q1, q2, q3, q4, q5, q6⟩
        simp only [lgA, lgZ, lgS]
        go_simp
      simp only [lgA, lgZ, lgS, Act.put, lsA, lsZ, lsS]
      refine wpAnyG.take 4 (v := .bool true) (by decide) (by as_aux_lemma => kernel_rfl) (fun _ _ _ h => h) 14 _ (by rfl) (fun _ _ => Iff.rfl) (fun _ _ _ h => h) (by as_aux_lemma => kernel_rfl) (by as_aux_lemma => kernel_rfl) (by as_aux_lemma => kernel_rfl) (by rfl) ?y4 (HBX _ hc0) (by rfl) ?_
      case y4 =>
        rintro w' ⟨q0, q1, q2, q3, q4, q5, q6⟩
        simp only [lgA, lgZ, lgS]
        go_simp
      simp only [lgA, lgZ, lgS, Act.put, lsA, lsZ, lsS]
      refine wpAnyG.take 5 (v := .agg #[.bool P.mx, .string P.nm, .bool P.p, .slice P.a P.na P.ca, .slice P.d P.nd P.cd, .slice P.va P.vn P.vc, .slice P.ra P.rn P.rc]) (by decide) (by as_aux_lemma => kernel_rfl) (fun _ _ _ h => h) 14 _ (by rfl) (fun _ _ => Iff.rfl) (fun _ _ _ h => h) (by as_aux_lemma => kernel_rfl) (by as_aux_lemma => kernel_rfl) (by as_aux_lemma => kernel_rfl) (by rfl) ?y5 (HBX _ hc0) (by rfl) ?_
      case y5 =>
        rintro w' ⟨q0, q1, q2, q3, q4, q5, q6⟩
        simp only [lgA, lgZ, lgS]
        go_simp
      simp only [lgA, lgZ, lgS, Act.put, lsA, lsZ, lsS]
      refine wpAnyG.take 6 (v := .agg #[.bool P.mx, .string P.nm, .bool P.p, .slice P.a P.na P.ca, .slice P.d P.nd P.cd, .slice P.va P.vn P.vc, .slice P.ra P.rn P.rc]) (by decide) (by as_aux_lemma => kernel_rfl) (fun _ _ _ h => h) 14 _ (by rfl) (fun _ _ => Iff.rfl) (fun _ _ _ h => h) (by as_aux_lemma => kernel_rfl) (by as_aux_lemma => kernel_rfl) (by as_aux_lemma => kernel_rfl) (by rfl) ?y6 (HBX _ hc0) (by rfl) ?_
      case y6 =>
        rintro w' ⟨q0, q1, q2, q3, q4, q5, q6⟩
        simp only [lgA, lgZ, lgS]
        go_simp
      simp only [lgA, lgZ, lgS, Act.put, lsA, lsZ, lsS]
      refine wpAnyG.take 7 (v := .slice fb C.xn fc) (by decide) (by as_aux_lemma => kernel_rfl) (fun _ _ _ h => h) 14 _ (by rfl) (fun _ _ => Iff.rfl) (fun _ _ _ h => h) (by as_aux_lemma => kernel_rfl) (by as_aux_lemma => kernel_rfl) (by as_aux_lemma => kernel_rfl) (by rfl) ?y7 (HBX _ hc0) (by rfl) ?_
      case y7 =>
        rintro w' ⟨q0, q1, q2, q3, q4, q5, q6⟩
        simp only [lgA, lgZ, lgS]
        go_simp
      simp only [lgA, lgZ, lgS, Act.put, lsA, lsZ, lsS]
      refine wpAnyG.take 9 (v := .agg #[.bool P.mx, .string P.nm, .bool P.p, .slice P.a P.na P.ca, .slice P.d P.nd P.cd, .slice P.va P.vn P.vc, .slice P.ra P.rn P.rc]) (by decide) (by as_aux_lemma => kernel_rfl) (fun _ _ _ h => h) 14 _ (by rfl) (fun _ _ => Iff.rfl) (fun _ _ _ h => h) (by as_aux_lemma => kernel_rfl) (by as_aux_lemma => kernel_rfl) (by as_aux_lemma => kernel_rfl) (by rfl) ?y9 (HBX _ hc0) (by rfl) ?_
      case y9 =>
        rintro w' ⟨q0, q1, q2, q3, q4, q5, q6⟩
        simp only [lgA, lgZ, lgS]
        go_simp
      simp only [lgA, lgZ, lgS, Act.put, lsA, lsZ, lsS]
      refine wpAnyG.take 10 (v := .slice nb C.xn nc) (by decide) (by as_aux_lemma => kernel_rfl) (fun _ _ _ h => h) 14 _ (by rfl) (fun _ _ => Iff.rfl) (fun _ _ _ h => h) (by as_aux_lemma => kernel_rfl) (by as_aux_lemma => kernel_rfl) (by as_aux_lemma => kernel_rfl) (by rfl) ?y10 (HBX _ hc0) (by rfl) ?_
      case y10 =>
        rintro w' ⟨q0, q1, q2, q3, q4, q5, q6⟩
        simp only [lgA, lgZ, lgS]
        go_simp
      simp only [lgA, lgZ, lgS, Act.put, lsA, lsZ, lsS]
      refine wpAnyG.one 8 (by as_aux_lemma => kernel_rfl) (by decide) (by rfl) (fun K hK => ?_)
      simp only [lgA, lgZ, lgS]
      go_simp
      refine (valD3 P (U := C.K + (Kt + 1 + 1) + C.K + 1) z0 (hP.below (bel_tr hb9 hc0)) (LF.below hc0) (fun j hj => ⟨by show 1 ≤ C.K + (Kt + 1 + 1) + C.K + 1; omega, Nat.le_refl _⟩) ⟨by omega, by omega⟩ HD2.out.1 HD2.out.2.1 HD2.out.2.2 (by omega) (by omega) HXN.out).mono ?_
      rintro e z1 ⟨f3, d3, n5, k5, d4, n6, k6, rfl, G3, hk1⟩
      have hc1 : Below w9.heap.size w9 z1 := bel_tr hc0 hk1
      dsimp only
      refine hK _ _ (HBX _ hc1) ?_
      clear hK K
      refine wpAnyG.one 11 (by as_aux_lemma => kernel_rfl) (by decide) (by rfl) (fun K hK => ?_)
      simp only [lgA, lgZ, lgS]
      go_simp
      refine (valD3 P (U := C.K + Kt + C.K + 1) z1 (hP.below (bel_tr hb9 hc1)) (LN.below hc1) (fun j hj => ⟨by show 1 ≤ C.K + Kt + C.K + 1; omega, Nat.le_refl _⟩) ⟨by omega, by omega⟩ HD1.out.1 HD1.out.2.1 HD1.out.2.2 (by omega) (by omega) HXN.out).mono ?_
      rintro e z2 ⟨f4, d5, n7, k7, d6, n8, k8, rfl, G4, hk2⟩
      have hc2 : Below w9.heap.size w9 z2 := bel_tr hc1 hk2
      dsimp only
      refine hK _ _ (HBX _ hc2) ?_
      clear hK K
      refine wpAnyG.one 12 (by as_aux_lemma => kernel_rfl) (by decide) (by rfl) (fun K hK => ?_)
      simp only [lgA, lgZ, lgS]
      go_simp
      refine (betterQ P true z2 (G3.tr.below hk2) G4.tr (by omega) (by omega) (by omega) ⟨fun _ => HBT.out.1 (by first | rfl | trivial), fun _ => rfl⟩).mono ?_
      rintro e z3 ⟨rfl, hk3⟩
      have hc3 : Below w9.heap.size w9 z3 := bel_tr hc2 hk3
      dsimp only
      refine hK _ _ (HBX _ hc3) ?_
      clear hK K
      refine wpAnyG.take 13 (v := .bool true) (by decide) (by as_aux_lemma => kernel_rfl) (fun _ _ _ h => h) 14 _ (by rfl) (fun _ _ => Iff.rfl) (fun _ _ _ h => h) (by as_aux_lemma => kernel_rfl) (by as_aux_lemma => kernel_rfl) (by as_aux_lemma => kernel_rfl) (by rfl) ?y13 (HBX _ hc3) (by rfl) ?_
      case y13 =>
        rintro w' ⟨q0, q1, q2, q3, q4, q5, q6⟩
        simp only [lgA, lgZ, lgS]
        go_simp
      simp only [lgA, lgZ, lgS, Act.put, lsA, lsZ, lsS]
      refine wpAnyG.one 14 (by as_aux_lemma => kernel_rfl) (by decide) (by rfl) (fun K hK => ?_)
      simp only [lgA, lgZ, lgS]
      go_simp
      refine hK _ _ (HBX _ hc3) ?_
      clear hK K
      refine wpAnyG.done (by as_aux_lemma => kernel_rfl) (NoPanic.normal ?_)
      have hw := bel_tr hb9 hc3
      clear HBX hc0 hc1 hc2 hc3 hk1 hk2 hk3 G3 G4 Pb LN LF hb9
      go_wp2
      go_ret
      exact ⟨rfl, hw⟩
end Go.Proofs.YtcocjcjjlgcbcaaGreatDoor

import Derived.Test.YtbagfdlmedljjaaGreatDoorR3Sc
import Derived.Test.YtbagfdlmedljjaaGreatDoorWhEAll
namespace Go.Proofs.YtbagfdlmedljjaaGreatDoor
open Go.RowKit

theorem kDr {w : World} {g : Nat} {X : Option Obj} (h : w.heap[g]? = X) : w.drew.heap[g]? = X := h
theorem Num.upN {w : World} {a : Option Addr} {n c : Nat} {x : Int} {S R : Nat} (h : Num w a n c x S) (hR : S ≤ R) : Num w a n c x R := by
  obtain ⟨xs, h1, h2, h3, h4, h5, h6⟩ := h
  exact ⟨xs, h1, h2, h3, h4, h5, by omega⟩
set_option maxRecDepth 100000 in
set_option maxHeartbeats 8000000 in
/-- rat.simplestAbove -/
theorem aboveQ {f1 f2 : Bool} {a1 : Option Addr} {n1 c1 : Nat} {a2 : Option Addr} {n2 c2 : Nat} {a3 : Option Addr} {n3 c3 : Nat} {a4 : Option Addr} {n4 c4 A B C D S : Nat} (w : World) (h1 : Num w a1 n1 c1 (A : Int) S) (h2 : Num w a2 n2 c2 (B : Int) S) (h3 : Num w a3 n3 c3 (C : Int) S) (h4 : Num w a4 n4 c4 (D : Int) S) (hE : Ends A B C D) (hS : S ≤ 3000000) (hS1 : 1 ≤ S) :
    Calls Tryz.prog 56 #[.agg #[.bool f1, .slice a1 n1 c1, .slice a2 n2 c2], .agg #[.bool f2, .slice a3 n3 c3, .slice a4 n4 c4]] w fun e w' => ∃ c n k c' n' k' p q, e = .returned (.agg #[.bool false, .slice c n k, .slice c' n' k']) ∧ Got w' w.heap.size (.slice c n k) ((p : Nat) : Int) S ∧ Got w' w.heap.size (.slice c' n' k') ((q : Nat) : Int) S ∧ Simp A B C D p q ∧ Below w.heap.size w w' := by
  obtain ⟨P0, P1, R0, hb0, hsz⟩ := box_rrr w (.bool f1) (.slice a1 n1 c1) (.slice a2 n2 c2) (.bool f2) (.slice a3 n3 c3) (.slice a4 n4 c4) (.bool false) (.slice none 0 0) (.slice none 0 0) 28
  have N1 := (SN.of_num (R := 0) h1).1
  have HA : Hid ((A : Int) < pw S) := sn_lt h1
  have HB : Hid ((B : Int) < pw S) := sn_lt h2
  have HE : Hid (Ends A B C D) := hE
  clear hE N1
  go_enter Tryz.func56, Tryz.ntmps56
  go_wp2_with fail
  generalize ((w.alloc (.cells #[.bool f1, .slice a1 n1 c1, .slice a2 n2 c2] 28)).alloc (.cells #[.bool f2, .slice a3 n3 c3, .slice a4 n4 c4] 28)).alloc (.cells #[.bool false, .slice none 0 0, .slice none 0 0] 28) = W0 at *
  refine (emptyQ _).mono ?_
  rintro e w1 ⟨b1, m1, l1, b4, m4, l4, rfl, G1, G4, hx⟩
  have hs1 := Below.size hx
  have P0' := P0.below hx
  have P1' := P1.below hx
  have R0' := R0.below hx
  replace hb0 := bel_tr hb0 hx
  clear hx P0 P1 R0
  have hx := bel_d0 w1 (.cells #[.slice b1 m1 l1, .slice none 0 0, .slice none 0 0, .slice b4 m4 l4] 93)
  have V5 := var4_new w1 (.slice b1 m1 l1) (.slice none 0 0) (.slice none 0 0) (.slice b4 m4 l4) 93
  have hR5 : w.heap.size + 3 ≤ w1.heap.size := by omega
  have hS0 : LS w (w1.alloc (.cells #[.slice b1 m1 l1, .slice none 0 0, .slice none 0 0, .slice b4 m4 l4] 93)) w1.heap.size S A B C D := by
    have hbw := bel_tr hb0 hx
    refine ⟨f1, f2, a1, n1, c1, a2, n2, c2, a3, n3, c3, a4, n4, c4, b1, m1, l1, none, 0, 0, none, 0, 0, b4, m4, l4, A, B, C, D, 1, 0, 0, 1, P0'.below hx, P1'.below hx, R0'.below hx, V5, (SN.of_num h1).below hbw, (SN.of_num h2).below hbw, (SN.of_num h3).below hbw, (SN.of_num h4).below hbw, (SN.of_got (B := W0.heap.size) (x := 1) (G1.le hS1) (by omega) (.inr (Nat.le_refl _))).below hx, ⟨(Got.nil _ 0).num.upN (Nat.zero_le _), .inl rfl⟩, ⟨(Got.nil _ 0).num.upN (Nat.zero_le _), .inl rfl⟩, (SN.of_got (B := W0.heap.size) (x := 1) (G4.le hS1) (by omega) (.inr (Nat.le_refl _))).below hx, HE.out, fun p q h => ?_, hbw⟩
    simpa using h
  clear V5 P0' P1' R0' G1 G4 hb0 hx hsz hs1 h1 h2 h3 h4
  go_wp2
  generalize w1.alloc (.cells #[.slice b1 m1 l1, .slice none 0 0, .slice none 0 0, .slice b4 m4 l4] 93) = W1 at *
  go_loopw [6] (fun _ wr => LS w wr w1.heap.size S A B C D) (fun _ wr => denV wr w.heap.size + denV wr (w.heap.size + 1))
  case atStart => exact hS0
  case round =>
    obtain ⟨f1, f2, a1, n1, c1, a2, n2, c2, a3, n3, c3, a4, n4, c4, b1, m1, l1, b2, m2, l2, b3, m3, l3, b4, m4, l4, A', B', C', D', y1, y2, y3, y4, V1, V2, V3, V5, N1, N2, N3, N4, M1, M2, M3, M4, hE', hI, hbel⟩ := hrel
    clear hS0
    have HM : Hid (denV wr w.heap.size + denV wr (w.heap.size + 1) = B' + D') := by show _ = _; rw [V1.denV N2.1, V2.denV N4.1]
    have HE' : Hid (Ends A' B' C' D') := hE'
    have HI : Hid (∀ p q, Simp A' B' C' D' p q → Simp A B C D (y1 * p + y3 * q) (y2 * p + y4 * q)) := hI
    obtain ⟨hA', hB', hD', _⟩ := hE'
    have qA := sn_lt N1.1
    have qB := sn_lt N2.1
    have qC := sn_lt N3.1
    have qD := sn_lt N4.1
    clear hI
    obtain ⟨z0, z1, z2, z3, z4, z5⟩ := id V1
    go_wp2_with fail
    refine (divG _ N1.1 N2.1 (by omega) (by omega) (by omega)).mono ?_
    rintro e w2 ⟨cq, nq, kq, cr, nr, kr, rfl, Gq, Gr, _, hx⟩
    have hs2 := Below.size hx
    have hs0 := Below.size hbel
    have hV5 := V5.lt
    replace Gq := (Gq.val (show (A' : Int) / (B' : Int) = ((A' / B' : Nat) : Int) from rfl)).shrink (m := S) (by have : A' / B' ≤ A' := Nat.div_le_self _ _; omega)
    replace Gr := (Gr.val (show (A' : Int) % (B' : Int) = ((A' % B' : Nat) : Int) from rfl)).shrink (m := S) (by have : A' % B' < B' := Nat.mod_lt _ hB'; omega)
    clear z0 z1 z2 z3 z4 z5
    replace V1 := V1.below hx
    replace V2 := V2.below hx
    replace V3 := V3.below hx
    replace V5 := V5.below hx
    replace N1 := N1.below hx
    replace N2 := N2.below hx
    replace N3 := N3.below hx
    replace N4 := N4.below hx
    replace M1 := M1.below hx
    replace M2 := M2.below hx
    replace M3 := M3.below hx
    replace M4 := M4.below hx
    replace hbel := bel_tr hbel hx
    clear hx
    obtain ⟨z0, z1, z2, z3, z4, z5⟩ := id V2
    go_wp2_with fail
    refine (divG _ N3.1 N4.1 (by omega) (by omega) (by omega)).mono ?_
    rintro e w3 ⟨cp, np, kp, cs, ns, ks, rfl, Gp, Gs, _, hx⟩
    have hs3 := Below.size hx
    replace Gp := (Gp.val (show (C' : Int) / (D' : Int) = ((C' / D' : Nat) : Int) from rfl)).shrink (m := S) (by have : C' / D' ≤ C' := Nat.div_le_self _ _; omega)
    replace Gs := (Gs.val (show (C' : Int) % (D' : Int) = ((C' % D' : Nat) : Int) from rfl)).shrink (m := S) (by have : C' % D' < D' := Nat.mod_lt _ hD'; omega)
    clear z0 z1 z2 z3 z4 z5
    replace Gq := Gq.below hx
    replace Gr := Gr.below hx
    replace V1 := V1.below hx
    replace V2 := V2.below hx
    replace V3 := V3.below hx
    replace V5 := V5.below hx
    replace N1 := N1.below hx
    replace N2 := N2.below hx
    replace N3 := N3.below hx
    replace N4 := N4.below hx
    replace M1 := M1.below hx
    replace M2 := M2.below hx
    replace M3 := M3.below hx
    replace M4 := M4.below hx
    replace hbel := bel_tr hbel hx
    clear hx
    go_wp2_with fail
    refine (bitsG _ Gr.num (by omega)).mono ?_
    rintro e w4 ⟨t, rfl, ht, rfl⟩
    by_cases h0 : A' % B' = 0
    · have ht0 : t = 0 := ht.2 (by rw [h0]; rfl)
      subst ht0
      have HP := HI.out _ _ (Simp.whole h0)
      clear ht
      obtain ⟨z0, z1, z2, z3, z4, z5, z6, z7⟩ := id V5
      go_wp2_with fail
      refine (withQ _ M1.1 M2.1 M3.1 M4.1 Gq.num (by omega)).mono ?_
      rintro e w5 ⟨cN, nN, kN, cM, nM, kM, rfl, GN, GM, hx⟩
      have hs5 := Below.size hx
      replace V3 := V3.below hx
      replace hbel := bel_tr hbel hx
      clear hx z0 z1 z2 z3 z4 z5 z6 z7
      go_wp2_with fail
      refine (valueQ _ _ _ _ _ _ _ _ _).mono ?_
      rintro e w6 ⟨rfl, hx⟩
      have hs6 := Below.size hx
      replace V3 := V3.below hx
      replace GN := GN.below hx
      replace GM := GM.below hx
      replace hbel := bel_tr hbel hx
      clear hx
      obtain ⟨sP, sQ⟩ := HP.small HE.out HA.out HB.out
      replace GN := (GN.val (show ((A' / B' : Nat) : Int) * (y1 : Int) + (y3 : Int) = ((y1 * (A' / B') + y3 * 1 : Nat) : Int) by rw [Nat.mul_one, Nat.mul_comm y1]; rfl)).shrink sP
      replace GM := (GM.val (show ((A' / B' : Nat) : Int) * (y2 : Int) + (y4 : Int) = ((y2 * (A' / B') + y4 * 1 : Nat) : Int) by rw [Nat.mul_one, Nat.mul_comm y2]; rfl)).shrink sQ
      have HP' : Hid (Simp A B C D (y1 * (A' / B') + y3 * 1) (y2 * (A' / B') + y4 * 1)) := HP
      generalize y1 * (A' / B') + y3 * 1 = PP at *
      generalize y2 * (A' / B') + y4 * 1 = QQ at *
      obtain ⟨r0, r1, r2, r3, r4, r5⟩ := id V3
      obtain ⟨VV, O⟩ := V3.set (.bool false) (.slice cN nN kN) (.slice cM nM kM)
      replace GN := (GN.off O (by omega)).mono (B' := w.heap.size) (by omega)
      replace GM := (GM.off O (by omega)).mono (B' := w.heap.size) (by omega)
      have hw := hbel.trans (O.below (by omega))
      clear V3 O hbel HP sP sQ
      go_wp2
      exact bodyPost_ret (v := .agg #[.bool false, .slice cN nN kN, .slice cM nM kM]) (by simp [results, Tryz.results56, go_sem, VV.c0, VV.c1, VV.c2]) rfl ⟨_, _, _, _, _, _, _, _, rfl, GN, GM, HP'.out, hw⟩
    have ht0 : (t == 0) = false := by
      rw [beq_eq_false_iff_ne]
      intro e
      have := ht.1 e
      omega
    clear ht
    go_wp2_with fail
    refine (cmpBel _ Gq.num Gp.num (by omega) (by omega)).mono ?_
    rintro e w5 ⟨cc, rfl, hcc, hx⟩
    have hs5 := Below.size hx
    replace Gq := Gq.below hx
    replace Gr := Gr.below hx
    replace Gs := Gs.below hx
    replace V1 := V1.below hx
    replace V2 := V2.below hx
    replace V3 := V3.below hx
    replace V5 := V5.below hx
    replace N1 := N1.below hx
    replace N2 := N2.below hx
    replace N3 := N3.below hx
    replace N4 := N4.below hx
    replace M1 := M1.below hx
    replace M2 := M2.below hx
    replace M3 := M3.below hx
    replace M4 := M4.below hx
    replace hbel := bel_tr hbel hx
    clear hx Gp
    by_cases h1 : A' / B' < C' / D'
    · have hc1 : cc = -1 := by omega
      subst hc1
      clear hcc
      have HP := HI.out _ _ (Simp.up h0 h1)
      obtain ⟨z0, z1, z2, z3, z4, z5, z6, z7⟩ := id V5
      have hV3 := V3.lt
      have HBk : ∀ w' : World, w'.heap[w1.heap.size]? = w5.heap[w1.heap.size]? → w'.cell? ⟨w1.heap.size, 0, none⟩ = some (.slice b1 m1 l1) ∧ w'.cell? ⟨w1.heap.size, 1, none⟩ = some (.slice b2 m2 l2) ∧ w'.cell? ⟨w1.heap.size, 2, none⟩ = some (.slice b3 m3 l3) ∧ w'.cell? ⟨w1.heap.size, 3, none⟩ = some (.slice b4 m4 l4) := fun w' h => by
        have V := V5.of_block h
        exact ⟨V.c0, V.c1, V.c2, V.c3⟩
      have hV5b : w1.heap.size < w5.heap.size := V5.lt
      go_wp2_with fail
      go_region_held3 (fun w' => w'.cell? ⟨w1.heap.size, 0, none⟩ = some (.slice b1 m1 l1) ∧ w'.cell? ⟨w1.heap.size, 1, none⟩ = some (.slice b2 m2 l2) ∧ w'.cell? ⟨w1.heap.size, 2, none⟩ = some (.slice b3 m3 l3) ∧ w'.cell? ⟨w1.heap.size, 3, none⟩ = some (.slice b4 m4 l4))
        (with_reducible refine HBk _ ?_; first | with_reducible exact hk4 | with_reducible exact hk3 | with_reducible exact hk2 | with_reducible exact hk1 | with_reducible exact kDr rfl | (with_reducible refine kS3 ?_ ?_ <;> first | with_reducible exact hk4 | omega) | rfl)
        ((first
          | (go_at_call 44; go_fit (ofG 1 _ (by decide) (by decide)); rintro e v1 ⟨u1, i1, j1, rfl, K1, hb1⟩; have hc1 : Below w5.heap.size w5 v1 := bel_tr (bel_d1 w5) hb1; have hk1 := hc1.block _ hV5b)
          | (go_at_call 76; go_fit (addG _ (Gq.num.below hc1) K1.num (by omega) (by omega)); rintro e v2 ⟨u2, i2, j2, rfl, K2, hb2⟩; have hc2 : Below w5.heap.size w5 v2 := bel_tr hc1 hb2; have hk2 := hc2.block _ hV5b)
          | (go_at_call 89; go_fit (withQ (S := S + 2) _ ((M1.1.upN (by omega)).below hc2) ((M2.1.upN (by omega)).below hc2) ((M3.1.upN (by omega)).below hc2) ((M4.1.upN (by omega)).below hc2) (K2.num.upN (by omega)) (by omega)); rintro e v3 ⟨cN, nN, kN, cM, nM, kM, rfl, GN, GM, hb3⟩; have hc3 : Below w5.heap.size w5 v3 := bel_tr hc2 hb3; have hk3 := hc3.block _ hV5b)
          | (go_at_call 90; go_fit (valueQ _ _ _ _ _ _ _ _ _); rintro e v4 ⟨rfl, hb4⟩; have hc4 : Below w5.heap.size w5 v4 := bel_tr hc3 hb4; have hk4 := hc4.block _ hV5b; have RZ := V3.below hc4; obtain ⟨r0, r1, r2, r3, r4, r5⟩ := id RZ)))
      have hs6 := Below.size hc2
      have hs7 := Below.size hc3
      obtain ⟨sP, sQ⟩ := HP.small HE.out HA.out HB.out
      replace GN := ((GN.below hb4).val (show (((A' / B' : Nat) : Int) + 1) * (y1 : Int) + (y3 : Int) = ((y1 * (A' / B' + 1) + y3 * 1 : Nat) : Int) by rw [Nat.mul_one, Nat.mul_comm y1]; rfl)).shrink sP
      replace GM := ((GM.below hb4).val (show (((A' / B' : Nat) : Int) + 1) * (y2 : Int) + (y4 : Int) = ((y2 * (A' / B' + 1) + y4 * 1 : Nat) : Int) by rw [Nat.mul_one, Nat.mul_comm y2]; rfl)).shrink sQ
      have HP' : Hid (Simp A B C D (y1 * (A' / B' + 1) + y3 * 1) (y2 * (A' / B' + 1) + y4 * 1)) := HP
      generalize y1 * (A' / B' + 1) + y3 * 1 = PP at *
      generalize y2 * (A' / B' + 1) + y4 * 1 = QQ at *
      replace hbel := bel_tr hbel hc4
      obtain ⟨VV, O⟩ := RZ.set (.bool false) (.slice cN nN kN) (.slice cM nM kM)
      replace GN := (GN.off O (by omega)).mono (B' := w.heap.size) (by omega)
      replace GM := (GM.off O (by omega)).mono (B' := w.heap.size) (by omega)
      have hw := hbel.trans (O.below (by omega))
      clear V3 RZ O hbel HP sP sQ K1 K2 hb1 hb2 hb3 hb4 hc1 hc2 hc3 hc4 hk1 hk2 hk3 hk4 HBk V5 z0 z1 z2 z3 z4 z5 z6 z7
      go_wp2
      exact bodyPost_ret (v := .agg #[.bool false, .slice cN nN kN, .slice cM nM kM]) (by simp [results, Tryz.results56, go_sem, VV.c0, VV.c1, VV.c2]) rfl ⟨_, _, _, _, _, _, _, _, rfl, GN, GM, HP'.out, hw⟩
    have hc1 : ¬ cc < 0 := by omega
    clear hcc
    have HEn : Hid (Ends D' (C' % D') B' (A' % B')) := HE'.out.next h0 h1
    have HIn : Hid (∀ p q, Simp D' (C' % D') B' (A' % B') p q → Simp A B C D ((A' / B' * y1 + y3) * p + y1 * q) ((A' / B' * y2 + y4) * p + y2 * q)) := fun p q h => by
      have h2 := HI.out _ _ (Simp.more h0 h1 h)
      have e1 : ∀ y z : Nat, y * (A' / B' * p + q) + z * p = (A' / B' * y + z) * p + y * q := fun y z => by
        rw [Nat.mul_add, Nat.add_mul, ← Nat.mul_assoc, Nat.mul_comm y]; omega
      rw [e1, e1] at h2
      exact h2
    obtain ⟨pp, qq, HT⟩ := Simp.there _ _ _ _ _ (Nat.le_refl _) HEn.out
    have hpq := (HT.good HEn.out).1
    obtain ⟨tP, tQ⟩ := (HIn.out _ _ HT).small HE.out HA.out HB.out
    have sP : ((A' / B' * y1 + y3 : Nat) : Int) < pw S := by
      have : A' / B' * y1 + y3 ≤ (A' / B' * y1 + y3) * pp + y1 * qq := Nat.le_trans (Nat.le_mul_of_pos_right _ hpq.1) (Nat.le_add_right _ _)
      omega
    have sQ : ((A' / B' * y2 + y4 : Nat) : Int) < pw S := by
      have : A' / B' * y2 + y4 ≤ (A' / B' * y2 + y4) * pp + y2 * qq := Nat.le_trans (Nat.le_mul_of_pos_right _ hpq.1) (Nat.le_add_right _ _)
      omega
    have mlr : A' % B' < B' := Nat.mod_lt _ hB'
    have mhr : C' % D' < D' := Nat.mod_lt _ hD'
    clear HT hpq tP tQ HI HE'
    obtain ⟨z0, z1, z2, z3, z4, z5, z6, z7⟩ := id V5
    go_wp2_with fail
    refine (withQ _ M1.1 M2.1 M3.1 M4.1 Gq.num (by omega)).mono ?_
    rintro e w6 ⟨cN, nN, kN, cM, nM, kM, rfl, GN, GM, hx⟩
    have hs6 := Below.size hx
    clear z0 z1 z2 z3 z4 z5 z6 z7
    replace Gr := Gr.below hx
    replace Gs := Gs.below hx
    replace V1 := V1.below hx
    replace V2 := V2.below hx
    replace V3 := V3.below hx
    replace V5 := V5.below hx
    replace N1 := N1.below hx
    replace N2 := N2.below hx
    replace N3 := N3.below hx
    replace N4 := N4.below hx
    replace M1 := M1.below hx
    replace M2 := M2.below hx
    replace M3 := M3.below hx
    replace M4 := M4.below hx
    replace hbel := bel_tr hbel hx
    clear hx Gq M3 M4
    replace GN := (GN.val (show ((A' / B' : Nat) : Int) * (y1 : Int) + (y3 : Int) = ((A' / B' * y1 + y3 : Nat) : Int) from rfl)).shrink sP
    replace GM := (GM.val (show ((A' / B' : Nat) : Int) * (y2 : Int) + (y4 : Int) = ((A' / B' * y2 + y4 : Nat) : Int) from rfl)).shrink sQ
    generalize A' / B' * y1 + y3 = Y1 at *
    generalize A' / B' * y2 + y4 = Y2 at *
    have X1 := SN.of_got (V := w.heap.size) (R := w1.heap.size) GN (by omega) (.inl (by omega))
    have X2 := SN.of_got (V := w.heap.size) (R := w1.heap.size) GM (by omega) (.inl (by omega))
    have Z1 := SN.of_got (V := w.heap.size) (R := w1.heap.size) Gr (by omega) (.inl (by omega))
    have Z2 := SN.of_got (V := w.heap.size) (R := w1.heap.size) Gs (by omega) (.inl (by omega))
    clear GN GM Gr Gs
    obtain ⟨z0, z1, z2, z3, z4, z5, z6, z7⟩ := id V5
    obtain ⟨V5', O⟩ := V5.set (.slice cN nN kN) (.slice cM nM kM) (.slice b1 m1 l1) (.slice b2 m2 l2)
    replace V1 := V1.off O (by omega)
    replace V2 := V2.off O (by omega)
    replace V3 := V3.off O (by omega)
    replace N2 := N2.off O (.inr (.inr (.inr rfl))) hR5
    replace N4 := N4.off O (.inr (.inr (.inr rfl))) hR5
    replace M1 := M1.off O (.inr (.inr (.inr rfl))) hR5
    replace M2 := M2.off O (.inr (.inr (.inr rfl))) hR5
    replace X1 := X1.off O (.inr (.inr (.inr rfl))) hR5
    replace X2 := X2.off O (.inr (.inr (.inr rfl))) hR5
    replace Z1 := Z1.off O (.inr (.inr (.inr rfl))) hR5
    replace Z2 := Z2.off O (.inr (.inr (.inr rfl))) hR5
    replace hbel := hbel.trans (O.below (B := w.heap.size) (by omega))
    have hs7 := O.size
    clear V5 O N1 N3
    go_wp2_with fail
    clear z0 z1 z2 z3 z4 z5 z6 z7
    generalize (((w6.setCell ⟨w1.heap.size, 0, none⟩ (.slice cN nN kN)).setCell ⟨w1.heap.size, 1, none⟩ (.slice cM nM kM)).setCell ⟨w1.heap.size, 2, none⟩ (.slice b1 m1 l1)).setCell ⟨w1.heap.size, 3, none⟩ (.slice b2 m2 l2) = w7 at *
    obtain ⟨z0, z1, z2, z3, z4, z5⟩ := id V1
    obtain ⟨x0, x1, x2, x3, x4, x5⟩ := id V2
    refine wp_region_noPanic (wp_region_guard (Till 8 9 (fun w' => w'.cell? ⟨w.heap.size, 2, none⟩ = some (.slice a2 n2 c2)) (fun w' => w'.cell? ⟨w.heap.size + 1, 2, none⟩ = some (.slice a4 n4 c4))) (by kernel_rfl) ?_)
    refine wpAnyG.take 0 (v := .pointer (some ⟨w.heap.size + 1, 2, none⟩)) (by decide) (by kernel_rfl) (fun _ _ _ h => h) 9 _ (by rfl) (till_ind (by decide) (by decide)) (fun L w' h1 h2 => h2.2 h1) (by kernel_rfl) (by kernel_rfl) (by kernel_rfl) (by rfl) ?y0 ⟨fun _ => z2, fun _ => x2⟩ (by rfl) ?_
    case y0 =>
      intro w' s0
      simp only [List.getElem_toArray, List.getElem_cons_zero]
      go_simp
    simp only [List.getElem_toArray, List.getElem_cons_zero, Act.put, List.setIfInBounds_toArray, List.set_cons_zero, List.set_cons_succ]
    refine wpAnyG.take 1 (v := .slice a4 n4 c4) (by decide) (by kernel_rfl) (fun _ _ _ h => h) 9 _ (by rfl) (till_ind (by decide) (by decide)) (fun L w' h1 h2 => h2.2 h1) (by kernel_rfl) (by kernel_rfl) (by kernel_rfl) (by rfl) ?y1 ⟨fun _ => z2, fun _ => x2⟩ (by rfl) ?_
    case y1 =>
      intro w' s0
      simp only [List.getElem_toArray, List.getElem_cons_zero, List.getElem_cons_succ]
      go_simp
    simp only [List.getElem_toArray, List.getElem_cons_zero, List.getElem_cons_succ, Act.put, List.setIfInBounds_toArray, List.set_cons_zero, List.set_cons_succ]
    refine wpAnyG.take 2 (v := .slice cs ns ks) (by decide) (by kernel_rfl) (fun _ _ _ h => h) 8 _ (by rfl) (till_ind (by decide) (by decide)) (fun L w' h1 h2 => h2.1 h1) (by kernel_rfl) (by kernel_rfl) (by kernel_rfl) (by rfl) ?y2 ⟨fun _ => z2, fun _ => x2⟩ (by rfl) ?_
    case y2 =>
      intro w' s0
      simp only [List.getElem_toArray, List.getElem_cons_zero, List.getElem_cons_succ]
      go_simp
    simp only [List.getElem_toArray, List.getElem_cons_zero, List.getElem_cons_succ, Act.put, List.setIfInBounds_toArray, List.set_cons_zero, List.set_cons_succ]
    refine wpAnyG.take 4 (v := .pointer (some ⟨w.heap.size, 2, none⟩)) (by decide) (by kernel_rfl) (fun _ _ _ h => h) 8 _ (by rfl) (till_ind (by decide) (by decide)) (fun L w' h1 h2 => h2.1 h1) (by kernel_rfl) (by kernel_rfl) (by kernel_rfl) (by rfl) ?y4 ⟨fun _ => z2, fun _ => x2⟩ (by rfl) ?_
    case y4 =>
      intro w' s0
      simp only [List.getElem_toArray, List.getElem_cons_zero, List.getElem_cons_succ]
      go_simp
    simp only [List.getElem_toArray, List.getElem_cons_zero, List.getElem_cons_succ, Act.put, List.setIfInBounds_toArray, List.set_cons_zero, List.set_cons_succ]
    refine wpAnyG.take 5 (v := .slice a2 n2 c2) (by decide) (by kernel_rfl) (fun _ _ _ h => h) 8 _ (by rfl) (till_ind (by decide) (by decide)) (fun L w' h1 h2 => h2.1 h1) (by kernel_rfl) (by kernel_rfl) (by kernel_rfl) (by rfl) ?y5 ⟨fun _ => z2, fun _ => x2⟩ (by rfl) ?_
    case y5 =>
      intro w' s0
      simp only [List.getElem_toArray, List.getElem_cons_zero, List.getElem_cons_succ]
      go_simp
    simp only [List.getElem_toArray, List.getElem_cons_zero, List.getElem_cons_succ, Act.put, List.setIfInBounds_toArray, List.set_cons_zero, List.set_cons_succ]
    refine wpAnyG.take 6 (v := .slice cr nr kr) (by decide) (by kernel_rfl) (fun _ _ _ h => h) 7 (fun _ => True) (by rfl) (till_ind (by decide) (by decide)) (fun _ _ _ _ => trivial) (by kernel_rfl) (by kernel_rfl) (by kernel_rfl) (by rfl) ?y6 ⟨fun _ => z2, fun _ => x2⟩ (by rfl) ?_
    case y6 =>
      intro w' s0
      simp only [List.getElem_toArray, List.getElem_cons_zero, List.getElem_cons_succ]
      go_simp
    simp only [List.getElem_toArray, List.getElem_cons_zero, List.getElem_cons_succ, Act.put, List.setIfInBounds_toArray, List.set_cons_zero, List.set_cons_succ]
    refine wpAnyG.one 3 (by kernel_rfl) (by decide) (by rfl) (fun K hK => ?_)
    simp only [List.getElem_toArray, List.getElem_cons_zero, List.getElem_cons_succ]
    go_simp
    refine (overQ a4 n4 c4 cs ns ks _).mono ?_
    rintro e v1 ⟨rfl, hb1⟩
    have hc1 : Below w7.heap.size w7 v1 := bel_tr (bel_d1 w7) hb1
    have hs8 := Below.size hc1
    clear z0 z1 z2 z3 z4 z5 x0 x1 x2 x3 x4 x5 hb1
    replace V1 := V1.below hc1
    replace V2 := V2.below hc1
    replace V3 := V3.below hc1
    replace V5' := V5'.below hc1
    replace N2 := N2.below hc1
    replace N4 := N4.below hc1
    replace M1 := M1.below hc1
    replace M2 := M2.below hc1
    replace X1 := X1.below hc1
    replace X2 := X2.below hc1
    replace Z1 := Z1.below hc1
    replace Z2 := Z2.below hc1
    replace hbel := bel_tr hbel hc1
    clear hc1
    dsimp only
    refine hK _ _ ⟨fun _ => V1.c2, fun _ => V2.c2⟩ ?_
    clear hK K
    refine wpAnyG.one 7 (by kernel_rfl) (by decide) (by rfl) (fun K hK => ?_)
    simp only [List.getElem_toArray, List.getElem_cons_zero, List.getElem_cons_succ]
    go_simp
    refine (overQ a2 n2 c2 cr nr kr _).mono ?_
    rintro e v2 ⟨rfl, hb2⟩
    have hs9 := Below.size hb2
    replace V1 := V1.below hb2
    replace V2 := V2.below hb2
    replace V3 := V3.below hb2
    replace V5' := V5'.below hb2
    replace N2 := N2.below hb2
    replace N4 := N4.below hb2
    replace M1 := M1.below hb2
    replace M2 := M2.below hb2
    replace X1 := X1.below hb2
    replace X2 := X2.below hb2
    replace Z1 := Z1.below hb2
    replace Z2 := Z2.below hb2
    replace hbel := bel_tr hbel hb2
    clear hb2
    dsimp only
    refine hK _ _ ⟨fun _ => V1.c2, fun _ => V2.c2⟩ ?_
    clear hK K
    obtain ⟨z0, z1, z2, z3, z4, z5⟩ := id V1
    refine wpAnyG.one 8 (by kernel_rfl) (by decide) (by rfl) (fun K hK => ?_)
    simp only [List.getElem_toArray, List.getElem_cons_zero, List.getElem_cons_succ]
    go_simp
    obtain ⟨V1', O⟩ := V1.set (.bool false) (.slice a4 n4 c4) (.slice cs ns ks)
    replace V2 := V2.off O (by omega)
    replace V3 := V3.off O (by omega)
    replace V5' := V5'.off O (by omega)
    replace N2 := N2.off O (.inl rfl) hR5
    replace N4 := N4.off O (.inl rfl) hR5
    replace M1 := M1.off O (.inl rfl) hR5
    replace M2 := M2.off O (.inl rfl) hR5
    replace X1 := X1.off O (.inl rfl) hR5
    replace X2 := X2.off O (.inl rfl) hR5
    replace Z1 := Z1.off O (.inl rfl) hR5
    replace Z2 := Z2.off O (.inl rfl) hR5
    replace hbel := hbel.trans (O.below (B := w.heap.size) (Nat.le_refl _))
    refine hK _ _ ⟨fun h => absurd h (by decide), fun _ => V2.c2⟩ ?_
    clear hK K z0 z1 z2 z3 z4 z5 V1 O
    generalize ((v2.setCell ⟨w.heap.size, 0, none⟩ (.bool false)).setCell ⟨w.heap.size, 1, none⟩ (.slice a4 n4 c4)).setCell ⟨w.heap.size, 2, none⟩ (.slice cs ns ks) = v3 at *
    obtain ⟨z0, z1, z2, z3, z4, z5⟩ := id V2
    refine wpAnyG.one 9 (by kernel_rfl) (by decide) (by rfl) (fun K hK => ?_)
    simp only [List.getElem_toArray, List.getElem_cons_zero, List.getElem_cons_succ]
    go_simp
    obtain ⟨V2', O⟩ := V2.set (.bool false) (.slice a2 n2 c2) (.slice cr nr kr)
    replace V1' := V1'.off O (by omega)
    replace V3 := V3.off O (by omega)
    replace V5' := V5'.off O (by omega)
    replace N2 := N2.off O (.inr (.inl rfl)) hR5
    replace N4 := N4.off O (.inr (.inl rfl)) hR5
    replace M1 := M1.off O (.inr (.inl rfl)) hR5
    replace M2 := M2.off O (.inr (.inl rfl)) hR5
    replace X1 := X1.off O (.inr (.inl rfl)) hR5
    replace X2 := X2.off O (.inr (.inl rfl)) hR5
    replace Z1 := Z1.off O (.inr (.inl rfl)) hR5
    replace Z2 := Z2.off O (.inr (.inl rfl)) hR5
    replace hbel := hbel.trans (O.below (B := w.heap.size) (by omega))
    refine hK _ _ ⟨fun h => absurd h (by decide), fun h => absurd h (by decide)⟩ ?_
    clear hK K z0 z1 z2 z3 z4 z5 V2 O
    generalize ((v3.setCell ⟨w.heap.size + 1, 0, none⟩ (.bool false)).setCell ⟨w.heap.size + 1, 1, none⟩ (.slice a2 n2 c2)).setCell ⟨w.heap.size + 1, 2, none⟩ (.slice cr nr kr) = v4 at *
    refine wpAnyG.done (by kernel_rfl) ?_
    refine NoPanic.normal ?_
    have HMn : Hid (denV v4 w.heap.size + denV v4 (w.heap.size + 1) = C' % D' + A' % B') := by show _ = _; rw [V1'.denV Z2.1, V2'.denV Z1.1]
    go_wp2
    go_roundw
    case rel => exact ⟨false, false, a4, n4, c4, cs, ns, ks, a2, n2, c2, cr, nr, kr, cN, nN, kN, cM, nM, kM, b1, m1, l1, b2, m2, l2, D', C' % D', B', A' % B', Y1, Y2, y1, y2, V1', V2', V3, V5', N4, Z2, N2, Z1, X1, X2, M1, M2, HEn.out, HIn.out, hbel⟩
    case measure => rw [HMn.out, HM.out]; omega
end Go.Proofs.YtbagfdlmedljjaaGreatDoor

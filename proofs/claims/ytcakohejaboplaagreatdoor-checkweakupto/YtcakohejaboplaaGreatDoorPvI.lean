import Derived.Test.YtcakohejaboplaaGreatDoorPvH
import Derived.Test.YtcakohejaboplaaGreatDoorQAll
import Derived.Test.YtcakohejaboplaaGreatDoorLaid3
namespace Go.Proofs.YtcakohejaboplaaGreatDoor
open Go.RowKit
set_option maxRecDepth 100000 in
set_option maxHeartbeats 4000000 in
/-- Is a value better than another one? -/
theorem betterQ (P : Prob) (t : Bool) {p q : Bool} {a b : Option Addr} {na nb ca cb : Nat} {d e0 : Option Addr} {nd ne cd ce : Nat} {r s : Rat} {S R : Nat} (w : World) (hr : TR w p a na ca d nd cd r S) (hs1 : TR w q b nb cb e0 ne ce s R) (hSR : S + R ≤ 6000000) (hS1 : 1 ≤ S) (hR1 : 1 ≤ R) (ht : t = true ↔ btr P r s) :
    Calls Tryz.prog 10 #[P.val, .agg #[.bool p, .slice a na ca, .slice d nd cd], .agg #[.bool q, .slice b nb cb, .slice e0 ne ce]] w fun e w' => e = .returned (.bool t) ∧ Below w.heap.size w w' := by
  unfold Prob.val
  unfold btr at ht
  cases hmx : P.mx
  · rw [hmx, if_neg (by decide)] at ht
    have HT : Hid (t = true ↔ r < s) := ht
    clear ht hmx
    obtain ⟨B0, B1, B2, hb, hs⟩ := boxc3 w #[.bool false, .string P.nm, .bool P.p, .slice P.a P.na P.ca, .slice P.d P.nd P.cd, .slice P.va P.vn P.vc, .slice P.ra P.rn P.rc] 31 #[.bool p, .slice a na ca, .slice d nd cd] 27 #[.bool q, .slice b nb cb, .slice e0 ne ce] 27
    have p0 := B0 0 _ rfl
    have a0 := B1 0 _ rfl
    have a1 := B1 1 _ rfl
    have a2 := B1 2 _ rfl
    have b0 := B2 0 _ rfl
    have b1 := B2 1 _ rfl
    have b2 := B2 2 _ rfl
    clear B0 B1 B2
    have hr' := hr.below hb
    have hs' := hs1.below hb
    go_enter Tryz.func10, Tryz.ntmps10
    go_wp2_with fail
    generalize ((w.alloc (.cells #[.bool false, .string P.nm, .bool P.p, .slice P.a P.na P.ca, .slice P.d P.nd P.cd, .slice P.va P.vn P.vc, .slice P.ra P.rn P.rc] 31)).alloc (.cells #[.bool p, .slice a na ca, .slice d nd cd] 27)).alloc (.cells #[.bool q, .slice b nb cb, .slice e0 ne ce] 27) = W0 at *
    obtain ⟨z, ez⟩ : ∃ z, z = cs r s := ⟨_, rfl⟩
    refine (cmpD z W0 hr' hs' hSR hS1 hR1 ez).mono ?_
    rintro e w1 ⟨rfl, h1⟩
    have hb1 := bel_tr hb h1
    have HT2 : Hid (t = decide (z < 0)) := by
      show t = decide (z < 0)
      rw [ez]
      have h2 : t = true ↔ cs r s < 0 := HT.out.trans cs_lt_iff.symm
      cases t
      · symm
        rw [decide_eq_false_iff_not]
        intro h3
        have := h2.2 h3
        cases this
      · symm
        rw [decide_eq_true_iff]
        exact h2.1 rfl
    clear h1 ez HT p0 a0 a1 a2 b0 b1 b2 hr' hs' hb
    go_wp2
    go_ret
    exact ⟨by rw [HT2.out]; try simp, hb1⟩
  · rw [hmx, if_pos rfl] at ht
    have HT : Hid (t = true ↔ s < r) := ht
    clear ht hmx
    obtain ⟨B0, B1, B2, hb, hs⟩ := boxc3 w #[.bool true, .string P.nm, .bool P.p, .slice P.a P.na P.ca, .slice P.d P.nd P.cd, .slice P.va P.vn P.vc, .slice P.ra P.rn P.rc] 31 #[.bool p, .slice a na ca, .slice d nd cd] 27 #[.bool q, .slice b nb cb, .slice e0 ne ce] 27
    have p0 := B0 0 _ rfl
    have a0 := B1 0 _ rfl
    have a1 := B1 1 _ rfl
    have a2 := B1 2 _ rfl
    have b0 := B2 0 _ rfl
    have b1 := B2 1 _ rfl
    have b2 := B2 2 _ rfl
    clear B0 B1 B2
    have hr' := hr.below hb
    have hs' := hs1.below hb
    go_enter Tryz.func10, Tryz.ntmps10
    go_wp2_with fail
    generalize ((w.alloc (.cells #[.bool true, .string P.nm, .bool P.p, .slice P.a P.na P.ca, .slice P.d P.nd P.cd, .slice P.va P.vn P.vc, .slice P.ra P.rn P.rc] 31)).alloc (.cells #[.bool p, .slice a na ca, .slice d nd cd] 27)).alloc (.cells #[.bool q, .slice b nb cb, .slice e0 ne ce] 27) = W0 at *
    obtain ⟨z, ez⟩ : ∃ z, z = cs r s := ⟨_, rfl⟩
    refine (cmpD z W0 hr' hs' hSR hS1 hR1 ez).mono ?_
    rintro e w1 ⟨rfl, h1⟩
    have hb1 := bel_tr hb h1
    have HT2 : Hid (t = decide (0 < z)) := by
      show t = decide (0 < z)
      rw [ez]
      have h2 : t = true ↔ 0 < cs r s := HT.out.trans cs_gt_iff.symm
      cases t
      · symm
        rw [decide_eq_false_iff_not]
        intro h3
        have := h2.2 h3
        cases this
      · symm
        rw [decide_eq_true_iff]
        exact h2.1 rfl
    clear h1 ez HT p0 a0 a1 a2 b0 b1 b2 hr' hs' hb
    go_wp2
    go_ret
    exact ⟨by rw [HT2.out]; try simp, hb1⟩
theorem eqO14 {w : World} {g g' : Nat} {a b : Addr} {x y : List UInt8} (ha : Err3 w g a x) (hb : Err3 w g' b y) (hne : x ≠ y) :
    (binOp .eql 35 (.iface 141 (.pointer (some a))) (.iface 141 (.pointer (some b)))).run Tryz.prog w = .ok (.bool false) w := by
  obtain ⟨i, hi, hcmp⟩ := Option.map_eq_some_iff.1 Tryz.errComp3
  obtain ⟨j, hj, hsz⟩ := Option.map_eq_some_iff.1 Tryz.errSize3
  obtain ⟨_, ⟨s, hs, es⟩, ca, ta, ka⟩ := ha
  obtain ⟨_, ⟨z, hz, ez⟩, cb, tb, kb⟩ := hb
  have hab : a ≠ b := by
    rintro rfl
    have := hs.symm.trans hz
    simp only [Option.some.injEq, Value.string.injEq] at this
    exact hne (by rw [← es, ← ez, this])
  exact run_eql_iface_ptr_other (P := Tryz.prog) w Tryz.underlying35 Tryz.underlying141 hi hcmp hj (by omega) hab ka kb
set_option maxRecDepth 100000 in
set_option maxHeartbeats 16000000 in
/-- CheckWeak. -/
theorem weak_walk (P : Prob) {ya : Option Addr} {ny yc : Nat} {Y : Nat → Rat} {Zy : Nat → Nat} {xa : Option Addr} {nx xc : Nat} {X : Nat → Rat} {Zx : Nat → Nat} {Ky Kx : Nat} (w : World) (hP : PQ w P) (hy : LQ w ya ny Y Zy) (hzy : ∀ i, i < ny → 1 ≤ Zy i ∧ SzR (Y i) (Zy i)) (hty : tot Zy ny ≤ Ky) (hx : LQ w xa nx X Zx) (hzx : ∀ i, i < nx → 1 ≤ Zx i ∧ SzR (X i) (Zx i)) (htx : tot Zx nx ≤ Kx) (hK : P.K + Ky + Kx ≤ 1048576) (hT : TB w)
    {pS pP pV pB pR pD : Addr} {tS tB : List UInt8} (EH : EE w (.iface 141 (.pointer (some pS))) (.iface 141 (.pointer (some pP))) (.iface 141 (.pointer (some pV))) (.iface 141 (.pointer (some pB))) (.iface 141 (.pointer (some pR))) (.iface 141 (.pointer (some pD)))) (ES : Err3 w 1 pS tS) (EB : Err3 w 0 pB tB) (hne : tS ≠ tB) :
    Calls Tryz.prog 3 #[P.val, .slice ya ny yc, .slice xa nx xc] w fun e w' => e = .returned (.bool true) ∧ Below w.heap.size w w' := by
  unfold Prob.val
  have Pb := box_new w #[.bool P.mx, .string P.nm, .bool P.p, .slice P.a P.na P.ca, .slice P.d P.nd P.cd, .slice P.va P.vn P.vc, .slice P.ra P.rn P.rc] 31
  have hb0 := bel_d0 w (.cells #[.bool P.mx, .string P.nm, .bool P.p, .slice P.a P.na P.ca, .slice P.d P.nd P.cd, .slice P.va P.vn P.vc, .slice P.ra P.rn P.rc] 31)
  have hs0 : w.heap.size + 1 ≤ (w.alloc (.cells #[.bool P.mx, .string P.nm, .bool P.p, .slice P.a P.na P.ca, .slice P.d P.nd P.cd, .slice P.va P.vn P.vc, .slice P.ra P.rn P.rc] 31)).heap.size := by simp
  go_enter Tryz.func3, Tryz.ntmps3
  go_wp2_with fail
  generalize w.alloc (.cells #[.bool P.mx, .string P.nm, .bool P.p, .slice P.a P.na P.ca, .slice P.d P.nd P.cd, .slice P.va P.vn P.vc, .slice P.ra P.rn P.rc] 31) = W0 at *
  refine (awake14 W0 (hT.below hb0) (EH.below hb0)).mono ?_
  rintro e w1 ⟨rfl, h1⟩
  have hb1 := bel_tr hb0 h1
  replace Pb := Pb.below h1
  clear h1 hb0 hs0
  have p0 := Pb 0 _ rfl; have p1 := Pb 1 _ rfl; have p2 := Pb 2 _ rfl; have p3 := Pb 3 _ rfl; have p4 := Pb 4 _ rfl; have p5 := Pb 5 _ rfl; have p6 := Pb 6 _ rfl
  go_wp2_with fail
  clear p0 p1 p2 p3 p4 p5 p6
  refine (proveQ P (Ky := Ky) w1 (hP.below hb1) (hy.below hb1) hzy hty (by omega) (hT.below hb1) (EH.below hb1).s (EH.below hb1).b).mono ?_
  rintro e w2 ⟨h2, hh⟩
  have hb2 := bel_tr hb1 h2
  replace Pb := Pb.below h2
  clear h2 hb1
  rcases hh with ⟨hn, rfl⟩ | ⟨_, hno, rfl⟩ | ⟨_, hok, f, c, n, k, d, m, l, rfl, G⟩
  · clear hn
    have hz := bel_d0 w2 (.cells #[.bool false, .slice none 0 0, .slice none 0 0] 27)
    replace Pb := Pb.below hz
    have hb3 := bel_tr hb2 hz
    have p0 := Pb 0 _ rfl; have p1 := Pb 1 _ rfl; have p2 := Pb 2 _ rfl; have p3 := Pb 3 _ rfl; have p4 := Pb 4 _ rfl; have p5 := Pb 5 _ rfl; have p6 := Pb 6 _ rfl
    go_wp2_with fail
    clear p0 p1 p2 p3 p4 p5 p6 hz hb2
    generalize w2.alloc (.cells #[.bool false, .slice none 0 0, .slice none 0 0] 27) = W2 at *
    refine (holdD2 P (Kx := Kx) W2 (hP.below hb3) (hx.below hb3) hzx htx (by omega)).mono ?_
    rintro e w3 ⟨b, rfl, _, h3⟩
    have hb4 := bel_tr hb3 h3
    have ES4 := ES.below hb4
    have EB4 := EB.below hb4
    have h4 := eqO14 ES4 EB4 hne
    have h5 := eqS14 w3 pS
    have g0 := EB4.1
    have g1 := ES4.1
    clear Pb h3 hb3 ES4 EB4 ES EB EH hP hy hx hT
    go_wp2
    go_ret
    exact ⟨rfl, hb4⟩
  · clear hno
    have hz := bel_d0 w2 (.cells #[.bool false, .slice none 0 0, .slice none 0 0] 27)
    replace Pb := Pb.below hz
    have hb3 := bel_tr hb2 hz
    have p0 := Pb 0 _ rfl; have p1 := Pb 1 _ rfl; have p2 := Pb 2 _ rfl; have p3 := Pb 3 _ rfl; have p4 := Pb 4 _ rfl; have p5 := Pb 5 _ rfl; have p6 := Pb 6 _ rfl
    go_wp2_with fail
    clear p0 p1 p2 p3 p4 p5 p6 hz hb2
    generalize w2.alloc (.cells #[.bool false, .slice none 0 0, .slice none 0 0] 27) = W2 at *
    refine (holdD2 P (Kx := Kx) W2 (hP.below hb3) (hx.below hb3) hzx htx (by omega)).mono ?_
    rintro e w3 ⟨b, rfl, _, h3⟩
    have hb4 := bel_tr hb3 h3
    have ES4 := ES.below hb4
    have EB4 := EB.below hb4
    have h5 := eqS14 w3 pB
    have g0 := EB4.1
    have g1 := ES4.1
    clear Pb h3 hb3 ES4 EB4 ES EB EH hP hy hx hT
    go_wp2
    go_ret
    exact ⟨rfl, hb4⟩
  · have hz := bel_d0 w2 (.cells #[.bool f, .slice c n k, .slice d m l] 27)
    have V2 := var3_new w2 (.bool f) (.slice c n k) (.slice d m l) 27
    replace Pb := Pb.below hz
    have hb3 := bel_tr hb2 hz
    have G2 := G.below hz
    have p0 := Pb 0 _ rfl; have p1 := Pb 1 _ rfl; have p2 := Pb 2 _ rfl; have p3 := Pb 3 _ rfl; have p4 := Pb 4 _ rfl; have p5 := Pb 5 _ rfl; have p6 := Pb 6 _ rfl
    have HO : Hid (okS P Y) := hok
    clear hok
    go_wp2_with fail
    clear p0 p1 p2 p3 p4 p5 p6 hz hb2 G
    generalize w2.alloc (.cells #[.bool f, .slice c n k, .slice d m l] 27) = W2 at *
    refine (holdD2 P (Kx := Kx) W2 (hP.below hb3) (hx.below hb3) hzx htx (by omega)).mono ?_
    rintro e w3 ⟨b, rfl, hb, h3⟩
    have hb4 := bel_tr hb3 h3
    have HH : Hid (b = true ↔ Hlds P nx X) := hb
    replace Pb := Pb.below h3
    replace V2 := V2.below h3
    have G3 := G2.below h3
    clear h3 hb3 G2 hb ES EB
    cases b
    · clear Pb V2 G3 HH
      go_wp2
      go_ret
      exact ⟨rfl, hb4⟩
    · have hH := HH.out.1 rfl
      have HW : Hid (false = true ↔ btr P (vlu P (xn X nx)) (pvS P Y)) := by
        show false = true ↔ _
        rw [vlu_xn P X (by have := hH.1; omega)]
        exact ⟨fun h => (by cases h), fun h => absurd h (weak hH HO.out)⟩
      clear hH HH HO
      obtain ⟨v0, v1, v2, _, _, _⟩ := id V2
      have HBX : ∀ w', Below w3.heap.size w3 w' → (w'.cell? ⟨w.heap.size, 0, none⟩ = some (.bool P.mx) ∧ w'.cell? ⟨w.heap.size, 1, none⟩ = some (.string P.nm) ∧ w'.cell? ⟨w.heap.size, 2, none⟩ = some (.bool P.p) ∧ w'.cell? ⟨w.heap.size, 3, none⟩ = some (.slice P.a P.na P.ca) ∧ w'.cell? ⟨w.heap.size, 4, none⟩ = some (.slice P.d P.nd P.cd) ∧ w'.cell? ⟨w.heap.size, 5, none⟩ = some (.slice P.va P.vn P.vc) ∧ w'.cell? ⟨w.heap.size, 6, none⟩ = some (.slice P.ra P.rn P.rc) ∧ w'.cell? ⟨w2.heap.size, 0, none⟩ = some (.bool f) ∧ w'.cell? ⟨w2.heap.size, 1, none⟩ = some (.slice c n k) ∧ w'.cell? ⟨w2.heap.size, 2, none⟩ = some (.slice d m l)) := fun w' h => ⟨(Pb.below h) 0 _ rfl, (Pb.below h) 1 _ rfl, (Pb.below h) 2 _ rfl, (Pb.below h) 3 _ rfl, (Pb.below h) 4 _ rfl, (Pb.below h) 5 _ rfl, (Pb.below h) 6 _ rfl, kept_c h v0, kept_c h v1, kept_c h v2⟩
      go_wp2_with fail
      refine wp_region_noPanic (wp_region_guard (fun _ w' => w'.cell? ⟨w.heap.size, 0, none⟩ = some (.bool P.mx) ∧ w'.cell? ⟨w.heap.size, 1, none⟩ = some (.string P.nm) ∧ w'.cell? ⟨w.heap.size, 2, none⟩ = some (.bool P.p) ∧ w'.cell? ⟨w.heap.size, 3, none⟩ = some (.slice P.a P.na P.ca) ∧ w'.cell? ⟨w.heap.size, 4, none⟩ = some (.slice P.d P.nd P.cd) ∧ w'.cell? ⟨w.heap.size, 5, none⟩ = some (.slice P.va P.vn P.vc) ∧ w'.cell? ⟨w.heap.size, 6, none⟩ = some (.slice P.ra P.rn P.rc) ∧ w'.cell? ⟨w2.heap.size, 0, none⟩ = some (.bool f) ∧ w'.cell? ⟨w2.heap.size, 1, none⟩ = some (.slice c n k) ∧ w'.cell? ⟨w2.heap.size, 2, none⟩ = some (.slice d m l)) (by as_aux_lemma => kernel_rfl) ?_)
      have hc0 : Below w3.heap.size w3 w3.drew := bel_d1 _
      generalize w3.drew = z0 at *
      refine wpAnyG.take 0 (v := .agg #[.bool P.mx, .string P.nm, .bool P.p, .slice P.a P.na P.ca, .slice P.d P.nd P.cd, .slice P.va P.vn P.vc, .slice P.ra P.rn P.rc]) (by decide) (by as_aux_lemma => kernel_rfl) (fun _ _ _ h => h) 7 _ (by rfl) (fun _ _ => Iff.rfl) (fun _ _ _ h => h) (by as_aux_lemma => kernel_rfl) (by as_aux_lemma => kernel_rfl) (by as_aux_lemma => kernel_rfl) (by rfl) ?y0 (HBX _ hc0) (by rfl) ?_
      case y0 =>
        rintro w' ⟨q0, q1, q2, q3, q4, q5, q6, q7, q8, q9⟩
        simp only [List.getElem_toArray, List.getElem_cons_zero]
        go_simp
      simp only [List.getElem_toArray, List.getElem_cons_zero, Act.put, List.setIfInBounds_toArray, List.set_cons_zero, List.set_cons_succ]
      refine wpAnyG.take 1 (v := .agg #[.bool P.mx, .string P.nm, .bool P.p, .slice P.a P.na P.ca, .slice P.d P.nd P.cd, .slice P.va P.vn P.vc, .slice P.ra P.rn P.rc]) (by decide) (by as_aux_lemma => kernel_rfl) (fun _ _ _ h => h) 7 _ (by rfl) (fun _ _ => Iff.rfl) (fun _ _ _ h => h) (by as_aux_lemma => kernel_rfl) (by as_aux_lemma => kernel_rfl) (by as_aux_lemma => kernel_rfl) (by rfl) ?y1 (HBX _ hc0) (by rfl) ?_
      case y1 =>
        rintro w' ⟨q0, q1, q2, q3, q4, q5, q6, q7, q8, q9⟩
        simp only [List.getElem_toArray, List.getElem_cons_zero, List.getElem_cons_succ]
        go_simp
      simp only [List.getElem_toArray, List.getElem_cons_zero, List.getElem_cons_succ, Act.put, List.setIfInBounds_toArray, List.set_cons_zero, List.set_cons_succ]
      refine wpAnyG.take 2 (v := .slice xa nx xc) (by decide) (by as_aux_lemma => kernel_rfl) (fun _ _ _ h => h) 7 _ (by rfl) (fun _ _ => Iff.rfl) (fun _ _ _ h => h) (by as_aux_lemma => kernel_rfl) (by as_aux_lemma => kernel_rfl) (by as_aux_lemma => kernel_rfl) (by rfl) ?y2 (HBX _ hc0) (by rfl) ?_
      case y2 =>
        rintro w' ⟨q0, q1, q2, q3, q4, q5, q6, q7, q8, q9⟩
        simp only [List.getElem_toArray, List.getElem_cons_zero, List.getElem_cons_succ]
        go_simp
      simp only [List.getElem_toArray, List.getElem_cons_zero, List.getElem_cons_succ, Act.put, List.setIfInBounds_toArray, List.set_cons_zero, List.set_cons_succ]
      refine wpAnyG.take 4 (v := .agg #[.bool f, .slice c n k, .slice d m l]) (by decide) (by as_aux_lemma => kernel_rfl) (fun _ _ _ h => h) 7 _ (by rfl) (fun _ _ => Iff.rfl) (fun _ _ _ h => h) (by as_aux_lemma => kernel_rfl) (by as_aux_lemma => kernel_rfl) (by as_aux_lemma => kernel_rfl) (by rfl) ?y4 (HBX _ hc0) (by rfl) ?_
      case y4 =>
        rintro w' ⟨q0, q1, q2, q3, q4, q5, q6, q7, q8, q9⟩
        simp only [List.getElem_toArray, List.getElem_cons_zero, List.getElem_cons_succ]
        go_simp
      simp only [List.getElem_toArray, List.getElem_cons_zero, List.getElem_cons_succ, Act.put, List.setIfInBounds_toArray, List.set_cons_zero, List.set_cons_succ]
      refine wpAnyG.one 3 (by as_aux_lemma => kernel_rfl) (by decide) (by rfl) (fun K hK => ?_)
      simp only [List.getElem_toArray, List.getElem_cons_zero, List.getElem_cons_succ]
      go_simp
      refine (valD2 P (Kx := Kx) z0 (hP.below (bel_tr hb4 hc0)) (hx.below (bel_tr hb4 hc0)) hzx htx (by omega)).mono ?_
      rintro e z1 ⟨f1, c1, n1, k1, d1, m1, l1, rfl, G1, hk1⟩
      have hc1 : Below w3.heap.size w3 z1 := bel_tr hc0 hk1
      dsimp only
      refine hK _ _ (HBX _ hc1) ?_
      clear hK K
      refine wpAnyG.one 5 (by as_aux_lemma => kernel_rfl) (by decide) (by rfl) (fun K hK => ?_)
      simp only [List.getElem_toArray, List.getElem_cons_zero, List.getElem_cons_succ]
      go_simp
      refine (betterQ P false z1 G1.tr (G3.tr.below hc1) (by omega) (by omega) (by omega) HW.out).mono ?_
      rintro e z2 ⟨rfl, hk2⟩
      have hc2 : Below w3.heap.size w3 z2 := bel_tr hc1 hk2
      dsimp only
      refine hK _ _ (HBX _ hc2) ?_
      clear hK K
      refine wpAnyG.take 6 (v := .bool true) (by decide) (by as_aux_lemma => kernel_rfl) (fun _ _ _ h => h) 7 _ (by rfl) (fun _ _ => Iff.rfl) (fun _ _ _ h => h) (by as_aux_lemma => kernel_rfl) (by as_aux_lemma => kernel_rfl) (by as_aux_lemma => kernel_rfl) (by rfl) ?y6 (HBX _ hc2) (by rfl) ?_
      case y6 =>
        rintro w' ⟨q0, q1, q2, q3, q4, q5, q6, q7, q8, q9⟩
        simp only [List.getElem_toArray, List.getElem_cons_zero, List.getElem_cons_succ]
        go_simp
      simp only [List.getElem_toArray, List.getElem_cons_zero, List.getElem_cons_succ, Act.put, List.setIfInBounds_toArray, List.set_cons_zero, List.set_cons_succ]
      refine wpAnyG.one 7 (by as_aux_lemma => kernel_rfl) (by decide) (by rfl) (fun K hK => ?_)
      simp only [List.getElem_toArray, List.getElem_cons_zero, List.getElem_cons_succ]
      go_simp
      refine hK _ _ (HBX _ hc2) ?_
      clear hK K
      refine wpAnyG.done (by as_aux_lemma => kernel_rfl) (NoPanic.normal ?_)
      have hw2 := bel_tr hb4 hc2
      clear HBX hc0 hc1 hc2 hk1 hk2 G1 G3 HW v0 v1 v2 V2 Pb
      go_wp2
      go_ret
      exact ⟨rfl, hw2⟩
end Go.Proofs.YtcakohejaboplaaGreatDoor

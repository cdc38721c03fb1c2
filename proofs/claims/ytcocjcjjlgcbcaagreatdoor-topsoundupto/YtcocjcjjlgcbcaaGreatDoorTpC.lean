import Derived.Test.YtcocjcjjlgcbcaaGreatDoorTpB
import Derived.Test.YtcocjcjjlgcbcaaGreatDoorQAll
namespace Go.Proofs.YtcocjcjjlgcbcaaGreatDoor
open Go.RowKit

set_option maxRecDepth 100000 in
set_option maxHeartbeats 32000000 in
/-- Along the ray of a certificate that holds there is a point that holds and is better than m. -/
theorem beyondT (P : Prob) (C : Crt) {p : Bool} {a : Option Addr} {na ca : Nat} {d : Option Addr} {nd cd : Nat} {m : Rat} {Km : Nat} (w : World) (hP : PQ w P) (hC : CQ w C) (hm : TR w p a na ca d nd cd m Km) (hKm : 1 ≤ Km) (hK : P.K + C.K + Km ≤ 1048576) (hxn : C.xn = P.vn) (hzn : C.zn = P.vn) (hl : Hlds P C.xn C.X) (hd : Dir P C.Z) (hi : imp P C.Z) :
    Calls Tryz.prog 37 #[P.val, C.val, .agg #[.bool p, .slice a na ca, .slice d nd cd]] w fun e w' => e = .returned (.bool true) ∧ Below w.heap.size w w' := by
  have hall := hC.all
  have hallP := hP.all
  have ht1 := tot_pos C.ZX C.xn
  have ht2 := tot_pos C.ZY C.yn
  have ht3 := tot_pos C.ZZ C.zn
  have hs1C := hC.s1
  have HXN : Hid (C.xn = P.vn) := hxn
  have HZN : Hid (C.zn = C.xn) := by show C.zn = C.xn; omega
  have HZP : Hid (C.zn = P.vn) := hzn
  have hxv : C.xn ≤ 1048576 := by have := tot_len C.ZX C.xn; omega
  have hCz : ∀ i, i < C.xn → 1 ≤ C.ZZ i ∧ SzR (C.Z i) (C.ZZ i) := fun i hi => hC.zz i (by omega)
  have htz : tot C.ZZ C.xn = tot C.ZZ C.zn := by rw [HZN.out]
  have hsum : tot C.ZX C.xn + tot C.ZZ C.xn ≤ C.K := by omega
  have HVX : Hid (vlu P (xn C.X C.xn) = vlu P C.X) := vlu_xn P C.X (by omega)
  have HR0 : Hid (rte P C.Z ≠ 0) := imp_ne hi
  have HSZ : Hid (SzR ((m - vlu P C.X) / rte P C.Z) (P.K + C.K + Km + 2) ∧ SzR (((m - vlu P C.X) / rte P C.Z) + 1) (P.K + C.K + Km + 3)) := hP.step_sz (fun i hi => (hC.zx i (by omega)).2) (fun i hi => (hCz i (by omega)).2) (by rw [← HXN.out]; exact hsum) (hm.sz hKm) (by omega) (imp_ne hi)
  have HL : Hid (∀ t : Rat, 0 ≤ t → Hlds P C.xn (fun j => C.X j + t * C.Z j)) := fun t ht => hlds_ray ht hl hd
  have HBT : Hid (∀ t : Rat, ((m - vlu P C.X) / rte P C.Z) ≤ t → btr P (vlu P (fun j => C.X j + (t + 1) * C.Z j)) m) := fun t ht => imp_far hi ht
  have HSUM : Hid (tot C.ZX C.xn + tot C.ZZ C.xn ≤ C.K) := hsum
  clear hxn hzn hl hd hi hsum htz
  unfold Prob.val Crt.val
  obtain ⟨Pb, Cb, Mb, hb0, hs0⟩ := boxc3 w #[.bool P.mx, .string P.nm, .bool P.p, .slice P.a P.na P.ca, .slice P.d P.nd P.cd, .slice P.va P.vn P.vc, .slice P.ra P.rn P.rc] 31 #[.int .i64 C.vd, .bool C.p, .slice C.a C.na C.ca, .slice C.d C.nd C.cd, .slice C.xa C.xn C.xc, .slice C.ya C.yn C.yc, .slice C.za C.zn C.zc] 34 #[.bool p, .slice a na ca, .slice d nd cd] 27
  have p0 := Pb 0 _ rfl; have p1 := Pb 1 _ rfl; have p2 := Pb 2 _ rfl; have p3 := Pb 3 _ rfl; have p4 := Pb 4 _ rfl; have p5 := Pb 5 _ rfl; have p6 := Pb 6 _ rfl
  have c6 := Cb 6 _ rfl
  go_enter Tryz.func37, Tryz.ntmps37
  go_wp2_with fail
  clear p0 p1 p2 p3 p4 p5 p6 c6
  generalize ((w.alloc (.cells #[.bool P.mx, .string P.nm, .bool P.p, .slice P.a P.na P.ca, .slice P.d P.nd P.cd, .slice P.va P.vn P.vc, .slice P.ra P.rn P.rc] 31)).alloc (.cells #[.int .i64 C.vd, .bool C.p, .slice C.a C.na C.ca, .slice C.d C.nd C.cd, .slice C.xa C.xn C.xc, .slice C.ya C.yn C.yc, .slice C.za C.zn C.zc] 34)).alloc (.cells #[.bool p, .slice a na ca, .slice d nd cd] 27) = W0 at *
  refine (rateT P (Kz := C.K) W0 (hP.below hb0) (hC.z.below hb0) hC.zz (by omega) HZP.out (by omega)).mono ?_
  rintro e w1 ⟨fR, cR, nR, kR, dR, mR, lR, rfl, Gr, h1⟩
  have hs1 := h1.size
  have hx := bel_d0 w1 (.cells #[.bool fR, .slice cR nR kR, .slice dR mR lR] 27)
  have Rb := var3_new w1 (.bool fR) (.slice cR nR kR) (.slice dR mR lR) 27
  have hs2 : (w1.alloc (.cells #[.bool fR, .slice cR nR kR, .slice dR mR lR] 27)).heap.size = w1.heap.size + 1 := by simp
  have hbU := bel_tr hb0 (bel_tr h1 hx)
  replace Pb := (Pb.below h1).below hx
  replace Cb := (Cb.below h1).below hx
  replace Mb := (Mb.below h1).below hx
  replace Gr := Gr.below hx
  obtain ⟨r0, r1, r2, _, _, _⟩ := id Rb
  clear h1 hx hb0
  go_wp2_with fail
  clear r0 r1 r2
  obtain ⟨RR, hRR⟩ : ∃ R, R = w1.heap.size := ⟨_, rfl⟩
  rw [← hRR] at Rb hs2 ⊢
  have hR3 : w.heap.size + 3 ≤ RR := by omega
  clear hRR hs1
  generalize w1.alloc (.cells #[.bool fR, .slice cR nR kR, .slice dR mR lR] 27) = U0 at *
  refine (signD U0 Gr.tr (by omega) (by omega)).mono ?_
  rintro e U ⟨rfl, h1⟩
  obtain ⟨sg, hsg⟩ : ∃ s, s = (rte P C.Z).num.sign := ⟨_, rfl⟩
  rw [← hsg]
  have hsN : ¬ sg = 0 := by
    intro e
    rcases (show rte P C.Z = 0 ∨ 0 < rte P C.Z ∨ rte P C.Z < 0 by grind) with h | h | h
    · exact HR0.out h
    · have := sgn_pos h; omega
    · have := sgn_neg h; omega
  have hsB : (sg == 0) = false := by simpa using hsN
  have hsU := h1.size
  replace Pb := Pb.below h1
  replace Cb := Cb.below h1
  replace Mb := Mb.below h1
  replace Rb := Rb.below h1
  replace Gr := Gr.below h1
  replace hbU := bel_tr hbU h1
  clear h1 hsg
  go_wp2_with fail
  clear hsN hsB
  have HBX : ∀ w', Below U.heap.size U w' → (w'.cell? ⟨w.heap.size, 0, none⟩ = some (.bool P.mx) ∧ w'.cell? ⟨w.heap.size, 1, none⟩ = some (.string P.nm) ∧ w'.cell? ⟨w.heap.size, 2, none⟩ = some (.bool P.p) ∧ w'.cell? ⟨w.heap.size, 3, none⟩ = some (.slice P.a P.na P.ca) ∧ w'.cell? ⟨w.heap.size, 4, none⟩ = some (.slice P.d P.nd P.cd) ∧ w'.cell? ⟨w.heap.size, 5, none⟩ = some (.slice P.va P.vn P.vc) ∧ w'.cell? ⟨w.heap.size, 6, none⟩ = some (.slice P.ra P.rn P.rc) ∧ w'.cell? ⟨w.heap.size + 1, 4, none⟩ = some (.slice C.xa C.xn C.xc) ∧ w'.cell? ⟨w.heap.size + 2, 0, none⟩ = some (.bool p) ∧ w'.cell? ⟨w.heap.size + 2, 1, none⟩ = some (.slice a na ca) ∧ w'.cell? ⟨w.heap.size + 2, 2, none⟩ = some (.slice d nd cd) ∧ w'.cell? ⟨RR, 0, none⟩ = some (.bool fR) ∧ w'.cell? ⟨RR, 1, none⟩ = some (.slice cR nR kR) ∧ w'.cell? ⟨RR, 2, none⟩ = some (.slice dR mR lR)) := fun w' h => ⟨(Pb.below h) 0 _ rfl, (Pb.below h) 1 _ rfl, (Pb.below h) 2 _ rfl, (Pb.below h) 3 _ rfl, (Pb.below h) 4 _ rfl, (Pb.below h) 5 _ rfl, (Pb.below h) 6 _ rfl, (Cb.below h) 4 _ rfl, (Mb.below h) 0 _ rfl, (Mb.below h) 1 _ rfl, (Mb.below h) 2 _ rfl, (Rb.below h).c0, (Rb.below h).c1, (Rb.below h).c2⟩
  refine wp_cutK (fun a0 a' w' => ∃ (u1 u2 u3 u4 u5 u6 u7 u8 u9 u10 u11 : Value) (RW : Nat) (fQ : Bool) (cQ : Option Addr) (nQ kQ : Nat) (dQ : Option Addr) (mQ lQ : Nat), a' = (((((((((((((a0.put (some 21) u1).put (some 22) u2).put (some 23) u3).put (some 24) u4).put (some 27) u5).put (some 25) u6).put (some 26) u7).put (some 28) u8).put (some 20) u9).put (some 29) u10).put (some 30) u11).put (some 8) (.pointer (some ⟨RW, 0, none⟩))).put (some 9) (.int .i64 0)) ∧ Var3 w' RW (.bool fQ) (.slice cQ nQ kQ) (.slice dQ mQ lQ) ∧ GR w' U.heap.size fQ cQ nQ kQ dQ mQ lQ ((m - vlu P C.X) / rte P C.Z) (P.K + C.K + Km + 2) ∧ U.heap.size ≤ RW ∧ Below U.heap.size U w') ?_ ?_
  · refine wp_region_noPanic (wp_region_guard (Till 13 13 (fun w' => w'.cell? ⟨w.heap.size, 0, none⟩ = some (.bool P.mx) ∧ w'.cell? ⟨w.heap.size, 1, none⟩ = some (.string P.nm) ∧ w'.cell? ⟨w.heap.size, 2, none⟩ = some (.bool P.p) ∧ w'.cell? ⟨w.heap.size, 3, none⟩ = some (.slice P.a P.na P.ca) ∧ w'.cell? ⟨w.heap.size, 4, none⟩ = some (.slice P.d P.nd P.cd) ∧ w'.cell? ⟨w.heap.size, 5, none⟩ = some (.slice P.va P.vn P.vc) ∧ w'.cell? ⟨w.heap.size, 6, none⟩ = some (.slice P.ra P.rn P.rc) ∧ w'.cell? ⟨w.heap.size + 1, 4, none⟩ = some (.slice C.xa C.xn C.xc) ∧ w'.cell? ⟨w.heap.size + 2, 0, none⟩ = some (.bool p) ∧ w'.cell? ⟨w.heap.size + 2, 1, none⟩ = some (.slice a na ca) ∧ w'.cell? ⟨w.heap.size + 2, 2, none⟩ = some (.slice d nd cd) ∧ w'.cell? ⟨RR, 0, none⟩ = some (.bool fR) ∧ w'.cell? ⟨RR, 1, none⟩ = some (.slice cR nR kR) ∧ w'.cell? ⟨RR, 2, none⟩ = some (.slice dR mR lR)) (fun _ => True)) (by as_aux_lemma => kernel_rfl) ?_)
    have hc0 : Below U.heap.size U U.drew := bel_d1 _
    generalize U.drew = z0 at *
    refine wpAnyG.take 0 (v := .agg #[.bool p, .slice a na ca, .slice d nd cd]) (by decide) (by as_aux_lemma => kernel_rfl) (fun _ _ _ h => h) 13 _ (by rfl) (till_ind (by decide) (by decide)) (fun L w' h1 h2 => h2.1 h1) (by as_aux_lemma => kernel_rfl) (by as_aux_lemma => kernel_rfl) (by as_aux_lemma => kernel_rfl) (by rfl) ?y0 ⟨fun _ => HBX _ hc0, fun _ => trivial⟩ (by rfl) ?_
    case y0 =>
      rintro w' ⟨q0, q1, q2, q3, q4, q5, q6, q7, q8, q9, q10, q11, q12, q13⟩
      simp only [lgA, lgZ]
      go_simp
    simp only [lgA, lgZ, Act.put, lsA, lsZ, lsS]
    refine wpAnyG.take 1 (v := .agg #[.bool P.mx, .string P.nm, .bool P.p, .slice P.a P.na P.ca, .slice P.d P.nd P.cd, .slice P.va P.vn P.vc, .slice P.ra P.rn P.rc]) (by decide) (by as_aux_lemma => kernel_rfl) (fun _ _ _ h => h) 13 _ (by rfl) (till_ind (by decide) (by decide)) (fun L w' h1 h2 => h2.1 h1) (by as_aux_lemma => kernel_rfl) (by as_aux_lemma => kernel_rfl) (by as_aux_lemma => kernel_rfl) (by rfl) ?y1 ⟨fun _ => HBX _ hc0, fun _ => trivial⟩ (by rfl) ?_
    case y1 =>
      rintro w' ⟨q0, q1, q2, q3, q4, q5, q6, q7, q8, q9, q10, q11, q12, q13⟩
      simp only [lgA, lgZ, lgS]
      go_simp
    simp only [lgA, lgZ, lgS, Act.put, lsA, lsZ, lsS]
    refine wpAnyG.take 2 (v := .pointer (some ⟨w.heap.size + 1, 4, none⟩)) (by decide) (by as_aux_lemma => kernel_rfl) (fun _ _ _ h => h) 13 _ (by rfl) (till_ind (by decide) (by decide)) (fun L w' h1 h2 => h2.1 h1) (by as_aux_lemma => kernel_rfl) (by as_aux_lemma => kernel_rfl) (by as_aux_lemma => kernel_rfl) (by rfl) ?y2 ⟨fun _ => HBX _ hc0, fun _ => trivial⟩ (by rfl) ?_
    case y2 =>
      rintro w' ⟨q0, q1, q2, q3, q4, q5, q6, q7, q8, q9, q10, q11, q12, q13⟩
      simp only [lgA, lgZ, lgS]
      go_simp
    simp only [lgA, lgZ, lgS, Act.put, lsA, lsZ, lsS]
    refine wpAnyG.take 3 (v := .slice C.xa C.xn C.xc) (by decide) (by as_aux_lemma => kernel_rfl) (fun _ _ _ h => h) 13 _ (by rfl) (till_ind (by decide) (by decide)) (fun L w' h1 h2 => h2.1 h1) (by as_aux_lemma => kernel_rfl) (by as_aux_lemma => kernel_rfl) (by as_aux_lemma => kernel_rfl) (by rfl) ?y3 ⟨fun _ => HBX _ hc0, fun _ => trivial⟩ (by rfl) ?_
    case y3 =>
      rintro w' ⟨q0, q1, q2, q3, q4, q5, q6, q7, q8, q9, q10, q11, q12, q13⟩
      simp only [lgA, lgZ, lgS]
      go_simp
    simp only [lgA, lgZ, lgS, Act.put, lsA, lsZ, lsS]
    refine wpAnyG.take 6 (v := .agg #[.bool fR, .slice cR nR kR, .slice dR mR lR]) (by decide) (by as_aux_lemma => kernel_rfl) (fun _ _ _ h => h) 13 _ (by rfl) (till_ind (by decide) (by decide)) (fun L w' h1 h2 => h2.1 h1) (by as_aux_lemma => kernel_rfl) (by as_aux_lemma => kernel_rfl) (by as_aux_lemma => kernel_rfl) (by rfl) ?y6 ⟨fun _ => HBX _ hc0, fun _ => trivial⟩ (by rfl) ?_
    case y6 =>
      rintro w' ⟨q0, q1, q2, q3, q4, q5, q6, q7, q8, q9, q10, q11, q12, q13⟩
      simp only [lgA, lgZ, lgS]
      go_simp
    simp only [lgA, lgZ, lgS, Act.put, lsA, lsZ, lsS]
    refine wpAnyG.two 4 11 (by as_aux_lemma => kernel_rfl) (by decide) (by decide) (by rfl) (by rfl) (fun K hK => ?_) (fun K hK => ?_)
    · simp only [lgA, lgZ, lgS]
      go_simp
      refine (valD2 P (Kx := C.K) z0 (hP.below (bel_tr hbU hc0)) (hC.x.below (bel_tr hbU hc0)) hC.zx (by omega) (by omega)).mono ?_
      rintro e z1 ⟨f1, c1, n1, k1, d1, m1, l1, rfl, G1, hk⟩
      replace G1 := G1.val HVX.out
      have hc1 := bel_tr hc0 hk
      dsimp only
      refine hK _ _ ⟨fun _ => HBX _ hc1, fun _ => trivial⟩ ?_
      clear hK K hk
      refine wpAnyG.two 5 11 (by as_aux_lemma => kernel_rfl) (by decide) (by decide) (by rfl) (by rfl) (fun K hK => ?_) (fun K hK => ?_)
      · simp only [lgA, lgZ, lgS]
        go_simp
        refine (subD z1 (hm.below (bel_tr hbU hc1)) G1.tr (by omega) hKm (by omega)).mono ?_
        rintro e z2 ⟨f2, c2, n2, k2, d2, m2, l2, rfl, S2, hk⟩
        have hc2 := bel_tr hc1 hk
        dsimp only
        refine hK _ _ ⟨fun _ => HBX _ hc2, fun _ => trivial⟩ ?_
        clear hK K hk G1
        refine wpAnyG.two 7 11 (by as_aux_lemma => kernel_rfl) (by decide) (by decide) (by rfl) (by rfl) (fun K hK => ?_) (fun K hK => ?_)
        · simp only [lgA, lgZ, lgS]
          go_simp
          refine (quoD z2 S2.tr (Gr.tr.below hc2) (by omega) (by omega) (by omega) HR0.out).mono ?_
          rintro e z3 ⟨fQ, cQ, nQ, kQ, dQ, mQ, lQ, rfl, R3, hk⟩
          have hc3 := bel_tr hc2 hk
          replace R3 := R3.fit HSZ.out.1
          replace R3 := R3.mono (B' := U.heap.size) hc2.size
          dsimp only
          refine hK _ _ ⟨fun _ => HBX _ hc3, fun _ => trivial⟩ ?_
          clear hK K hk S2
          refine wpAnyG.take 8 (v := .tuple #[.agg #[.bool fQ, .slice cQ nQ kQ, .slice dQ mQ lQ], .int .i64 0]) (by decide) (by as_aux_lemma => kernel_rfl) (fun _ _ _ h => h) 13 _ (by rfl) (till_ind (by decide) (by decide)) (fun L w' h1 h2 => h2.1 h1) (by as_aux_lemma => kernel_rfl) (by as_aux_lemma => kernel_rfl) (by as_aux_lemma => kernel_rfl) (by rfl) ?y8 ⟨fun _ => HBX _ hc3, fun _ => trivial⟩ (by rfl) ?_
          case y8 =>
            rintro w' ⟨q0, q1, q2, q3, q4, q5, q6, q7, q8, q9, q10, q11, q12, q13⟩
            simp only [lgA, lgZ, lgS]
            go_simp
          simp only [lgA, lgZ, lgS, Act.put, lsA, lsZ, lsS]
          refine wpAnyG.take 9 (v := .agg #[.bool fQ, .slice cQ nQ kQ, .slice dQ mQ lQ]) (by decide) (by as_aux_lemma => kernel_rfl) (fun _ _ _ h => h) 13 _ (by rfl) (till_ind (by decide) (by decide)) (fun L w' h1 h2 => h2.1 h1) (by as_aux_lemma => kernel_rfl) (by as_aux_lemma => kernel_rfl) (by as_aux_lemma => kernel_rfl) (by rfl) ?y9 ⟨fun _ => HBX _ hc3, fun _ => trivial⟩ (by rfl) ?_
          case y9 =>
            rintro w' ⟨q0, q1, q2, q3, q4, q5, q6, q7, q8, q9, q10, q11, q12, q13⟩
            simp only [lgA, lgZ, lgS]
            go_simp
          simp only [lgA, lgZ, lgS, Act.put, lsA, lsZ, lsS]
          refine wpAnyG.take 10 (v := .int .i64 0) (by decide) (by as_aux_lemma => kernel_rfl) (fun _ _ _ h => h) 13 _ (by rfl) (till_ind (by decide) (by decide)) (fun L w' h1 h2 => h2.1 h1) (by as_aux_lemma => kernel_rfl) (by as_aux_lemma => kernel_rfl) (by as_aux_lemma => kernel_rfl) (by rfl) ?y10 ⟨fun _ => HBX _ hc3, fun _ => trivial⟩ (by rfl) ?_
          case y10 =>
            rintro w' ⟨q0, q1, q2, q3, q4, q5, q6, q7, q8, q9, q10, q11, q12, q13⟩
            simp only [lgA, lgZ, lgS]
            go_simp
          simp only [lgA, lgZ, lgS, Act.put, lsA, lsZ, lsS]
          refine wpAnyG.one 11 (by as_aux_lemma => kernel_rfl) (by decide) (by rfl) (fun K hK => ?_)
          simp only [lgA, lgZ, lgS]
          go_simp
          replace R3 := R3.gx (R := z3.heap.size) (.inr (Nat.le_refl _))
          have hx := bel_d0 z3 (.cells #[.bool false, .slice none 0 0, .slice none 0 0] 27)
          have VA4 := var3_new z3 (.bool false) (.slice none 0 0) (.slice none 0 0) 27
          have hc4 := bel_tr hc3 hx
          have hR0 : U.heap.size ≤ z3.heap.size := hc3.size
          have R4 := R3.below hx
          refine hK _ _ ⟨fun _ => HBX _ hc4, fun _ => trivial⟩ ?_
          clear hK K hx
          generalize z3.alloc (.cells #[.bool false, .slice none 0 0, .slice none 0 0] 27) = z4 at *
          refine wpAnyG.one 12 (by as_aux_lemma => kernel_rfl) (by decide) (by rfl) (fun K hK => ?_)
          obtain ⟨x0, x1, x2, x3, x4, x5⟩ := id VA4
          simp only [lgA, lgZ, lgS]
          go_simp
          obtain ⟨VN, O⟩ := VA4.set (.bool fQ) (.slice cQ nQ kQ) (.slice dQ mQ lQ)
          refine hK _ _ ⟨fun _ => HBX _ (hc4.trans (O.below hR0)), fun _ => trivial⟩ ?_
          clear hK K
          refine wpAnyG.one 13 (by as_aux_lemma => kernel_rfl) (by decide) (by rfl) (fun K hK => ?_)
          simp only [lgA, lgZ, lgS]
          go_simp
          refine hK _ _ ⟨fun h => absurd h (by decide), fun _ => trivial⟩ ?_
          clear hK K
          refine wpAnyG.done (by as_aux_lemma => kernel_rfl) (NoPanic.normal ?_)
          exact ⟨rfl, _, _, _, _, _, _, _, _, _, _, _, z3.heap.size, fQ, cQ, nQ, kQ, dQ, mQ, lQ, rfl, VN, (R4.off O).1, hR0, hc4.trans (O.below hR0)⟩
        · simp only [lgA, lgZ, lgS]
          go_simp
          have hx := bel_d0 z2 (.cells #[.bool false, .slice none 0 0, .slice none 0 0] 27)
          have VA3 := var3_new z2 (.bool false) (.slice none 0 0) (.slice none 0 0) 27
          have hc3 := bel_tr hc2 hx
          have hR0 : U.heap.size ≤ z2.heap.size := hc2.size
          have hRz3 : z2.heap.size < (z2.alloc (.cells #[.bool false, .slice none 0 0, .slice none 0 0] 27)).heap.size := by simp
          have S3 := S2.below hx
          refine hK _ _ ⟨fun _ => HBX _ hc3, fun _ => trivial⟩ ?_
          clear hK K hx
          generalize z2.alloc (.cells #[.bool false, .slice none 0 0, .slice none 0 0] 27) = z3 at *
          refine wpAnyG.one 7 (by as_aux_lemma => kernel_rfl) (by decide) (by rfl) (fun K hK => ?_)
          simp only [lgA, lgZ, lgS]
          go_simp
          refine (quoD z3 S3.tr (Gr.tr.below hc3) (by omega) (by omega) (by omega) HR0.out).mono ?_
          rintro e z4 ⟨fQ, cQ, nQ, kQ, dQ, mQ, lQ, rfl, R4, hk⟩
          have hc4 := bel_tr hc3 hk
          replace R4 := R4.fit HSZ.out.1
          replace R4 := (R4.gx (R := z2.heap.size) (.inl hRz3)).mono (B' := U.heap.size) hc3.size
          have VA4 := VA3.below hk
          have hRz4 := Nat.lt_of_lt_of_le hRz3 hk.size
          dsimp only
          refine hK _ _ ⟨fun _ => HBX _ hc4, fun _ => trivial⟩ ?_
          clear hK K hk S3
          refine wpAnyG.take 8 (v := .tuple #[.agg #[.bool fQ, .slice cQ nQ kQ, .slice dQ mQ lQ], .int .i64 0]) (by decide) (by as_aux_lemma => kernel_rfl) (fun _ _ _ h => h) 13 _ (by rfl) (till_ind (by decide) (by decide)) (fun L w' h1 h2 => h2.1 h1) (by as_aux_lemma => kernel_rfl) (by as_aux_lemma => kernel_rfl) (by as_aux_lemma => kernel_rfl) (by rfl) ?y8 ⟨fun _ => HBX _ hc4, fun _ => trivial⟩ (by rfl) ?_
          case y8 =>
            rintro w' ⟨q0, q1, q2, q3, q4, q5, q6, q7, q8, q9, q10, q11, q12, q13⟩
            simp only [lgA, lgZ, lgS]
            go_simp
          simp only [lgA, lgZ, lgS, Act.put, lsA, lsZ, lsS]
          refine wpAnyG.take 9 (v := .agg #[.bool fQ, .slice cQ nQ kQ, .slice dQ mQ lQ]) (by decide) (by as_aux_lemma => kernel_rfl) (fun _ _ _ h => h) 13 _ (by rfl) (till_ind (by decide) (by decide)) (fun L w' h1 h2 => h2.1 h1) (by as_aux_lemma => kernel_rfl) (by as_aux_lemma => kernel_rfl) (by as_aux_lemma => kernel_rfl) (by rfl) ?y9 ⟨fun _ => HBX _ hc4, fun _ => trivial⟩ (by rfl) ?_
          case y9 =>
            rintro w' ⟨q0, q1, q2, q3, q4, q5, q6, q7, q8, q9, q10, q11, q12, q13⟩
            simp only [lgA, lgZ, lgS]
            go_simp
          simp only [lgA, lgZ, lgS, Act.put, lsA, lsZ, lsS]
          refine wpAnyG.take 10 (v := .int .i64 0) (by decide) (by as_aux_lemma => kernel_rfl) (fun _ _ _ h => h) 13 _ (by rfl) (till_ind (by decide) (by decide)) (fun L w' h1 h2 => h2.1 h1) (by as_aux_lemma => kernel_rfl) (by as_aux_lemma => kernel_rfl) (by as_aux_lemma => kernel_rfl) (by rfl) ?y10 ⟨fun _ => HBX _ hc4, fun _ => trivial⟩ (by rfl) ?_
          case y10 =>
            rintro w' ⟨q0, q1, q2, q3, q4, q5, q6, q7, q8, q9, q10, q11, q12, q13⟩
            simp only [lgA, lgZ, lgS]
            go_simp
          simp only [lgA, lgZ, lgS, Act.put, lsA, lsZ, lsS]
          refine wpAnyG.one 12 (by as_aux_lemma => kernel_rfl) (by decide) (by rfl) (fun K hK => ?_)
          obtain ⟨x0, x1, x2, x3, x4, x5⟩ := id VA4
          simp only [lgA, lgZ, lgS]
          go_simp
          obtain ⟨VN, O⟩ := VA4.set (.bool fQ) (.slice cQ nQ kQ) (.slice dQ mQ lQ)
          refine hK _ _ ⟨fun _ => HBX _ (hc4.trans (O.below hR0)), fun _ => trivial⟩ ?_
          clear hK K
          refine wpAnyG.one 13 (by as_aux_lemma => kernel_rfl) (by decide) (by rfl) (fun K hK => ?_)
          simp only [lgA, lgZ, lgS]
          go_simp
          refine hK _ _ ⟨fun h => absurd h (by decide), fun _ => trivial⟩ ?_
          clear hK K
          refine wpAnyG.done (by as_aux_lemma => kernel_rfl) (NoPanic.normal ?_)
          exact ⟨rfl, _, _, _, _, _, _, _, _, _, _, _, z2.heap.size, fQ, cQ, nQ, kQ, dQ, mQ, lQ, rfl, VN, (R4.off O).1, hR0, hc4.trans (O.below hR0)⟩
      · simp only [lgA, lgZ, lgS]
        go_simp
        have hx := bel_d0 z1 (.cells #[.bool false, .slice none 0 0, .slice none 0 0] 27)
        have VA2 := var3_new z1 (.bool false) (.slice none 0 0) (.slice none 0 0) 27
        have hc2 := bel_tr hc1 hx
        have hR0 : U.heap.size ≤ z1.heap.size := hc1.size
        have hRz2 : z1.heap.size < (z1.alloc (.cells #[.bool false, .slice none 0 0, .slice none 0 0] 27)).heap.size := by simp
        have G2 := G1.below hx
        refine hK _ _ ⟨fun _ => HBX _ hc2, fun _ => trivial⟩ ?_
        clear hK K hx
        generalize z1.alloc (.cells #[.bool false, .slice none 0 0, .slice none 0 0] 27) = z2 at *
        refine wpAnyG.one 5 (by as_aux_lemma => kernel_rfl) (by decide) (by rfl) (fun K hK => ?_)
        simp only [lgA, lgZ, lgS]
        go_simp
        refine (subD z2 (hm.below (bel_tr hbU hc2)) G2.tr (by omega) hKm (by omega)).mono ?_
        rintro e z3 ⟨f2, c2, n2, k2, d2, m2, l2, rfl, S3, hk⟩
        have hc3 := bel_tr hc2 hk
        have VA3 := VA2.below hk
        have hRz3 := Nat.lt_of_lt_of_le hRz2 hk.size
        dsimp only
        refine hK _ _ ⟨fun _ => HBX _ hc3, fun _ => trivial⟩ ?_
        clear hK K hk G2
        refine wpAnyG.one 7 (by as_aux_lemma => kernel_rfl) (by decide) (by rfl) (fun K hK => ?_)
        simp only [lgA, lgZ, lgS]
        go_simp
        refine (quoD z3 S3.tr (Gr.tr.below hc3) (by omega) (by omega) (by omega) HR0.out).mono ?_
        rintro e z4 ⟨fQ, cQ, nQ, kQ, dQ, mQ, lQ, rfl, R4, hk⟩
        have hc4 := bel_tr hc3 hk
        replace R4 := R4.fit HSZ.out.1
        replace R4 := (R4.gx (R := z1.heap.size) (.inl hRz3)).mono (B' := U.heap.size) hc3.size
        have VA4 := VA3.below hk
        have hRz4 := Nat.lt_of_lt_of_le hRz3 hk.size
        dsimp only
        refine hK _ _ ⟨fun _ => HBX _ hc4, fun _ => trivial⟩ ?_
        clear hK K hk S3
        refine wpAnyG.take 8 (v := .tuple #[.agg #[.bool fQ, .slice cQ nQ kQ, .slice dQ mQ lQ], .int .i64 0]) (by decide) (by as_aux_lemma => kernel_rfl) (fun _ _ _ h => h) 13 _ (by rfl) (till_ind (by decide) (by decide)) (fun L w' h1 h2 => h2.1 h1) (by as_aux_lemma => kernel_rfl) (by as_aux_lemma => kernel_rfl) (by as_aux_lemma => kernel_rfl) (by rfl) ?y8 ⟨fun _ => HBX _ hc4, fun _ => trivial⟩ (by rfl) ?_
        case y8 =>
          rintro w' ⟨q0, q1, q2, q3, q4, q5, q6, q7, q8, q9, q10, q11, q12, q13⟩
          simp only [lgA, lgZ, lgS]
          go_simp
        simp only [lgA, lgZ, lgS, Act.put, lsA, lsZ, lsS]
        refine wpAnyG.take 9 (v := .agg #[.bool fQ, .slice cQ nQ kQ, .slice dQ mQ lQ]) (by decide) (by as_aux_lemma => kernel_rfl) (fun _ _ _ h => h) 13 _ (by rfl) (till_ind (by decide) (by decide)) (fun L w' h1 h2 => h2.1 h1) (by as_aux_lemma => kernel_rfl) (by as_aux_lemma => kernel_rfl) (by as_aux_lemma => kernel_rfl) (by rfl) ?y9 ⟨fun _ => HBX _ hc4, fun _ => trivial⟩ (by rfl) ?_
        case y9 =>
          rintro w' ⟨q0, q1, q2, q3, q4, q5, q6, q7, q8, q9, q10, q11, q12, q13⟩
          simp only [lgA, lgZ, lgS]
          go_simp
        simp only [lgA, lgZ, lgS, Act.put, lsA, lsZ, lsS]
        refine wpAnyG.take 10 (v := .int .i64 0) (by decide) (by as_aux_lemma => kernel_rfl) (fun _ _ _ h => h) 13 _ (by rfl) (till_ind (by decide) (by decide)) (fun L w' h1 h2 => h2.1 h1) (by as_aux_lemma => kernel_rfl) (by as_aux_lemma => kernel_rfl) (by as_aux_lemma => kernel_rfl) (by rfl) ?y10 ⟨fun _ => HBX _ hc4, fun _ => trivial⟩ (by rfl) ?_
        case y10 =>
          rintro w' ⟨q0, q1, q2, q3, q4, q5, q6, q7, q8, q9, q10, q11, q12, q13⟩
          simp only [lgA, lgZ, lgS]
          go_simp
        simp only [lgA, lgZ, lgS, Act.put, lsA, lsZ, lsS]
        refine wpAnyG.one 12 (by as_aux_lemma => kernel_rfl) (by decide) (by rfl) (fun K hK => ?_)
        obtain ⟨x0, x1, x2, x3, x4, x5⟩ := id VA4
        simp only [lgA, lgZ, lgS]
        go_simp
        obtain ⟨VN, O⟩ := VA4.set (.bool fQ) (.slice cQ nQ kQ) (.slice dQ mQ lQ)
        refine hK _ _ ⟨fun _ => HBX _ (hc4.trans (O.below hR0)), fun _ => trivial⟩ ?_
        clear hK K
        refine wpAnyG.one 13 (by as_aux_lemma => kernel_rfl) (by decide) (by rfl) (fun K hK => ?_)
        simp only [lgA, lgZ, lgS]
        go_simp
        refine hK _ _ ⟨fun h => absurd h (by decide), fun _ => trivial⟩ ?_
        clear hK K
        refine wpAnyG.done (by as_aux_lemma => kernel_rfl) (NoPanic.normal ?_)
        exact ⟨rfl, _, _, _, _, _, _, _, _, _, _, _, z1.heap.size, fQ, cQ, nQ, kQ, dQ, mQ, lQ, rfl, VN, (R4.off O).1, hR0, hc4.trans (O.below hR0)⟩
    · simp only [lgA, lgZ, lgS]
      go_simp
      have hx := bel_d0 z0 (.cells #[.bool false, .slice none 0 0, .slice none 0 0] 27)
      have VA1 := var3_new z0 (.bool false) (.slice none 0 0) (.slice none 0 0) 27
      have hc1 := bel_tr hc0 hx
      have hR0 : U.heap.size ≤ z0.heap.size := hc0.size
      have hRz1 : z0.heap.size < (z0.alloc (.cells #[.bool false, .slice none 0 0, .slice none 0 0] 27)).heap.size := by simp
      refine hK _ _ ⟨fun _ => HBX _ hc1, fun _ => trivial⟩ ?_
      clear hK K hx
      generalize z0.alloc (.cells #[.bool false, .slice none 0 0, .slice none 0 0] 27) = z1 at *
      refine wpAnyG.one 4 (by as_aux_lemma => kernel_rfl) (by decide) (by rfl) (fun K hK => ?_)
      simp only [lgA, lgZ, lgS]
      go_simp
      refine (valD2 P (Kx := C.K) z1 (hP.below (bel_tr hbU hc1)) (hC.x.below (bel_tr hbU hc1)) hC.zx (by omega) (by omega)).mono ?_
      rintro e z2 ⟨f1, c1, n1, k1, d1, m1, l1, rfl, G2, hk⟩
      replace G2 := G2.val HVX.out
      have hc2 := bel_tr hc1 hk
      have VA2 := VA1.below hk
      have hRz2 := Nat.lt_of_lt_of_le hRz1 hk.size
      dsimp only
      refine hK _ _ ⟨fun _ => HBX _ hc2, fun _ => trivial⟩ ?_
      clear hK K hk
      refine wpAnyG.one 5 (by as_aux_lemma => kernel_rfl) (by decide) (by rfl) (fun K hK => ?_)
      simp only [lgA, lgZ, lgS]
      go_simp
      refine (subD z2 (hm.below (bel_tr hbU hc2)) G2.tr (by omega) hKm (by omega)).mono ?_
      rintro e z3 ⟨f2, c2, n2, k2, d2, m2, l2, rfl, S3, hk⟩
      have hc3 := bel_tr hc2 hk
      have VA3 := VA2.below hk
      have hRz3 := Nat.lt_of_lt_of_le hRz2 hk.size
      dsimp only
      refine hK _ _ ⟨fun _ => HBX _ hc3, fun _ => trivial⟩ ?_
      clear hK K hk G2
      refine wpAnyG.one 7 (by as_aux_lemma => kernel_rfl) (by decide) (by rfl) (fun K hK => ?_)
      simp only [lgA, lgZ, lgS]
      go_simp
      refine (quoD z3 S3.tr (Gr.tr.below hc3) (by omega) (by omega) (by omega) HR0.out).mono ?_
      rintro e z4 ⟨fQ, cQ, nQ, kQ, dQ, mQ, lQ, rfl, R4, hk⟩
      have hc4 := bel_tr hc3 hk
      replace R4 := R4.fit HSZ.out.1
      replace R4 := (R4.gx (R := z0.heap.size) (.inl hRz3)).mono (B' := U.heap.size) hc3.size
      have VA4 := VA3.below hk
      have hRz4 := Nat.lt_of_lt_of_le hRz3 hk.size
      dsimp only
      refine hK _ _ ⟨fun _ => HBX _ hc4, fun _ => trivial⟩ ?_
      clear hK K hk S3
      refine wpAnyG.take 8 (v := .tuple #[.agg #[.bool fQ, .slice cQ nQ kQ, .slice dQ mQ lQ], .int .i64 0]) (by decide) (by as_aux_lemma => kernel_rfl) (fun _ _ _ h => h) 13 _ (by rfl) (till_ind (by decide) (by decide)) (fun L w' h1 h2 => h2.1 h1) (by as_aux_lemma => kernel_rfl) (by as_aux_lemma => kernel_rfl) (by as_aux_lemma => kernel_rfl) (by rfl) ?y8 ⟨fun _ => HBX _ hc4, fun _ => trivial⟩ (by rfl) ?_
      case y8 =>
        rintro w' ⟨q0, q1, q2, q3, q4, q5, q6, q7, q8, q9, q10, q11, q12, q13⟩
        simp only [lgA, lgZ, lgS]
        go_simp
      simp only [lgA, lgZ, lgS, Act.put, lsA, lsZ, lsS]
      refine wpAnyG.take 9 (v := .agg #[.bool fQ, .slice cQ nQ kQ, .slice dQ mQ lQ]) (by decide) (by as_aux_lemma => kernel_rfl) (fun _ _ _ h => h) 13 _ (by rfl) (till_ind (by decide) (by decide)) (fun L w' h1 h2 => h2.1 h1) (by as_aux_lemma => kernel_rfl) (by as_aux_lemma => kernel_rfl) (by as_aux_lemma => kernel_rfl) (by rfl) ?y9 ⟨fun _ => HBX _ hc4, fun _ => trivial⟩ (by rfl) ?_
      case y9 =>
        rintro w' ⟨q0, q1, q2, q3, q4, q5, q6, q7, q8, q9, q10, q11, q12, q13⟩
        simp only [lgA, lgZ, lgS]
        go_simp
      simp only [lgA, lgZ, lgS, Act.put, lsA, lsZ, lsS]
      refine wpAnyG.take 10 (v := .int .i64 0) (by decide) (by as_aux_lemma => kernel_rfl) (fun _ _ _ h => h) 13 _ (by rfl) (till_ind (by decide) (by decide)) (fun L w' h1 h2 => h2.1 h1) (by as_aux_lemma => kernel_rfl) (by as_aux_lemma => kernel_rfl) (by as_aux_lemma => kernel_rfl) (by rfl) ?y10 ⟨fun _ => HBX _ hc4, fun _ => trivial⟩ (by rfl) ?_
      case y10 =>
        rintro w' ⟨q0, q1, q2, q3, q4, q5, q6, q7, q8, q9, q10, q11, q12, q13⟩
        simp only [lgA, lgZ, lgS]
        go_simp
      simp only [lgA, lgZ, lgS, Act.put, lsA, lsZ, lsS]
      refine wpAnyG.one 12 (by as_aux_lemma => kernel_rfl) (by decide) (by rfl) (fun K hK => ?_)
      obtain ⟨x0, x1, x2, x3, x4, x5⟩ := id VA4
      simp only [lgA, lgZ, lgS]
      go_simp
      obtain ⟨VN, O⟩ := VA4.set (.bool fQ) (.slice cQ nQ kQ) (.slice dQ mQ lQ)
      refine hK _ _ ⟨fun _ => HBX _ (hc4.trans (O.below hR0)), fun _ => trivial⟩ ?_
      clear hK K
      refine wpAnyG.one 13 (by as_aux_lemma => kernel_rfl) (by decide) (by rfl) (fun K hK => ?_)
      simp only [lgA, lgZ, lgS]
      go_simp
      refine hK _ _ ⟨fun h => absurd h (by decide), fun _ => trivial⟩ ?_
      clear hK K
      refine wpAnyG.done (by as_aux_lemma => kernel_rfl) (NoPanic.normal ?_)
      exact ⟨rfl, _, _, _, _, _, _, _, _, _, _, _, z0.heap.size, fQ, cQ, nQ, kQ, dQ, mQ, lQ, rfl, VN, (R4.off O).1, hR0, hc4.trans (O.below hR0)⟩
  rintro a' w2 ⟨u1, u2, u3, u4, u5, u6, u7, u8, u9, u10, u11, RW, fQ, cQ, nQ, kQ, dQ, mQ, lQ, rfl, VT, GQ, hRA, hx⟩
  simp only [Act.put, List.setIfInBounds_toArray, List.set_cons_zero, List.set_cons_succ]
  replace Pb := Pb.below hx
  replace Cb := Cb.below hx
  replace Mb := Mb.below hx
  replace hbU := bel_tr hbU hx
  have hs4 := hx.size
  clear HBX hx Rb Gr
  obtain ⟨v0, v1, v2, v3, v4, v5⟩ := id VT
  go_wp2_with fail
  clear v0 v1 v2 v3 v4 v5
  refine (signD w2 GQ.tr (by omega) (by omega)).mono ?_
  rintro e w3 ⟨rfl, h1⟩
  obtain ⟨sg, hsg⟩ : ∃ s, s = ((m - vlu P C.X) / rte P C.Z).num.sign := ⟨_, rfl⟩
  rw [← hsg]
  replace Pb := Pb.below h1
  replace Cb := Cb.below h1
  replace Mb := Mb.below h1
  replace VT := VT.below h1
  replace GQ := GQ.below h1
  replace hbU := bel_tr hbU h1
  have hs5 := h1.size
  clear h1
  by_cases hneg : ((m - vlu P C.X) / rte P C.Z) < 0
  · obtain rfl : sg = -1 := hsg.trans (sgn_neg hneg).symm
    have HN : Hid (((m - vlu P C.X) / rte P C.Z) < 0) := hneg
    clear hsg hneg GQ
    obtain ⟨v0, v1, v2, v3, v4, v5⟩ := id VT
    go_wp2_with fail
    clear v0 v1 v2 v3 v4 v5
    obtain ⟨VN, O⟩ := VT.set (.bool false) (.slice none 0 0) (.slice none 0 0)
    have hbN := hbU.trans (O.below (by omega))
    have PbN : BoxC _ w.heap.size (#[.bool P.mx, .string P.nm, .bool P.p, .slice P.a P.na P.ca, .slice P.d P.nd P.cd, .slice P.va P.vn P.vc, .slice P.ra P.rn P.rc]).toList := fun i u hu => (World.cell?_of_block (O.block w.heap.size (by omega))).trans (Pb i u hu)
    have CbN : BoxC _ (w.heap.size + 1) (#[.int .i64 C.vd, .bool C.p, .slice C.a C.na C.ca, .slice C.d C.nd C.cd, .slice C.xa C.xn C.xc, .slice C.ya C.yn C.yc, .slice C.za C.zn C.zc]).toList := fun i u hu => (World.cell?_of_block (O.block (w.heap.size + 1) (by omega))).trans (Cb i u hu)
    have MbN : BoxC _ (w.heap.size + 2) (#[.bool p, .slice a na ca, .slice d nd cd]).toList := fun i u hu => (World.cell?_of_block (O.block (w.heap.size + 2) (by omega))).trans (Mb i u hu)
    clear VT O hbU Pb Cb Mb
    generalize ((w3.setCell ⟨RW, 0, none⟩ (.bool false)).setCell ⟨RW, 1, none⟩ (.slice none 0 0)).setCell ⟨RW, 2, none⟩ (.slice none 0 0) = w4 at *
    have VT := VN
    have Pb := PbN
    have Cb := CbN
    have Mb := MbN
    clear VN PbN CbN MbN
    have hbS := hbN
    have HTR : Hid (TR w4 false none 0 0 none 0 0 (0 : Rat) (1)) := tr_o14 _
    have HS1 : Hid (SzR ((0 : Rat) + ((1 : Int) : Rat)) (P.K + C.K + Km + 3)) := by show SzR ((0 : Rat) + ((1 : Int) : Rat)) _; rw [q1, Rat.zero_add]; exact (szw 1 (by decide)).le (by omega)
    have HL1 : Hid (Hlds P C.xn (fun j => C.X j + ((0 : Rat) + ((1 : Int) : Rat)) * C.Z j)) := HL.out _ (by rw [q1, Rat.zero_add]; decide)
    have HB1 : Hid (btr P (vlu P (fun j => C.X j + ((0 : Rat) + ((1 : Int) : Rat)) * C.Z j)) m) := by
      show btr P _ m
      rw [q1]
      exact HBT.out _ (by have := HN.out; grind)
    have hsum := HSUM.out
    have htz : tot C.ZZ C.xn ≤ C.K := by omega
    have HAL : ∀ (w' : World) (f2 : Bool) (e1 : Option Addr) (n3 k3 : Nat) (e2 : Option Addr) (n4 k4 : Nat), Below w.heap.size w w' → TR w' f2 e1 n3 k3 e2 n4 k4 ((0 : Rat) + ((1 : Int) : Rat)) (P.K + C.K + Km + 3) → Calls Tryz.prog 71 #[.slice C.xa C.xn C.xc, .agg #[.bool f2, .slice e1 n3 k3, .slice e2 n4 k4], .slice C.za C.zn C.zc] w' fun e w'' => ∃ b cap, e = .returned (.slice b C.xn cap) ∧ LQ w'' b C.xn (fun j => C.X j + ((0 : Rat) + ((1 : Int) : Rat)) * C.Z j) (fun _ => tot C.ZX C.xn + (P.K + C.K + Km + 3) + tot C.ZZ C.xn + 1) ∧ Below w'.heap.size w' w'' := fun w' f2 e1 n3 k3 e2 n4 k4 hb htr => by
      have hzl : LQ w' C.za C.xn C.Z C.ZZ := by rw [← HZN.out]; exact hC.z.below hb
      rw [HZN.out]
      exact alongT (Kx := tot C.ZX C.xn) (Kz := tot C.ZZ C.xn) (Kt := (P.K + C.K + Km + 3)) w' (hC.x.below hb) (fun i hi => ⟨(hC.zx i hi).1, by have := tot_le (Z := C.ZX) hi; omega⟩) hzl (fun i hi => ⟨(hCz i hi).1, by have := tot_le (Z := C.ZZ) hi; omega⟩) htr (by omega) (by omega) hxv
    obtain ⟨D1, a1, a2, a3⟩ := far_wd (X := C.X) (Z := C.Z) (K := C.K) (fun i hi => (hC.zx i hi).2) (fun i hi => (hCz i hi).2) HSUM.out HS1.out
    have HD : Hid (0 < D1 ∧ D1 < pw (C.K + (P.K + C.K + Km + 3) + 1) ∧ ∀ i, i < C.xn → Wd (C.K + (P.K + C.K + Km + 3) + 1) D1 (C.X i + ((0 : Rat) + ((1 : Int) : Rat)) * C.Z i)) := ⟨a1, a2, a3⟩
    clear a1 a2 a3 HSZ HR0 HVX HL HBT HSUM htz
    have HBX : ∀ w', Below w4.heap.size w4 w' → (w'.cell? ⟨w.heap.size + 1, 4, none⟩ = some (.slice C.xa C.xn C.xc) ∧ w'.cell? ⟨w.heap.size + 1, 6, none⟩ = some (.slice C.za C.zn C.zc) ∧ w'.cell? ⟨RW, 0, none⟩ = some (.bool false) ∧ w'.cell? ⟨RW, 1, none⟩ = some (.slice none 0 0) ∧ w'.cell? ⟨RW, 2, none⟩ = some (.slice none 0 0)) := fun w' h => ⟨(Cb.below h) 4 _ rfl, (Cb.below h) 6 _ rfl, (VT.below h).c0, (VT.below h).c1, (VT.below h).c2⟩
    refine wp_region_noPanic (wp_region_guard (fun _ w' => w'.cell? ⟨w.heap.size + 1, 4, none⟩ = some (.slice C.xa C.xn C.xc) ∧ w'.cell? ⟨w.heap.size + 1, 6, none⟩ = some (.slice C.za C.zn C.zc) ∧ w'.cell? ⟨RW, 0, none⟩ = some (.bool false) ∧ w'.cell? ⟨RW, 1, none⟩ = some (.slice none 0 0) ∧ w'.cell? ⟨RW, 2, none⟩ = some (.slice none 0 0)) (by as_aux_lemma => kernel_rfl) ?_)
    have hc0 : Below w4.heap.size w4 w4.drew := bel_d1 _
    generalize w4.drew = z0 at *
    refine wpAnyG.take 0 (v := .pointer (some ⟨w.heap.size + 1, 4, none⟩)) (by decide) (by as_aux_lemma => kernel_rfl) (fun _ _ _ h => h) 8 _ (by rfl) (fun _ _ => Iff.rfl) (fun _ _ _ h => h) (by as_aux_lemma => kernel_rfl) (by as_aux_lemma => kernel_rfl) (by as_aux_lemma => kernel_rfl) (by rfl) ?y0 (HBX _ hc0) (by rfl) ?_
    case y0 =>
      rintro w' ⟨q0, q1, q2, q3, q4⟩
      simp only [lgA, lgZ]
      go_simp
    simp only [lgA, lgZ, Act.put, lsA, lsZ, lsS]
    refine wpAnyG.take 1 (v := .slice C.xa C.xn C.xc) (by decide) (by as_aux_lemma => kernel_rfl) (fun _ _ _ h => h) 8 _ (by rfl) (fun _ _ => Iff.rfl) (fun _ _ _ h => h) (by as_aux_lemma => kernel_rfl) (by as_aux_lemma => kernel_rfl) (by as_aux_lemma => kernel_rfl) (by rfl) ?y1 (HBX _ hc0) (by rfl) ?_
    case y1 =>
      rintro w' ⟨q0, q1, q2, q3, q4⟩
      simp only [lgA, lgZ, lgS]
      go_simp
    simp only [lgA, lgZ, lgS, Act.put, lsA, lsZ, lsS]
    refine wpAnyG.take 2 (v := .agg #[.bool false, .slice none 0 0, .slice none 0 0]) (by decide) (by as_aux_lemma => kernel_rfl) (fun _ _ _ h => h) 8 _ (by rfl) (fun _ _ => Iff.rfl) (fun _ _ _ h => h) (by as_aux_lemma => kernel_rfl) (by as_aux_lemma => kernel_rfl) (by as_aux_lemma => kernel_rfl) (by rfl) ?y2 (HBX _ hc0) (by rfl) ?_
    case y2 =>
      rintro w' ⟨q0, q1, q2, q3, q4⟩
      simp only [lgA, lgZ, lgS]
      go_simp
    simp only [lgA, lgZ, lgS, Act.put, lsA, lsZ, lsS]
    refine wpAnyG.take 5 (v := .pointer (some ⟨w.heap.size + 1, 6, none⟩)) (by decide) (by as_aux_lemma => kernel_rfl) (fun _ _ _ h => h) 8 _ (by rfl) (fun _ _ => Iff.rfl) (fun _ _ _ h => h) (by as_aux_lemma => kernel_rfl) (by as_aux_lemma => kernel_rfl) (by as_aux_lemma => kernel_rfl) (by rfl) ?y5 (HBX _ hc0) (by rfl) ?_
    case y5 =>
      rintro w' ⟨q0, q1, q2, q3, q4⟩
      simp only [lgA, lgZ, lgS]
      go_simp
    simp only [lgA, lgZ, lgS, Act.put, lsA, lsZ, lsS]
    refine wpAnyG.take 6 (v := .slice C.za C.zn C.zc) (by decide) (by as_aux_lemma => kernel_rfl) (fun _ _ _ h => h) 8 _ (by rfl) (fun _ _ => Iff.rfl) (fun _ _ _ h => h) (by as_aux_lemma => kernel_rfl) (by as_aux_lemma => kernel_rfl) (by as_aux_lemma => kernel_rfl) (by rfl) ?y6 (HBX _ hc0) (by rfl) ?_
    case y6 =>
      rintro w' ⟨q0, q1, q2, q3, q4⟩
      simp only [lgA, lgZ, lgS]
      go_simp
    simp only [lgA, lgZ, lgS, Act.put, lsA, lsZ, lsS]
    refine wpAnyG.one 3 (by as_aux_lemma => kernel_rfl) (by decide) (by rfl) (fun K hK => ?_)
    simp only [lgA, lgZ, lgS]
    go_simp
    refine (ofD 1 z0 (by decide) (by decide)).mono ?_
    rintro e z1 ⟨f1, d1, n1, k1, d2, n2, k2, rfl, G1, hk1⟩
    have hc1 : Below w4.heap.size w4 z1 := bel_tr hc0 hk1
    dsimp only
    refine hK _ _ (HBX _ hc1) ?_
    clear hK K
    refine wpAnyG.one 4 (by as_aux_lemma => kernel_rfl) (by decide) (by rfl) (fun K hK => ?_)
    simp only [lgA, lgZ, lgS]
    go_simp
    refine (addD z1 (HTR.out.below hc1) G1.tr (by omega) (by omega) (by omega)).mono ?_
    rintro e z2 ⟨f2, e1, n3, k3, e2, n4, k4, rfl, G2, hk2⟩
    have hc2 : Below w4.heap.size w4 z2 := bel_tr hc1 hk2
    replace G2 := G2.fit HS1.out
    dsimp only
    refine hK _ _ (HBX _ hc2) ?_
    clear hK K
    refine wpAnyG.one 7 (by as_aux_lemma => kernel_rfl) (by decide) (by rfl) (fun K hK => ?_)
    simp only [lgA, lgZ, lgS]
    go_simp
    refine (HAL z2 f2 e1 n3 k3 e2 n4 k4 (bel_tr hbS hc2) G2.tr).mono ?_
    rintro e z3 ⟨yb, yc, rfl, LY, hk3⟩
    have hc3 : Below w4.heap.size w4 z3 := bel_tr hc2 hk3
    dsimp only
    refine hK _ _ (HBX _ hc3) ?_
    clear hK K
    refine wpAnyG.one 8 (by as_aux_lemma => kernel_rfl) (by decide) (by rfl) (fun K hK => ?_)
    simp only [lgA, lgZ, lgS]
    go_simp
    refine hK _ _ (HBX _ hc3) ?_
    clear hK K
    refine wpAnyG.done (by as_aux_lemma => kernel_rfl) (NoPanic.normal ?_)
    have hb4 := bel_tr hbS hc3
    replace Pb := Pb.below hc3
    replace Mb := Mb.below hc3
    clear HBX hc0 hc1 hc2 hc3 hk1 hk2 hk3 G1 G2 VT Cb HAL hbS HTR
    have p0 := Pb 0 _ rfl; have p1 := Pb 1 _ rfl; have p2 := Pb 2 _ rfl; have p3 := Pb 3 _ rfl; have p4 := Pb 4 _ rfl; have p5 := Pb 5 _ rfl; have p6 := Pb 6 _ rfl
    go_wp2_with fail
    clear p0 p1 p2 p3 p4 p5 p6
    refine (holdD4 P (U := (C.K + (P.K + C.K + Km + 3) + 1)) z3 (hP.below hb4) LY (fun j hj => ⟨by show 1 ≤ tot C.ZX C.xn + (P.K + C.K + Km + 3) + tot C.ZZ C.xn + 1; omega, by show tot C.ZX C.xn + (P.K + C.K + Km + 3) + tot C.ZZ C.xn + 1 ≤ _; omega⟩) ⟨by omega, by omega⟩ HD.out.1 HD.out.2.1 HD.out.2.2 (by omega) (by omega)).mono ?_
    rintro e w5 ⟨b1, rfl, hbb, h8⟩
    obtain rfl : b1 = true := hbb.2 HL1.out
    have hb5 := bel_tr hb4 h8
    replace Pb := Pb.below h8
    replace Mb := Mb.below h8
    have LY5 := LY.below h8
    clear h8 hbb hb4 LY
    go_wp2_with fail
    have HBX : ∀ w', Below w5.heap.size w5 w' → (w'.cell? ⟨w.heap.size, 0, none⟩ = some (.bool P.mx) ∧ w'.cell? ⟨w.heap.size, 1, none⟩ = some (.string P.nm) ∧ w'.cell? ⟨w.heap.size, 2, none⟩ = some (.bool P.p) ∧ w'.cell? ⟨w.heap.size, 3, none⟩ = some (.slice P.a P.na P.ca) ∧ w'.cell? ⟨w.heap.size, 4, none⟩ = some (.slice P.d P.nd P.cd) ∧ w'.cell? ⟨w.heap.size, 5, none⟩ = some (.slice P.va P.vn P.vc) ∧ w'.cell? ⟨w.heap.size, 6, none⟩ = some (.slice P.ra P.rn P.rc) ∧ w'.cell? ⟨w.heap.size + 2, 0, none⟩ = some (.bool p) ∧ w'.cell? ⟨w.heap.size + 2, 1, none⟩ = some (.slice a na ca) ∧ w'.cell? ⟨w.heap.size + 2, 2, none⟩ = some (.slice d nd cd)) := fun w' h => ⟨(Pb.below h) 0 _ rfl, (Pb.below h) 1 _ rfl, (Pb.below h) 2 _ rfl, (Pb.below h) 3 _ rfl, (Pb.below h) 4 _ rfl, (Pb.below h) 5 _ rfl, (Pb.below h) 6 _ rfl, (Mb.below h) 0 _ rfl, (Mb.below h) 1 _ rfl, (Mb.below h) 2 _ rfl⟩
    refine wp_region_noPanic (wp_region_guard (fun _ w' => w'.cell? ⟨w.heap.size, 0, none⟩ = some (.bool P.mx) ∧ w'.cell? ⟨w.heap.size, 1, none⟩ = some (.string P.nm) ∧ w'.cell? ⟨w.heap.size, 2, none⟩ = some (.bool P.p) ∧ w'.cell? ⟨w.heap.size, 3, none⟩ = some (.slice P.a P.na P.ca) ∧ w'.cell? ⟨w.heap.size, 4, none⟩ = some (.slice P.d P.nd P.cd) ∧ w'.cell? ⟨w.heap.size, 5, none⟩ = some (.slice P.va P.vn P.vc) ∧ w'.cell? ⟨w.heap.size, 6, none⟩ = some (.slice P.ra P.rn P.rc) ∧ w'.cell? ⟨w.heap.size + 2, 0, none⟩ = some (.bool p) ∧ w'.cell? ⟨w.heap.size + 2, 1, none⟩ = some (.slice a na ca) ∧ w'.cell? ⟨w.heap.size + 2, 2, none⟩ = some (.slice d nd cd)) (by as_aux_lemma => kernel_rfl) ?_)
    have hc0 : Below w5.heap.size w5 w5.drew := bel_d1 _
    generalize w5.drew = z0 at *
    refine wpAnyG.take 0 (v := .agg #[.bool P.mx, .string P.nm, .bool P.p, .slice P.a P.na P.ca, .slice P.d P.nd P.cd, .slice P.va P.vn P.vc, .slice P.ra P.rn P.rc]) (by decide) (by as_aux_lemma => kernel_rfl) (fun _ _ _ h => h) 6 _ (by rfl) (fun _ _ => Iff.rfl) (fun _ _ _ h => h) (by as_aux_lemma => kernel_rfl) (by as_aux_lemma => kernel_rfl) (by as_aux_lemma => kernel_rfl) (by rfl) ?y0 (HBX _ hc0) (by rfl) ?_
    case y0 =>
      rintro w' ⟨q0, q1, q2, q3, q4, q5, q6, q7, q8, q9⟩
      simp only [lgA, lgZ]
      go_simp
    simp only [lgA, lgZ, Act.put, lsA, lsZ, lsS]
    refine wpAnyG.take 1 (v := .agg #[.bool P.mx, .string P.nm, .bool P.p, .slice P.a P.na P.ca, .slice P.d P.nd P.cd, .slice P.va P.vn P.vc, .slice P.ra P.rn P.rc]) (by decide) (by as_aux_lemma => kernel_rfl) (fun _ _ _ h => h) 6 _ (by rfl) (fun _ _ => Iff.rfl) (fun _ _ _ h => h) (by as_aux_lemma => kernel_rfl) (by as_aux_lemma => kernel_rfl) (by as_aux_lemma => kernel_rfl) (by rfl) ?y1 (HBX _ hc0) (by rfl) ?_
    case y1 =>
      rintro w' ⟨q0, q1, q2, q3, q4, q5, q6, q7, q8, q9⟩
      simp only [lgA, lgZ, lgS]
      go_simp
    simp only [lgA, lgZ, lgS, Act.put, lsA, lsZ, lsS]
    refine wpAnyG.take 2 (v := .slice yb C.xn yc) (by decide) (by as_aux_lemma => kernel_rfl) (fun _ _ _ h => h) 6 _ (by rfl) (fun _ _ => Iff.rfl) (fun _ _ _ h => h) (by as_aux_lemma => kernel_rfl) (by as_aux_lemma => kernel_rfl) (by as_aux_lemma => kernel_rfl) (by rfl) ?y2 (HBX _ hc0) (by rfl) ?_
    case y2 =>
      rintro w' ⟨q0, q1, q2, q3, q4, q5, q6, q7, q8, q9⟩
      simp only [lgA, lgZ, lgS]
      go_simp
    simp only [lgA, lgZ, lgS, Act.put, lsA, lsZ, lsS]
    refine wpAnyG.take 4 (v := .agg #[.bool p, .slice a na ca, .slice d nd cd]) (by decide) (by as_aux_lemma => kernel_rfl) (fun _ _ _ h => h) 6 _ (by rfl) (fun _ _ => Iff.rfl) (fun _ _ _ h => h) (by as_aux_lemma => kernel_rfl) (by as_aux_lemma => kernel_rfl) (by as_aux_lemma => kernel_rfl) (by rfl) ?y4 (HBX _ hc0) (by rfl) ?_
    case y4 =>
      rintro w' ⟨q0, q1, q2, q3, q4, q5, q6, q7, q8, q9⟩
      simp only [lgA, lgZ, lgS]
      go_simp
    simp only [lgA, lgZ, lgS, Act.put, lsA, lsZ, lsS]
    refine wpAnyG.one 3 (by as_aux_lemma => kernel_rfl) (by decide) (by rfl) (fun K hK => ?_)
    simp only [lgA, lgZ, lgS]
    go_simp
    refine (valD4 P (U := (C.K + (P.K + C.K + Km + 3) + 1)) z0 (hP.below (bel_tr hb5 hc0)) (LY5.below hc0) (fun j hj => ⟨by show 1 ≤ tot C.ZX C.xn + (P.K + C.K + Km + 3) + tot C.ZZ C.xn + 1; omega, by show tot C.ZX C.xn + (P.K + C.K + Km + 3) + tot C.ZZ C.xn + 1 ≤ _; omega⟩) ⟨by omega, by omega⟩ HD.out.1 HD.out.2.1 HD.out.2.2 (by omega) (by omega) HXN.out).mono ?_
    rintro e z1 ⟨f3, d3, n5, k5, d4, n6, k6, rfl, G3, hk1⟩
    have hc1 : Below w5.heap.size w5 z1 := bel_tr hc0 hk1
    dsimp only
    refine hK _ _ (HBX _ hc1) ?_
    clear hK K
    refine wpAnyG.one 5 (by as_aux_lemma => kernel_rfl) (by decide) (by rfl) (fun K hK => ?_)
    simp only [lgA, lgZ, lgS]
    go_simp
    refine (betterT P true z1 G3.tr (hm.below (bel_tr hb5 hc1)) (by omega) (by omega) hKm ⟨fun _ => HB1.out, fun _ => rfl⟩).mono ?_
    rintro e z2 ⟨rfl, hk2⟩
    have hc2 : Below w5.heap.size w5 z2 := bel_tr hc1 hk2
    dsimp only
    refine hK _ _ (HBX _ hc2) ?_
    clear hK K
    refine wpAnyG.one 6 (by as_aux_lemma => kernel_rfl) (by decide) (by rfl) (fun K hK => ?_)
    simp only [lgA, lgZ, lgS]
    go_simp
    refine hK _ _ (HBX _ hc2) ?_
    clear hK K
    refine wpAnyG.done (by as_aux_lemma => kernel_rfl) (NoPanic.normal ?_)
    have hw := bel_tr hb5 hc2
    clear HBX hc0 hc1 hc2 hk1 hk2 G3 Pb Mb LY5 hb5
    go_wp2
    go_ret
    exact ⟨rfl, hw⟩
  · have hsN : ¬ sg < 0 := by
      intro e
      rcases (show ((m - vlu P C.X) / rte P C.Z) = 0 ∨ 0 < ((m - vlu P C.X) / rte P C.Z) by grind) with h | h
      · have := sgn_nil h; omega
      · have := sgn_pos h; omega
    have hsB : decide (sg < 0) = false := by simpa using hsN
    have HN : Hid (¬ ((m - vlu P C.X) / rte P C.Z) < 0) := hneg
    clear hsg hneg
    go_wp2_with fail
    clear hsN hsB
    have hbS := hbU
    have HTR : Hid (TR w3 fQ cQ nQ kQ dQ mQ lQ ((m - vlu P C.X) / rte P C.Z) (P.K + C.K + Km + 2)) := GQ.tr
    have HS1 : Hid (SzR (((m - vlu P C.X) / rte P C.Z) + ((1 : Int) : Rat)) (P.K + C.K + Km + 3)) := by show SzR (_ + ((1 : Int) : Rat)) _; rw [q1]; exact HSZ.out.2
    have HL1 : Hid (Hlds P C.xn (fun j => C.X j + (((m - vlu P C.X) / rte P C.Z) + ((1 : Int) : Rat)) * C.Z j)) := HL.out _ (by have := HN.out; rw [q1]; grind)
    have HB1 : Hid (btr P (vlu P (fun j => C.X j + (((m - vlu P C.X) / rte P C.Z) + ((1 : Int) : Rat)) * C.Z j)) m) := by
      show btr P _ m
      rw [q1]
      exact HBT.out _ (Rat.le_refl)
    have hsum := HSUM.out
    have htz : tot C.ZZ C.xn ≤ C.K := by omega
    have HAL : ∀ (w' : World) (f2 : Bool) (e1 : Option Addr) (n3 k3 : Nat) (e2 : Option Addr) (n4 k4 : Nat), Below w.heap.size w w' → TR w' f2 e1 n3 k3 e2 n4 k4 (((m - vlu P C.X) / rte P C.Z) + ((1 : Int) : Rat)) (P.K + C.K + Km + 3) → Calls Tryz.prog 71 #[.slice C.xa C.xn C.xc, .agg #[.bool f2, .slice e1 n3 k3, .slice e2 n4 k4], .slice C.za C.zn C.zc] w' fun e w'' => ∃ b cap, e = .returned (.slice b C.xn cap) ∧ LQ w'' b C.xn (fun j => C.X j + (((m - vlu P C.X) / rte P C.Z) + ((1 : Int) : Rat)) * C.Z j) (fun _ => tot C.ZX C.xn + (P.K + C.K + Km + 3) + tot C.ZZ C.xn + 1) ∧ Below w'.heap.size w' w'' := fun w' f2 e1 n3 k3 e2 n4 k4 hb htr => by
      have hzl : LQ w' C.za C.xn C.Z C.ZZ := by rw [← HZN.out]; exact hC.z.below hb
      rw [HZN.out]
      exact alongT (Kx := tot C.ZX C.xn) (Kz := tot C.ZZ C.xn) (Kt := (P.K + C.K + Km + 3)) w' (hC.x.below hb) (fun i hi => ⟨(hC.zx i hi).1, by have := tot_le (Z := C.ZX) hi; omega⟩) hzl (fun i hi => ⟨(hCz i hi).1, by have := tot_le (Z := C.ZZ) hi; omega⟩) htr (by omega) (by omega) hxv
    obtain ⟨D1, a1, a2, a3⟩ := far_wd (X := C.X) (Z := C.Z) (K := C.K) (fun i hi => (hC.zx i hi).2) (fun i hi => (hCz i hi).2) HSUM.out HS1.out
    have HD : Hid (0 < D1 ∧ D1 < pw (C.K + (P.K + C.K + Km + 3) + 1) ∧ ∀ i, i < C.xn → Wd (C.K + (P.K + C.K + Km + 3) + 1) D1 (C.X i + (((m - vlu P C.X) / rte P C.Z) + ((1 : Int) : Rat)) * C.Z i)) := ⟨a1, a2, a3⟩
    clear a1 a2 a3 HSZ HR0 HVX HL HBT HSUM htz
    have HBX : ∀ w', Below w3.heap.size w3 w' → (w'.cell? ⟨w.heap.size + 1, 4, none⟩ = some (.slice C.xa C.xn C.xc) ∧ w'.cell? ⟨w.heap.size + 1, 6, none⟩ = some (.slice C.za C.zn C.zc) ∧ w'.cell? ⟨RW, 0, none⟩ = some (.bool fQ) ∧ w'.cell? ⟨RW, 1, none⟩ = some (.slice cQ nQ kQ) ∧ w'.cell? ⟨RW, 2, none⟩ = some (.slice dQ mQ lQ)) := fun w' h => ⟨(Cb.below h) 4 _ rfl, (Cb.below h) 6 _ rfl, (VT.below h).c0, (VT.below h).c1, (VT.below h).c2⟩
    refine wp_region_noPanic (wp_region_guard (fun _ w' => w'.cell? ⟨w.heap.size + 1, 4, none⟩ = some (.slice C.xa C.xn C.xc) ∧ w'.cell? ⟨w.heap.size + 1, 6, none⟩ = some (.slice C.za C.zn C.zc) ∧ w'.cell? ⟨RW, 0, none⟩ = some (.bool fQ) ∧ w'.cell? ⟨RW, 1, none⟩ = some (.slice cQ nQ kQ) ∧ w'.cell? ⟨RW, 2, none⟩ = some (.slice dQ mQ lQ)) (by as_aux_lemma => kernel_rfl) ?_)
    have hc0 : Below w3.heap.size w3 w3.drew := bel_d1 _
    generalize w3.drew = z0 at *
    refine wpAnyG.take 0 (v := .pointer (some ⟨w.heap.size + 1, 4, none⟩)) (by decide) (by as_aux_lemma => kernel_rfl) (fun _ _ _ h => h) 8 _ (by rfl) (fun _ _ => Iff.rfl) (fun _ _ _ h => h) (by as_aux_lemma => kernel_rfl) (by as_aux_lemma => kernel_rfl) (by as_aux_lemma => kernel_rfl) (by rfl) ?y0 (HBX _ hc0) (by rfl) ?_
    case y0 =>
      rintro w' ⟨q0, q1, q2, q3, q4⟩
      simp only [lgA, lgZ]
      go_simp
    simp only [lgA, lgZ, Act.put, lsA, lsZ, lsS]
    refine wpAnyG.take 1 (v := .slice C.xa C.xn C.xc) (by decide) (by as_aux_lemma => kernel_rfl) (fun _ _ _ h => h) 8 _ (by rfl) (fun _ _ => Iff.rfl) (fun _ _ _ h => h) (by as_aux_lemma => kernel_rfl) (by as_aux_lemma => kernel_rfl) (by as_aux_lemma => kernel_rfl) (by rfl) ?y1 (HBX _ hc0) (by rfl) ?_
    case y1 =>
      rintro w' ⟨q0, q1, q2, q3, q4⟩
      simp only [lgA, lgZ, lgS]
      go_simp
    simp only [lgA, lgZ, lgS, Act.put, lsA, lsZ, lsS]
    refine wpAnyG.take 2 (v := .agg #[.bool fQ, .slice cQ nQ kQ, .slice dQ mQ lQ]) (by decide) (by as_aux_lemma => kernel_rfl) (fun _ _ _ h => h) 8 _ (by rfl) (fun _ _ => Iff.rfl) (fun _ _ _ h => h) (by as_aux_lemma => kernel_rfl) (by as_aux_lemma => kernel_rfl) (by as_aux_lemma => kernel_rfl) (by rfl) ?y2 (HBX _ hc0) (by rfl) ?_
    case y2 =>
      rintro w' ⟨q0, q1, q2, q3, q4⟩
      simp only [lgA, lgZ, lgS]
      go_simp
    simp only [lgA, lgZ, lgS, Act.put, lsA, lsZ, lsS]
    refine wpAnyG.take 5 (v := .pointer (some ⟨w.heap.size + 1, 6, none⟩)) (by decide) (by as_aux_lemma => kernel_rfl) (fun _ _ _ h => h) 8 _ (by rfl) (fun _ _ => Iff.rfl) (fun _ _ _ h => h) (by as_aux_lemma => kernel_rfl) (by as_aux_lemma => kernel_rfl) (by as_aux_lemma => kernel_rfl) (by rfl) ?y5 (HBX _ hc0) (by rfl) ?_
    case y5 =>
      rintro w' ⟨q0, q1, q2, q3, q4⟩
      simp only [lgA, lgZ, lgS]
      go_simp
    simp only [lgA, lgZ, lgS, Act.put, lsA, lsZ, lsS]
    refine wpAnyG.take 6 (v := .slice C.za C.zn C.zc) (by decide) (by as_aux_lemma => kernel_rfl) (fun _ _ _ h => h) 8 _ (by rfl) (fun _ _ => Iff.rfl) (fun _ _ _ h => h) (by as_aux_lemma => kernel_rfl) (by as_aux_lemma => kernel_rfl) (by as_aux_lemma => kernel_rfl) (by rfl) ?y6 (HBX _ hc0) (by rfl) ?_
    case y6 =>
      rintro w' ⟨q0, q1, q2, q3, q4⟩
      simp only [lgA, lgZ, lgS]
      go_simp
    simp only [lgA, lgZ, lgS, Act.put, lsA, lsZ, lsS]
    refine wpAnyG.one 3 (by as_aux_lemma => kernel_rfl) (by decide) (by rfl) (fun K hK => ?_)
    simp only [lgA, lgZ, lgS]
    go_simp
    refine (ofD 1 z0 (by decide) (by decide)).mono ?_
    rintro e z1 ⟨f1, d1, n1, k1, d2, n2, k2, rfl, G1, hk1⟩
    have hc1 : Below w3.heap.size w3 z1 := bel_tr hc0 hk1
    dsimp only
    refine hK _ _ (HBX _ hc1) ?_
    clear hK K
    refine wpAnyG.one 4 (by as_aux_lemma => kernel_rfl) (by decide) (by rfl) (fun K hK => ?_)
    simp only [lgA, lgZ, lgS]
    go_simp
    refine (addD z1 (HTR.out.below hc1) G1.tr (by omega) (by omega) (by omega)).mono ?_
    rintro e z2 ⟨f2, e1, n3, k3, e2, n4, k4, rfl, G2, hk2⟩
    have hc2 : Below w3.heap.size w3 z2 := bel_tr hc1 hk2
    replace G2 := G2.fit HS1.out
    dsimp only
    refine hK _ _ (HBX _ hc2) ?_
    clear hK K
    refine wpAnyG.one 7 (by as_aux_lemma => kernel_rfl) (by decide) (by rfl) (fun K hK => ?_)
    simp only [lgA, lgZ, lgS]
    go_simp
    refine (HAL z2 f2 e1 n3 k3 e2 n4 k4 (bel_tr hbS hc2) G2.tr).mono ?_
    rintro e z3 ⟨yb, yc, rfl, LY, hk3⟩
    have hc3 : Below w3.heap.size w3 z3 := bel_tr hc2 hk3
    dsimp only
    refine hK _ _ (HBX _ hc3) ?_
    clear hK K
    refine wpAnyG.one 8 (by as_aux_lemma => kernel_rfl) (by decide) (by rfl) (fun K hK => ?_)
    simp only [lgA, lgZ, lgS]
    go_simp
    refine hK _ _ (HBX _ hc3) ?_
    clear hK K
    refine wpAnyG.done (by as_aux_lemma => kernel_rfl) (NoPanic.normal ?_)
    have hb4 := bel_tr hbS hc3
    replace Pb := Pb.below hc3
    replace Mb := Mb.below hc3
    clear HBX hc0 hc1 hc2 hc3 hk1 hk2 hk3 G1 G2 VT Cb HAL hbS HTR
    have p0 := Pb 0 _ rfl; have p1 := Pb 1 _ rfl; have p2 := Pb 2 _ rfl; have p3 := Pb 3 _ rfl; have p4 := Pb 4 _ rfl; have p5 := Pb 5 _ rfl; have p6 := Pb 6 _ rfl
    go_wp2_with fail
    clear p0 p1 p2 p3 p4 p5 p6
    refine (holdD4 P (U := (C.K + (P.K + C.K + Km + 3) + 1)) z3 (hP.below hb4) LY (fun j hj => ⟨by show 1 ≤ tot C.ZX C.xn + (P.K + C.K + Km + 3) + tot C.ZZ C.xn + 1; omega, by show tot C.ZX C.xn + (P.K + C.K + Km + 3) + tot C.ZZ C.xn + 1 ≤ _; omega⟩) ⟨by omega, by omega⟩ HD.out.1 HD.out.2.1 HD.out.2.2 (by omega) (by omega)).mono ?_
    rintro e w5 ⟨b1, rfl, hbb, h8⟩
    obtain rfl : b1 = true := hbb.2 HL1.out
    have hb5 := bel_tr hb4 h8
    replace Pb := Pb.below h8
    replace Mb := Mb.below h8
    have LY5 := LY.below h8
    clear h8 hbb hb4 LY
    go_wp2_with fail
    have HBX : ∀ w', Below w5.heap.size w5 w' → (w'.cell? ⟨w.heap.size, 0, none⟩ = some (.bool P.mx) ∧ w'.cell? ⟨w.heap.size, 1, none⟩ = some (.string P.nm) ∧ w'.cell? ⟨w.heap.size, 2, none⟩ = some (.bool P.p) ∧ w'.cell? ⟨w.heap.size, 3, none⟩ = some (.slice P.a P.na P.ca) ∧ w'.cell? ⟨w.heap.size, 4, none⟩ = some (.slice P.d P.nd P.cd) ∧ w'.cell? ⟨w.heap.size, 5, none⟩ = some (.slice P.va P.vn P.vc) ∧ w'.cell? ⟨w.heap.size, 6, none⟩ = some (.slice P.ra P.rn P.rc) ∧ w'.cell? ⟨w.heap.size + 2, 0, none⟩ = some (.bool p) ∧ w'.cell? ⟨w.heap.size + 2, 1, none⟩ = some (.slice a na ca) ∧ w'.cell? ⟨w.heap.size + 2, 2, none⟩ = some (.slice d nd cd)) := fun w' h => ⟨(Pb.below h) 0 _ rfl, (Pb.below h) 1 _ rfl, (Pb.below h) 2 _ rfl, (Pb.below h) 3 _ rfl, (Pb.below h) 4 _ rfl, (Pb.below h) 5 _ rfl, (Pb.below h) 6 _ rfl, (Mb.below h) 0 _ rfl, (Mb.below h) 1 _ rfl, (Mb.below h) 2 _ rfl⟩
    refine wp_region_noPanic (wp_region_guard (fun _ w' => w'.cell? ⟨w.heap.size, 0, none⟩ = some (.bool P.mx) ∧ w'.cell? ⟨w.heap.size, 1, none⟩ = some (.string P.nm) ∧ w'.cell? ⟨w.heap.size, 2, none⟩ = some (.bool P.p) ∧ w'.cell? ⟨w.heap.size, 3, none⟩ = some (.slice P.a P.na P.ca) ∧ w'.cell? ⟨w.heap.size, 4, none⟩ = some (.slice P.d P.nd P.cd) ∧ w'.cell? ⟨w.heap.size, 5, none⟩ = some (.slice P.va P.vn P.vc) ∧ w'.cell? ⟨w.heap.size, 6, none⟩ = some (.slice P.ra P.rn P.rc) ∧ w'.cell? ⟨w.heap.size + 2, 0, none⟩ = some (.bool p) ∧ w'.cell? ⟨w.heap.size + 2, 1, none⟩ = some (.slice a na ca) ∧ w'.cell? ⟨w.heap.size + 2, 2, none⟩ = some (.slice d nd cd)) (by as_aux_lemma => kernel_rfl) ?_)
    have hc0 : Below w5.heap.size w5 w5.drew := bel_d1 _
    generalize w5.drew = z0 at *
    refine wpAnyG.take 0 (v := .agg #[.bool P.mx, .string P.nm, .bool P.p, .slice P.a P.na P.ca, .slice P.d P.nd P.cd, .slice P.va P.vn P.vc, .slice P.ra P.rn P.rc]) (by decide) (by as_aux_lemma => kernel_rfl) (fun _ _ _ h => h) 6 _ (by rfl) (fun _ _ => Iff.rfl) (fun _ _ _ h => h) (by as_aux_lemma => kernel_rfl) (by as_aux_lemma => kernel_rfl) (by as_aux_lemma => kernel_rfl) (by rfl) ?y0 (HBX _ hc0) (by rfl) ?_
    case y0 =>
      rintro w' ⟨q0, q1, q2, q3, q4, q5, q6, q7, q8, q9⟩
      simp only [lgA, lgZ]
      go_simp
    simp only [lgA, lgZ, Act.put, lsA, lsZ, lsS]
    refine wpAnyG.take 1 (v := .agg #[.bool P.mx, .string P.nm, .bool P.p, .slice P.a P.na P.ca, .slice P.d P.nd P.cd, .slice P.va P.vn P.vc, .slice P.ra P.rn P.rc]) (by decide) (by as_aux_lemma => kernel_rfl) (fun _ _ _ h => h) 6 _ (by rfl) (fun _ _ => Iff.rfl) (fun _ _ _ h => h) (by as_aux_lemma => kernel_rfl) (by as_aux_lemma => kernel_rfl) (by as_aux_lemma => kernel_rfl) (by rfl) ?y1 (HBX _ hc0) (by rfl) ?_
    case y1 =>
      rintro w' ⟨q0, q1, q2, q3, q4, q5, q6, q7, q8, q9⟩
      simp only [lgA, lgZ, lgS]
      go_simp
    simp only [lgA, lgZ, lgS, Act.put, lsA, lsZ, lsS]
    refine wpAnyG.take 2 (v := .slice yb C.xn yc) (by decide) (by as_aux_lemma => kernel_rfl) (fun _ _ _ h => h) 6 _ (by rfl) (fun _ _ => Iff.rfl) (fun _ _ _ h => h) (by as_aux_lemma => kernel_rfl) (by as_aux_lemma => kernel_rfl) (by as_aux_lemma => kernel_rfl) (by rfl) ?y2 (HBX _ hc0) (by rfl) ?_
    case y2 =>
      rintro w' ⟨q0, q1, q2, q3, q4, q5, q6, q7, q8, q9⟩
      simp only [lgA, lgZ, lgS]
      go_simp
    simp only [lgA, lgZ, lgS, Act.put, lsA, lsZ, lsS]
    refine wpAnyG.take 4 (v := .agg #[.bool p, .slice a na ca, .slice d nd cd]) (by decide) (by as_aux_lemma => kernel_rfl) (fun _ _ _ h => h) 6 _ (by rfl) (fun _ _ => Iff.rfl) (fun _ _ _ h => h) (by as_aux_lemma => kernel_rfl) (by as_aux_lemma => kernel_rfl) (by as_aux_lemma => kernel_rfl) (by rfl) ?y4 (HBX _ hc0) (by rfl) ?_
    case y4 =>
      rintro w' ⟨q0, q1, q2, q3, q4, q5, q6, q7, q8, q9⟩
      simp only [lgA, lgZ, lgS]
      go_simp
    simp only [lgA, lgZ, lgS, Act.put, lsA, lsZ, lsS]
    refine wpAnyG.one 3 (by as_aux_lemma => kernel_rfl) (by decide) (by rfl) (fun K hK => ?_)
    simp only [lgA, lgZ, lgS]
    go_simp
    refine (valD4 P (U := (C.K + (P.K + C.K + Km + 3) + 1)) z0 (hP.below (bel_tr hb5 hc0)) (LY5.below hc0) (fun j hj => ⟨by show 1 ≤ tot C.ZX C.xn + (P.K + C.K + Km + 3) + tot C.ZZ C.xn + 1; omega, by show tot C.ZX C.xn + (P.K + C.K + Km + 3) + tot C.ZZ C.xn + 1 ≤ _; omega⟩) ⟨by omega, by omega⟩ HD.out.1 HD.out.2.1 HD.out.2.2 (by omega) (by omega) HXN.out).mono ?_
    rintro e z1 ⟨f3, d3, n5, k5, d4, n6, k6, rfl, G3, hk1⟩
    have hc1 : Below w5.heap.size w5 z1 := bel_tr hc0 hk1
    dsimp only
    refine hK _ _ (HBX _ hc1) ?_
    clear hK K
    refine wpAnyG.one 5 (by as_aux_lemma => kernel_rfl) (by decide) (by rfl) (fun K hK => ?_)
    simp only [lgA, lgZ, lgS]
    go_simp
    refine (betterT P true z1 G3.tr (hm.below (bel_tr hb5 hc1)) (by omega) (by omega) hKm ⟨fun _ => HB1.out, fun _ => rfl⟩).mono ?_
    rintro e z2 ⟨rfl, hk2⟩
    have hc2 : Below w5.heap.size w5 z2 := bel_tr hc1 hk2
    dsimp only
    refine hK _ _ (HBX _ hc2) ?_
    clear hK K
    refine wpAnyG.one 6 (by as_aux_lemma => kernel_rfl) (by decide) (by rfl) (fun K hK => ?_)
    simp only [lgA, lgZ, lgS]
    go_simp
    refine hK _ _ (HBX _ hc2) ?_
    clear hK K
    refine wpAnyG.done (by as_aux_lemma => kernel_rfl) (NoPanic.normal ?_)
    have hw := bel_tr hb5 hc2
    clear HBX hc0 hc1 hc2 hk1 hk2 G3 Pb Mb LY5 hb5
    go_wp2
    go_ret
    exact ⟨rfl, hw⟩
end Go.Proofs.YtcocjcjjlgcbcaaGreatDoor

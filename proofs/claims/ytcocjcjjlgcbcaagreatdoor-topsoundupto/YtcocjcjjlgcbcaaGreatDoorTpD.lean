import Derived.Test.YtcocjcjjlgcbcaaGreatDoorTpC
namespace Go.Proofs.YtcocjcjjlgcbcaaGreatDoor
open Go.RowKit

set_option maxRecDepth 100000 in
set_option maxHeartbeats 32000000 in
/-- What an accepted certificate says is told. -/
theorem tellsT (P : Prob) (C : Crt) {xa : Option Addr} {nx xc : Nat} {X : Nat → Rat} {Zx : Nat → Nat} {p : Bool} {a : Option Addr} {na ca : Nat} {d : Option Addr} {nd cd : Nat} {m : Rat} {Kx Km : Nat} (w : World) (hP : PQ w P) (hC : CQ w C) (hx : LQ w xa nx X Zx) (hzx : ∀ i, i < nx → 1 ≤ Zx i ∧ SzR (X i) (Zx i)) (htx : tot Zx nx ≤ Kx) (hm : TR w p a na ca d nd cd m Km) (hKm : 1 ≤ Km) (hK : P.K + C.K + Kx + Km ≤ 1048576) (hS : Snd P C) :
    Calls Tryz.prog 17 #[P.val, C.val, .slice xa nx xc, .agg #[.bool p, .slice a na ca, .slice d nd cd]] w fun e w' => e = .returned (.bool true) ∧ Below w.heap.size w w' := by
  have HBY := fun w1 (hb : Below w.heap.size w w1) => beyondT P C (Km := Km) w1 (hP.below hb) (hC.below hb) (hm.below hb) hKm (by omega)
  have hall := hC.all
  have ht1 := tot_pos C.ZX C.xn
  have ht2 := tot_pos C.ZY C.yn
  have ht3 := tot_pos C.ZZ C.zn
  have hs1C := hC.s1
  unfold Prob.val Crt.val at *
  obtain ⟨Pb, Cb, Mb, hb0, hs0⟩ := boxc3 w #[.bool P.mx, .string P.nm, .bool P.p, .slice P.a P.na P.ca, .slice P.d P.nd P.cd, .slice P.va P.vn P.vc, .slice P.ra P.rn P.rc] 31 #[.int .i64 C.vd, .bool C.p, .slice C.a C.na C.ca, .slice C.d C.nd C.cd, .slice C.xa C.xn C.xc, .slice C.ya C.yn C.yc, .slice C.za C.zn C.zc] 34 #[.bool p, .slice a na ca, .slice d nd cd] 27
  have HS : Hid (Snd P C) := hS
  clear hS
  have p0 := Pb 0 _ rfl; have p1 := Pb 1 _ rfl; have p2 := Pb 2 _ rfl; have p3 := Pb 3 _ rfl; have p4 := Pb 4 _ rfl; have p5 := Pb 5 _ rfl; have p6 := Pb 6 _ rfl
  go_enter Tryz.func17, Tryz.ntmps17
  go_wp2_with fail
  clear p0 p1 p2 p3 p4 p5 p6
  generalize ((w.alloc (.cells #[.bool P.mx, .string P.nm, .bool P.p, .slice P.a P.na P.ca, .slice P.d P.nd P.cd, .slice P.va P.vn P.vc, .slice P.ra P.rn P.rc] 31)).alloc (.cells #[.int .i64 C.vd, .bool C.p, .slice C.a C.na C.ca, .slice C.d C.nd C.cd, .slice C.xa C.xn C.xc, .slice C.ya C.yn C.yc, .slice C.za C.zn C.zc] 34)).alloc (.cells #[.bool p, .slice a na ca, .slice d nd cd] 27) = W0 at *
  refine (holdD2 P (Kx := Kx) W0 (hP.below hb0) (hx.below hb0) hzx htx (by omega)).mono ?_
  rintro e w3 ⟨b, rfl, hb, h3⟩
  have hb3 := bel_tr hb0 h3
  have hsw3 := h3.size
  have HH : Hid (b = true ↔ Hlds P nx X) := hb
  replace Pb := Pb.below h3
  replace Cb := Cb.below h3
  replace Mb := Mb.below h3
  clear h3 hb0 hb
  have c0 := Cb 0 _ rfl
  rcases HS.out with ⟨hvd, hxn, hl, hv, ho, hp⟩ | ⟨hvd, hnone⟩ | ⟨hvd, hxn, hzn, hl, hd, hi⟩
  · have HV : Hid ((0 : Int) = cs (vlu P (xn C.X C.xn)) C.v) := by
      show (0 : Int) = _
      rw [vlu_xn P C.X (by omega), hv]
      exact (cs_zero.2 rfl).symm
    have HL : Hid (Hlds P C.xn C.X) := hl
    have HW0 : Hid (∀ n X, Hlds P n X → ¬ btr P (vlu P X) C.v) := fun n X h => by rw [← hp]; exact weak h ho
    rw [hvd] at c0
    have p0 := Pb 0 _ rfl; have p1 := Pb 1 _ rfl; have p2 := Pb 2 _ rfl; have p3 := Pb 3 _ rfl; have p4 := Pb 4 _ rfl; have p5 := Pb 5 _ rfl; have p6 := Pb 6 _ rfl
    have c4 := Cb 4 _ rfl
    clear hvd hxn hl hv ho hp HS HBY
    go_wp2_with fail
    clear p0 p1 p2 p3 p4 p5 p6 c4 c0
    refine (holdD2 P (Kx := C.K) w3 (hP.below hb3) (hC.x.below hb3) hC.zx (by omega) (by omega)).mono ?_
    rintro e w4 ⟨b2, rfl, hbb, h4⟩
    obtain rfl : b2 = true := hbb.2 HL.out
    have hb4 := bel_tr hb3 h4
    replace Pb := Pb.below h4
    replace Cb := Cb.below h4
    clear h4 hbb hb3 Mb
    go_wp2_with fail
    have HBX : ∀ w', Below w4.heap.size w4 w' → (w'.cell? ⟨w.heap.size, 0, none⟩ = some (.bool P.mx) ∧ w'.cell? ⟨w.heap.size, 1, none⟩ = some (.string P.nm) ∧ w'.cell? ⟨w.heap.size, 2, none⟩ = some (.bool P.p) ∧ w'.cell? ⟨w.heap.size, 3, none⟩ = some (.slice P.a P.na P.ca) ∧ w'.cell? ⟨w.heap.size, 4, none⟩ = some (.slice P.d P.nd P.cd) ∧ w'.cell? ⟨w.heap.size, 5, none⟩ = some (.slice P.va P.vn P.vc) ∧ w'.cell? ⟨w.heap.size, 6, none⟩ = some (.slice P.ra P.rn P.rc) ∧ w'.cell? ⟨w.heap.size + 1, 1, none⟩ = some (.bool C.p) ∧ w'.cell? ⟨w.heap.size + 1, 2, none⟩ = some (.slice C.a C.na C.ca) ∧ w'.cell? ⟨w.heap.size + 1, 3, none⟩ = some (.slice C.d C.nd C.cd) ∧ w'.cell? ⟨w.heap.size + 1, 4, none⟩ = some (.slice C.xa C.xn C.xc)) := fun w' h => ⟨(Pb.below h) 0 _ rfl, (Pb.below h) 1 _ rfl, (Pb.below h) 2 _ rfl, (Pb.below h) 3 _ rfl, (Pb.below h) 4 _ rfl, (Pb.below h) 5 _ rfl, (Pb.below h) 6 _ rfl, (Cb.below h) 1 _ rfl, (Cb.below h) 2 _ rfl, (Cb.below h) 3 _ rfl, (Cb.below h) 4 _ rfl⟩
    refine wp_region_noPanic (wp_region_guard (fun _ w' => w'.cell? ⟨w.heap.size, 0, none⟩ = some (.bool P.mx) ∧ w'.cell? ⟨w.heap.size, 1, none⟩ = some (.string P.nm) ∧ w'.cell? ⟨w.heap.size, 2, none⟩ = some (.bool P.p) ∧ w'.cell? ⟨w.heap.size, 3, none⟩ = some (.slice P.a P.na P.ca) ∧ w'.cell? ⟨w.heap.size, 4, none⟩ = some (.slice P.d P.nd P.cd) ∧ w'.cell? ⟨w.heap.size, 5, none⟩ = some (.slice P.va P.vn P.vc) ∧ w'.cell? ⟨w.heap.size, 6, none⟩ = some (.slice P.ra P.rn P.rc) ∧ w'.cell? ⟨w.heap.size + 1, 1, none⟩ = some (.bool C.p) ∧ w'.cell? ⟨w.heap.size + 1, 2, none⟩ = some (.slice C.a C.na C.ca) ∧ w'.cell? ⟨w.heap.size + 1, 3, none⟩ = some (.slice C.d C.nd C.cd) ∧ w'.cell? ⟨w.heap.size + 1, 4, none⟩ = some (.slice C.xa C.xn C.xc)) (by as_aux_lemma => kernel_rfl) ?_)
    have hc0 : Below w4.heap.size w4 w4.drew := bel_d1 _
    generalize w4.drew = z0 at *
    refine wpAnyG.take 0 (v := .agg #[.bool P.mx, .string P.nm, .bool P.p, .slice P.a P.na P.ca, .slice P.d P.nd P.cd, .slice P.va P.vn P.vc, .slice P.ra P.rn P.rc]) (by decide) (by as_aux_lemma => kernel_rfl) (fun _ _ _ h => h) 7 _ (by rfl) (fun _ _ => Iff.rfl) (fun _ _ _ h => h) (by as_aux_lemma => kernel_rfl) (by as_aux_lemma => kernel_rfl) (by as_aux_lemma => kernel_rfl) (by rfl) ?y0 (HBX _ hc0) (by rfl) ?_
    case y0 =>
      rintro w' ⟨q0, q1, q2, q3, q4, q5, q6, q7, q8, q9, q10⟩
      simp only [lgA, lgZ]
      go_simp
    simp only [lgA, lgZ, Act.put, lsA, lsZ, lsS]
    refine wpAnyG.take 1 (v := .pointer (some ⟨w.heap.size + 1, 4, none⟩)) (by decide) (by as_aux_lemma => kernel_rfl) (fun _ _ _ h => h) 7 _ (by rfl) (fun _ _ => Iff.rfl) (fun _ _ _ h => h) (by as_aux_lemma => kernel_rfl) (by as_aux_lemma => kernel_rfl) (by as_aux_lemma => kernel_rfl) (by rfl) ?y1 (HBX _ hc0) (by rfl) ?_
    case y1 =>
      rintro w' ⟨q0, q1, q2, q3, q4, q5, q6, q7, q8, q9, q10⟩
      simp only [lgA, lgZ, lgS]
      go_simp
    simp only [lgA, lgZ, lgS, Act.put, lsA, lsZ, lsS]
    refine wpAnyG.take 2 (v := .slice C.xa C.xn C.xc) (by decide) (by as_aux_lemma => kernel_rfl) (fun _ _ _ h => h) 7 _ (by rfl) (fun _ _ => Iff.rfl) (fun _ _ _ h => h) (by as_aux_lemma => kernel_rfl) (by as_aux_lemma => kernel_rfl) (by as_aux_lemma => kernel_rfl) (by rfl) ?y2 (HBX _ hc0) (by rfl) ?_
    case y2 =>
      rintro w' ⟨q0, q1, q2, q3, q4, q5, q6, q7, q8, q9, q10⟩
      simp only [lgA, lgZ, lgS]
      go_simp
    simp only [lgA, lgZ, lgS, Act.put, lsA, lsZ, lsS]
    refine wpAnyG.take 4 (v := .pointer (some ⟨w.heap.size + 1, 1, none⟩)) (by decide) (by as_aux_lemma => kernel_rfl) (fun _ _ _ h => h) 7 _ (by rfl) (fun _ _ => Iff.rfl) (fun _ _ _ h => h) (by as_aux_lemma => kernel_rfl) (by as_aux_lemma => kernel_rfl) (by as_aux_lemma => kernel_rfl) (by rfl) ?y4 (HBX _ hc0) (by rfl) ?_
    case y4 =>
      rintro w' ⟨q0, q1, q2, q3, q4, q5, q6, q7, q8, q9, q10⟩
      simp only [lgA, lgZ, lgS]
      go_simp
    simp only [lgA, lgZ, lgS, Act.put, lsA, lsZ, lsS]
    refine wpAnyG.take 5 (v := .agg #[.bool C.p, .slice C.a C.na C.ca, .slice C.d C.nd C.cd]) (by decide) (by as_aux_lemma => kernel_rfl) (fun _ _ _ h => h) 7 _ (by rfl) (fun _ _ => Iff.rfl) (fun _ _ _ h => h) (by as_aux_lemma => kernel_rfl) (by as_aux_lemma => kernel_rfl) (by as_aux_lemma => kernel_rfl) (by rfl) ?y5 (HBX _ hc0) (by rfl) ?_
    case y5 =>
      rintro w' ⟨q0, q1, q2, q3, q4, q5, q6, q7, q8, q9, q10⟩
      simp only [lgA, lgZ, lgS]
      go_simp
    simp only [lgA, lgZ, lgS, Act.put, lsA, lsZ, lsS]
    refine wpAnyG.one 3 (by as_aux_lemma => kernel_rfl) (by decide) (by rfl) (fun K hK => ?_)
    simp only [lgA, lgZ, lgS]
    go_simp
    refine (valD2 P (Kx := C.K) z0 (hP.below (bel_tr hb4 hc0)) (hC.x.below (bel_tr hb4 hc0)) hC.zx (by omega) (by omega)).mono ?_
    rintro e z1 ⟨f1, d1, n1, k1, d2, n2, k2, rfl, G1, hk1⟩
    have hc1 : Below w4.heap.size w4 z1 := bel_tr hc0 hk1
    dsimp only
    refine hK _ _ (HBX _ hc1) ?_
    clear hK K
    refine wpAnyG.one 6 (by as_aux_lemma => kernel_rfl) (by decide) (by rfl) (fun K hK => ?_)
    simp only [lgA, lgZ, lgS]
    go_simp
    refine (sameT z1 G1.tr (hC.v.below (bel_tr hb4 hc1)) (by omega) (by omega) hC.s1 HV.out).mono ?_
    rintro e z2 ⟨rfl, hk2⟩
    have hc2 : Below w4.heap.size w4 z2 := bel_tr hc1 hk2
    dsimp only
    refine hK _ _ (HBX _ hc2) ?_
    clear hK K
    refine wpAnyG.one 7 (by as_aux_lemma => kernel_rfl) (by decide) (by rfl) (fun K hK => ?_)
    simp only [lgA, lgZ, lgS]
    go_simp
    refine hK _ _ (HBX _ hc2) ?_
    clear hK K
    refine wpAnyG.done (by as_aux_lemma => kernel_rfl) (NoPanic.normal ?_)
    have hb5 := bel_tr hb4 hc2
    replace Pb := Pb.below hc2
    replace Cb := Cb.below hc2
    clear HBX hc0 hc1 hc2 hk1 hk2 G1 hb4 HV
    cases b
    · clear HH HW0
      go_wp2_with fail
      have HBX : ∀ w', Below z2.heap.size z2 w' → (w'.cell? ⟨w.heap.size, 0, none⟩ = some (.bool P.mx) ∧ w'.cell? ⟨w.heap.size, 1, none⟩ = some (.string P.nm) ∧ w'.cell? ⟨w.heap.size, 2, none⟩ = some (.bool P.p) ∧ w'.cell? ⟨w.heap.size, 3, none⟩ = some (.slice P.a P.na P.ca) ∧ w'.cell? ⟨w.heap.size, 4, none⟩ = some (.slice P.d P.nd P.cd) ∧ w'.cell? ⟨w.heap.size, 5, none⟩ = some (.slice P.va P.vn P.vc) ∧ w'.cell? ⟨w.heap.size, 6, none⟩ = some (.slice P.ra P.rn P.rc) ∧ w'.cell? ⟨w.heap.size + 1, 1, none⟩ = some (.bool C.p) ∧ w'.cell? ⟨w.heap.size + 1, 2, none⟩ = some (.slice C.a C.na C.ca) ∧ w'.cell? ⟨w.heap.size + 1, 3, none⟩ = some (.slice C.d C.nd C.cd) ∧ w'.cell? ⟨w.heap.size + 1, 4, none⟩ = some (.slice C.xa C.xn C.xc)) := fun w' h => ⟨(Pb.below h) 0 _ rfl, (Pb.below h) 1 _ rfl, (Pb.below h) 2 _ rfl, (Pb.below h) 3 _ rfl, (Pb.below h) 4 _ rfl, (Pb.below h) 5 _ rfl, (Pb.below h) 6 _ rfl, (Cb.below h) 1 _ rfl, (Cb.below h) 2 _ rfl, (Cb.below h) 3 _ rfl, (Cb.below h) 4 _ rfl⟩
      refine wp_region_noPanic (wp_region_guard (fun _ w' => w'.cell? ⟨w.heap.size, 0, none⟩ = some (.bool P.mx) ∧ w'.cell? ⟨w.heap.size, 1, none⟩ = some (.string P.nm) ∧ w'.cell? ⟨w.heap.size, 2, none⟩ = some (.bool P.p) ∧ w'.cell? ⟨w.heap.size, 3, none⟩ = some (.slice P.a P.na P.ca) ∧ w'.cell? ⟨w.heap.size, 4, none⟩ = some (.slice P.d P.nd P.cd) ∧ w'.cell? ⟨w.heap.size, 5, none⟩ = some (.slice P.va P.vn P.vc) ∧ w'.cell? ⟨w.heap.size, 6, none⟩ = some (.slice P.ra P.rn P.rc) ∧ w'.cell? ⟨w.heap.size + 1, 1, none⟩ = some (.bool C.p) ∧ w'.cell? ⟨w.heap.size + 1, 2, none⟩ = some (.slice C.a C.na C.ca) ∧ w'.cell? ⟨w.heap.size + 1, 3, none⟩ = some (.slice C.d C.nd C.cd) ∧ w'.cell? ⟨w.heap.size + 1, 4, none⟩ = some (.slice C.xa C.xn C.xc)) (by as_aux_lemma => kernel_rfl) ?_)
      have hc0 : Below z2.heap.size z2 z2.drew := bel_d1 _
      generalize z2.drew = y0 at *
      refine wpAnyG.take 0 (v := .bool false) (by decide) (by as_aux_lemma => kernel_rfl) (fun _ _ _ h => h) 10 _ (by rfl) (fun _ _ => Iff.rfl) (fun _ _ _ h => h) (by as_aux_lemma => kernel_rfl) (by as_aux_lemma => kernel_rfl) (by as_aux_lemma => kernel_rfl) (by rfl) ?y0 (HBX _ hc0) (by rfl) ?_
      case y0 =>
        rintro w' ⟨q0, q1, q2, q3, q4, q5, q6, q7, q8, q9, q10⟩
        simp only [lgA, lgZ]
        go_simp
      simp only [lgA, lgZ, Act.put, lsA, lsZ, lsS]
      refine wpAnyG.take 1 (v := .bool false) (by decide) (by as_aux_lemma => kernel_rfl) (fun _ _ _ h => h) 10 _ (by rfl) (fun _ _ => Iff.rfl) (fun _ _ _ h => h) (by as_aux_lemma => kernel_rfl) (by as_aux_lemma => kernel_rfl) (by as_aux_lemma => kernel_rfl) (by rfl) ?y1 (HBX _ hc0) (by rfl) ?_
      case y1 =>
        rintro w' ⟨q0, q1, q2, q3, q4, q5, q6, q7, q8, q9, q10⟩
        simp only [lgA, lgZ, lgS]
        go_simp
      simp only [lgA, lgZ, lgS, Act.put, lsA, lsZ, lsS]
      refine wpAnyG.skip 2 (by decide) (by as_aux_lemma => kernel_rfl) (fun _ _ _ h => h) 10 (by rfl) (fun _ _ => Iff.rfl) (by as_aux_lemma => kernel_rfl) (by as_aux_lemma => kernel_rfl) (by as_aux_lemma => kernel_rfl) (by rfl) (HBX _ hc0) (by rfl) ?_
      simp only [lgA, lgZ, lgS, Act.put, lsA, lsZ, lsS]
      refine wpAnyG.skip 3 (by decide) (by as_aux_lemma => kernel_rfl) (fun _ _ _ h => h) 10 (by rfl) (fun _ _ => Iff.rfl) (by as_aux_lemma => kernel_rfl) (by as_aux_lemma => kernel_rfl) (by as_aux_lemma => kernel_rfl) (by rfl) (HBX _ hc0) (by rfl) ?_
      simp only [lgA, lgZ, lgS, Act.put, lsA, lsZ, lsS]
      refine wpAnyG.skip 4 (by decide) (by as_aux_lemma => kernel_rfl) (fun _ _ _ h => h) 10 (by rfl) (fun _ _ => Iff.rfl) (by as_aux_lemma => kernel_rfl) (by as_aux_lemma => kernel_rfl) (by as_aux_lemma => kernel_rfl) (by rfl) (HBX _ hc0) (by rfl) ?_
      simp only [lgA, lgZ, lgS, Act.put, lsA, lsZ, lsS]
      refine wpAnyG.skip 5 (by decide) (by as_aux_lemma => kernel_rfl) (fun _ _ _ h => h) 10 (by rfl) (fun _ _ => Iff.rfl) (by as_aux_lemma => kernel_rfl) (by as_aux_lemma => kernel_rfl) (by as_aux_lemma => kernel_rfl) (by rfl) (HBX _ hc0) (by rfl) ?_
      simp only [lgA, lgZ, lgS, Act.put, lsA, lsZ, lsS]
      refine wpAnyG.skip 6 (by decide) (by as_aux_lemma => kernel_rfl) (fun _ _ _ h => h) 10 (by rfl) (fun _ _ => Iff.rfl) (by as_aux_lemma => kernel_rfl) (by as_aux_lemma => kernel_rfl) (by as_aux_lemma => kernel_rfl) (by rfl) (HBX _ hc0) (by rfl) ?_
      simp only [lgA, lgZ, lgS, Act.put, lsA, lsZ, lsS]
      refine wpAnyG.skip 7 (by decide) (by as_aux_lemma => kernel_rfl) (fun _ _ _ h => h) 10 (by rfl) (fun _ _ => Iff.rfl) (by as_aux_lemma => kernel_rfl) (by as_aux_lemma => kernel_rfl) (by as_aux_lemma => kernel_rfl) (by rfl) (HBX _ hc0) (by rfl) ?_
      simp only [lgA, lgZ, lgS, Act.put, lsA, lsZ, lsS]
      refine wpAnyG.skip 8 (by decide) (by as_aux_lemma => kernel_rfl) (fun _ _ _ h => h) 10 (by rfl) (fun _ _ => Iff.rfl) (by as_aux_lemma => kernel_rfl) (by as_aux_lemma => kernel_rfl) (by as_aux_lemma => kernel_rfl) (by rfl) (HBX _ hc0) (by rfl) ?_
      simp only [lgA, lgZ, lgS, Act.put, lsA, lsZ, lsS]
      refine wpAnyG.take 9 (v := .bool false) (by decide) (by as_aux_lemma => kernel_rfl) (fun _ _ _ h => h) 10 _ (by rfl) (fun _ _ => Iff.rfl) (fun _ _ _ h => h) (by as_aux_lemma => kernel_rfl) (by as_aux_lemma => kernel_rfl) (by as_aux_lemma => kernel_rfl) (by rfl) ?y9 (HBX _ hc0) (by rfl) ?_
      case y9 =>
        rintro w' ⟨q0, q1, q2, q3, q4, q5, q6, q7, q8, q9, q10⟩
        simp only [lgA, lgZ, lgS]
        go_simp
      simp only [lgA, lgZ, lgS, Act.put, lsA, lsZ, lsS]
      refine wpAnyG.one 10 (by as_aux_lemma => kernel_rfl) (by decide) (by rfl) (fun K hK => ?_)
      simp only [lgA, lgZ, lgS]
      go_simp
      refine hK _ _ (HBX _ hc0) ?_
      clear hK K
      refine wpAnyG.done (by as_aux_lemma => kernel_rfl) (NoPanic.normal ?_)
      have hw := bel_tr hb5 hc0
      clear HBX hc0 Pb Cb hb5
      go_wp2
      go_ret
      exact ⟨rfl, hw⟩
    · have HW : Hid (false = true ↔ btr P (vlu P (xn X nx)) C.v) := by
        have hH := HH.out.1 (by first | rfl | trivial)
        show false = true ↔ _
        rw [vlu_xn P X (by have := hH.1; omega)]
        exact ⟨fun h => (by cases h), fun h => absurd h (HW0.out _ _ hH)⟩
      clear HH HW0
      go_wp2_with fail
      have HBX : ∀ w', Below z2.heap.size z2 w' → (w'.cell? ⟨w.heap.size, 0, none⟩ = some (.bool P.mx) ∧ w'.cell? ⟨w.heap.size, 1, none⟩ = some (.string P.nm) ∧ w'.cell? ⟨w.heap.size, 2, none⟩ = some (.bool P.p) ∧ w'.cell? ⟨w.heap.size, 3, none⟩ = some (.slice P.a P.na P.ca) ∧ w'.cell? ⟨w.heap.size, 4, none⟩ = some (.slice P.d P.nd P.cd) ∧ w'.cell? ⟨w.heap.size, 5, none⟩ = some (.slice P.va P.vn P.vc) ∧ w'.cell? ⟨w.heap.size, 6, none⟩ = some (.slice P.ra P.rn P.rc) ∧ w'.cell? ⟨w.heap.size + 1, 1, none⟩ = some (.bool C.p) ∧ w'.cell? ⟨w.heap.size + 1, 2, none⟩ = some (.slice C.a C.na C.ca) ∧ w'.cell? ⟨w.heap.size + 1, 3, none⟩ = some (.slice C.d C.nd C.cd) ∧ w'.cell? ⟨w.heap.size + 1, 4, none⟩ = some (.slice C.xa C.xn C.xc)) := fun w' h => ⟨(Pb.below h) 0 _ rfl, (Pb.below h) 1 _ rfl, (Pb.below h) 2 _ rfl, (Pb.below h) 3 _ rfl, (Pb.below h) 4 _ rfl, (Pb.below h) 5 _ rfl, (Pb.below h) 6 _ rfl, (Cb.below h) 1 _ rfl, (Cb.below h) 2 _ rfl, (Cb.below h) 3 _ rfl, (Cb.below h) 4 _ rfl⟩
      refine wp_region_noPanic (wp_region_guard (fun _ w' => w'.cell? ⟨w.heap.size, 0, none⟩ = some (.bool P.mx) ∧ w'.cell? ⟨w.heap.size, 1, none⟩ = some (.string P.nm) ∧ w'.cell? ⟨w.heap.size, 2, none⟩ = some (.bool P.p) ∧ w'.cell? ⟨w.heap.size, 3, none⟩ = some (.slice P.a P.na P.ca) ∧ w'.cell? ⟨w.heap.size, 4, none⟩ = some (.slice P.d P.nd P.cd) ∧ w'.cell? ⟨w.heap.size, 5, none⟩ = some (.slice P.va P.vn P.vc) ∧ w'.cell? ⟨w.heap.size, 6, none⟩ = some (.slice P.ra P.rn P.rc) ∧ w'.cell? ⟨w.heap.size + 1, 1, none⟩ = some (.bool C.p) ∧ w'.cell? ⟨w.heap.size + 1, 2, none⟩ = some (.slice C.a C.na C.ca) ∧ w'.cell? ⟨w.heap.size + 1, 3, none⟩ = some (.slice C.d C.nd C.cd) ∧ w'.cell? ⟨w.heap.size + 1, 4, none⟩ = some (.slice C.xa C.xn C.xc)) (by as_aux_lemma => kernel_rfl) ?_)
      have hc0 : Below z2.heap.size z2 z2.drew := bel_d1 _
      generalize z2.drew = y0 at *
      refine wpAnyG.take 0 (v := .bool true) (by decide) (by as_aux_lemma => kernel_rfl) (fun _ _ _ h => h) 10 _ (by rfl) (fun _ _ => Iff.rfl) (fun _ _ _ h => h) (by as_aux_lemma => kernel_rfl) (by as_aux_lemma => kernel_rfl) (by as_aux_lemma => kernel_rfl) (by rfl) ?y0 (HBX _ hc0) (by rfl) ?_
      case y0 =>
        rintro w' ⟨q0, q1, q2, q3, q4, q5, q6, q7, q8, q9, q10⟩
        simp only [lgA, lgZ]
        go_simp
      simp only [lgA, lgZ, Act.put, lsA, lsZ, lsS]
      refine wpAnyG.take 1 (v := .bool true) (by decide) (by as_aux_lemma => kernel_rfl) (fun _ _ _ h => h) 10 _ (by rfl) (fun _ _ => Iff.rfl) (fun _ _ _ h => h) (by as_aux_lemma => kernel_rfl) (by as_aux_lemma => kernel_rfl) (by as_aux_lemma => kernel_rfl) (by rfl) ?y1 (HBX _ hc0) (by rfl) ?_
      case y1 =>
        rintro w' ⟨q0, q1, q2, q3, q4, q5, q6, q7, q8, q9, q10⟩
        simp only [lgA, lgZ, lgS]
        go_simp
      simp only [lgA, lgZ, lgS, Act.put, lsA, lsZ, lsS]
      refine wpAnyG.take 2 (v := .agg #[.bool P.mx, .string P.nm, .bool P.p, .slice P.a P.na P.ca, .slice P.d P.nd P.cd, .slice P.va P.vn P.vc, .slice P.ra P.rn P.rc]) (by decide) (by as_aux_lemma => kernel_rfl) (fun _ _ _ h => h) 10 _ (by rfl) (fun _ _ => Iff.rfl) (fun _ _ _ h => h) (by as_aux_lemma => kernel_rfl) (by as_aux_lemma => kernel_rfl) (by as_aux_lemma => kernel_rfl) (by rfl) ?y2 (HBX _ hc0) (by rfl) ?_
      case y2 =>
        rintro w' ⟨q0, q1, q2, q3, q4, q5, q6, q7, q8, q9, q10⟩
        simp only [lgA, lgZ, lgS]
        go_simp
      simp only [lgA, lgZ, lgS, Act.put, lsA, lsZ, lsS]
      refine wpAnyG.take 3 (v := .agg #[.bool P.mx, .string P.nm, .bool P.p, .slice P.a P.na P.ca, .slice P.d P.nd P.cd, .slice P.va P.vn P.vc, .slice P.ra P.rn P.rc]) (by decide) (by as_aux_lemma => kernel_rfl) (fun _ _ _ h => h) 10 _ (by rfl) (fun _ _ => Iff.rfl) (fun _ _ _ h => h) (by as_aux_lemma => kernel_rfl) (by as_aux_lemma => kernel_rfl) (by as_aux_lemma => kernel_rfl) (by rfl) ?y3 (HBX _ hc0) (by rfl) ?_
      case y3 =>
        rintro w' ⟨q0, q1, q2, q3, q4, q5, q6, q7, q8, q9, q10⟩
        simp only [lgA, lgZ, lgS]
        go_simp
      simp only [lgA, lgZ, lgS, Act.put, lsA, lsZ, lsS]
      refine wpAnyG.take 4 (v := .slice xa nx xc) (by decide) (by as_aux_lemma => kernel_rfl) (fun _ _ _ h => h) 10 _ (by rfl) (fun _ _ => Iff.rfl) (fun _ _ _ h => h) (by as_aux_lemma => kernel_rfl) (by as_aux_lemma => kernel_rfl) (by as_aux_lemma => kernel_rfl) (by rfl) ?y4 (HBX _ hc0) (by rfl) ?_
      case y4 =>
        rintro w' ⟨q0, q1, q2, q3, q4, q5, q6, q7, q8, q9, q10⟩
        simp only [lgA, lgZ, lgS]
        go_simp
      simp only [lgA, lgZ, lgS, Act.put, lsA, lsZ, lsS]
      refine wpAnyG.take 6 (v := .pointer (some ⟨w.heap.size + 1, 1, none⟩)) (by decide) (by as_aux_lemma => kernel_rfl) (fun _ _ _ h => h) 10 _ (by rfl) (fun _ _ => Iff.rfl) (fun _ _ _ h => h) (by as_aux_lemma => kernel_rfl) (by as_aux_lemma => kernel_rfl) (by as_aux_lemma => kernel_rfl) (by rfl) ?y6 (HBX _ hc0) (by rfl) ?_
      case y6 =>
        rintro w' ⟨q0, q1, q2, q3, q4, q5, q6, q7, q8, q9, q10⟩
        simp only [lgA, lgZ, lgS]
        go_simp
      simp only [lgA, lgZ, lgS, Act.put, lsA, lsZ, lsS]
      refine wpAnyG.take 7 (v := .agg #[.bool C.p, .slice C.a C.na C.ca, .slice C.d C.nd C.cd]) (by decide) (by as_aux_lemma => kernel_rfl) (fun _ _ _ h => h) 10 _ (by rfl) (fun _ _ => Iff.rfl) (fun _ _ _ h => h) (by as_aux_lemma => kernel_rfl) (by as_aux_lemma => kernel_rfl) (by as_aux_lemma => kernel_rfl) (by rfl) ?y7 (HBX _ hc0) (by rfl) ?_
      case y7 =>
        rintro w' ⟨q0, q1, q2, q3, q4, q5, q6, q7, q8, q9, q10⟩
        simp only [lgA, lgZ, lgS]
        go_simp
      simp only [lgA, lgZ, lgS, Act.put, lsA, lsZ, lsS]
      refine wpAnyG.one 5 (by as_aux_lemma => kernel_rfl) (by decide) (by rfl) (fun K hK => ?_)
      simp only [lgA, lgZ, lgS]
      go_simp
      refine (valD2 P (Kx := Kx) y0 (hP.below (bel_tr hb5 hc0)) (hx.below (bel_tr hb5 hc0)) hzx htx (by omega)).mono ?_
      rintro e y1 ⟨f1, d1, n1, k1, d2, n2, k2, rfl, G1, hk1⟩
      have hc1 : Below z2.heap.size z2 y1 := bel_tr hc0 hk1
      dsimp only
      refine hK _ _ (HBX _ hc1) ?_
      clear hK K
      refine wpAnyG.one 8 (by as_aux_lemma => kernel_rfl) (by decide) (by rfl) (fun K hK => ?_)
      simp only [lgA, lgZ, lgS]
      go_simp
      refine (betterT P false y1 G1.tr (hC.v.below (bel_tr hb5 hc1)) (by omega) (by omega) hC.s1 HW.out).mono ?_
      rintro e y2 ⟨rfl, hk2⟩
      have hc2 : Below z2.heap.size z2 y2 := bel_tr hc1 hk2
      dsimp only
      refine hK _ _ (HBX _ hc2) ?_
      clear hK K
      refine wpAnyG.take 9 (v := .bool false) (by decide) (by as_aux_lemma => kernel_rfl) (fun _ _ _ h => h) 10 _ (by rfl) (fun _ _ => Iff.rfl) (fun _ _ _ h => h) (by as_aux_lemma => kernel_rfl) (by as_aux_lemma => kernel_rfl) (by as_aux_lemma => kernel_rfl) (by rfl) ?y9 (HBX _ hc2) (by rfl) ?_
      case y9 =>
        rintro w' ⟨q0, q1, q2, q3, q4, q5, q6, q7, q8, q9, q10⟩
        simp only [lgA, lgZ, lgS]
        go_simp
      simp only [lgA, lgZ, lgS, Act.put, lsA, lsZ, lsS]
      refine wpAnyG.one 10 (by as_aux_lemma => kernel_rfl) (by decide) (by rfl) (fun K hK => ?_)
      simp only [lgA, lgZ, lgS]
      go_simp
      refine hK _ _ (HBX _ hc2) ?_
      clear hK K
      refine wpAnyG.done (by as_aux_lemma => kernel_rfl) (NoPanic.normal ?_)
      have hw := bel_tr hb5 hc2
      clear HBX hc0 hc1 hc2 hk1 hk2 G1 Pb Cb hb5 HW
      go_wp2
      go_ret
      exact ⟨rfl, hw⟩
  · obtain rfl : b = false := by
      cases b
      · rfl
      · exact absurd (HH.out.1 (by first | rfl | trivial)) (hnone _ _)
    rw [hvd] at c0
    clear HH hnone HS hvd HBY
    go_wp2
    go_ret
    exact ⟨rfl, hb3⟩
  · have HL : Hid (Hlds P C.xn C.X) := hl
    have HB2 := fun w1 hb => HBY w1 hb hxn hzn hl hd hi
    rw [hvd] at c0
    have p0 := Pb 0 _ rfl; have p1 := Pb 1 _ rfl; have p2 := Pb 2 _ rfl; have p3 := Pb 3 _ rfl; have p4 := Pb 4 _ rfl; have p5 := Pb 5 _ rfl; have p6 := Pb 6 _ rfl
    have c4 := Cb 4 _ rfl
    clear HBY hxn hzn hl hd hi HS HH
    have HVD : Hid (C.vd = 3) := hvd
    clear hvd
    go_wp2_with fail
    clear p0 p1 p2 p3 p4 p5 p6 c4 c0
    refine (holdD2 P (Kx := C.K) w3 (hP.below hb3) (hC.x.below hb3) hC.zx (by omega) (by omega)).mono ?_
    rintro e w4 ⟨b2, rfl, hbb, h4⟩
    obtain rfl : b2 = true := hbb.2 HL.out
    have hb4 := bel_tr hb3 h4
    replace Pb := Pb.below h4
    replace Cb := Cb.below h4
    replace Mb := Mb.below h4
    clear h4 hbb hb3 HL
    have p0 := Pb 0 _ rfl; have p1 := Pb 1 _ rfl; have p2 := Pb 2 _ rfl; have p3 := Pb 3 _ rfl; have p4 := Pb 4 _ rfl; have p5 := Pb 5 _ rfl; have p6 := Pb 6 _ rfl
    have c0 := Cb 0 _ rfl; have c1 := Cb 1 _ rfl; have c2 := Cb 2 _ rfl; have c3 := Cb 3 _ rfl; have c4 := Cb 4 _ rfl; have c5 := Cb 5 _ rfl; have c6 := Cb 6 _ rfl
    have m0 := Mb 0 _ rfl; have m1 := Mb 1 _ rfl; have m2 := Mb 2 _ rfl
    go_wp2_with fail
    clear p0 p1 p2 p3 p4 p5 p6 c0 c1 c2 c3 c4 c5 c6 m0 m1 m2
    refine (HB2 w4 hb4).mono ?_
    rintro e w5 ⟨rfl, h5⟩
    have hw := bel_tr hb4 h5
    clear h5 Pb Cb Mb hb4 HB2
    go_wp2
    go_ret
    exact ⟨rfl, hw⟩
set_option maxRecDepth 100000 in
set_option maxHeartbeats 32000000 in
/-- TopSound. -/
theorem topSound_walk (P : Prob) (C : Crt) {xa : Option Addr} {nx xc : Nat} {X : Nat → Rat} {Zx : Nat → Nat} {p : Bool} {a : Option Addr} {na ca : Nat} {d : Option Addr} {nd cd : Nat} {m : Rat} {Kx Km : Nat} (w : World) (hP : PQ w P) (hC : CQ w C) (hx : LQ w xa nx X Zx) (hzx : ∀ i, i < nx → 1 ≤ Zx i ∧ SzR (X i) (Zx i)) (htx : tot Zx nx ≤ Kx) (hm : TR w p a na ca d nd cd m Km) (hKm : 1 ≤ Km) (hK : P.K + C.K + Kx + Km ≤ 1048576) (hT : TB w) {eS eP eV eB eR eD : Value} (EH : EE w eS eP eV eB eR eD) :
    Calls Tryz.prog 4 #[P.val, C.val, .slice xa nx xc, .agg #[.bool p, .slice a na ca, .slice d nd cd]] w fun e w' => e = .returned (.bool true) ∧ Below w.heap.size w w' := by
  obtain ⟨_, pS, rfl⟩ := EH.s
  obtain ⟨_, pP, rfl⟩ := EH.p
  obtain ⟨_, pV, rfl⟩ := EH.v
  obtain ⟨_, pB, rfl⟩ := EH.b
  obtain ⟨_, pR, rfl⟩ := EH.r
  obtain ⟨_, pD, rfl⟩ := EH.d
  have HTL := fun w1 (hb : Below w.heap.size w w1) => tellsT P C (xc := xc) w1 (hP.below hb) (hC.below hb) (hx.below hb) hzx htx (hm.below hb) hKm hK
  have HCK := fun w1 (hb : Below w.heap.size w w1) => chkA P C w1 (hP.below hb) (hC.below hb) (by omega) (hT.below hb) (EH.below hb)
  unfold Prob.val Crt.val at *
  obtain ⟨Pb, Cb, Mb, hb0, hs0⟩ := boxc3 w #[.bool P.mx, .string P.nm, .bool P.p, .slice P.a P.na P.ca, .slice P.d P.nd P.cd, .slice P.va P.vn P.vc, .slice P.ra P.rn P.rc] 31 #[.int .i64 C.vd, .bool C.p, .slice C.a C.na C.ca, .slice C.d C.nd C.cd, .slice C.xa C.xn C.xc, .slice C.ya C.yn C.yc, .slice C.za C.zn C.zc] 34 #[.bool p, .slice a na ca, .slice d nd cd] 27
  go_enter Tryz.func4, Tryz.ntmps4
  go_wp2_with fail
  generalize ((w.alloc (.cells #[.bool P.mx, .string P.nm, .bool P.p, .slice P.a P.na P.ca, .slice P.d P.nd P.cd, .slice P.va P.vn P.vc, .slice P.ra P.rn P.rc] 31)).alloc (.cells #[.int .i64 C.vd, .bool C.p, .slice C.a C.na C.ca, .slice C.d C.nd C.cd, .slice C.xa C.xn C.xc, .slice C.ya C.yn C.yc, .slice C.za C.zn C.zc] 34)).alloc (.cells #[.bool p, .slice a na ca, .slice d nd cd] 27) = W0 at *
  refine (awakeT W0 (hT.below hb0) (EH.below hb0)).mono ?_
  rintro e w1 ⟨rfl, h1⟩
  have hb1 := bel_tr hb0 h1
  replace Pb := Pb.below h1
  replace Cb := Cb.below h1
  replace Mb := Mb.below h1
  clear h1 hb0 EH hT hP hC hx hzx htx hm
  have p0 := Pb 0 _ rfl; have p1 := Pb 1 _ rfl; have p2 := Pb 2 _ rfl; have p3 := Pb 3 _ rfl; have p4 := Pb 4 _ rfl; have p5 := Pb 5 _ rfl; have p6 := Pb 6 _ rfl
  have c0 := Cb 0 _ rfl; have c1 := Cb 1 _ rfl; have c2 := Cb 2 _ rfl; have c3 := Cb 3 _ rfl; have c4 := Cb 4 _ rfl; have c5 := Cb 5 _ rfl; have c6 := Cb 6 _ rfl
  go_wp2_with fail
  clear p0 p1 p2 p3 p4 p5 p6 c0 c1 c2 c3 c4 c5 c6
  refine (HCK w1 hb1).mono ?_
  rintro e w2 ⟨h2, hh⟩
  have hb2 := bel_tr hb1 h2
  replace Pb := Pb.below h2
  replace Cb := Cb.below h2
  replace Mb := Mb.below h2
  clear h2 hb1 HCK
  rcases hh with ⟨v, rfl, hv⟩ | ⟨rfl, hS⟩
  · rcases hv with rfl | rfl | rfl | rfl | rfl | rfl <;>
    · clear Pb Cb Mb HTL
      go_wp2
      go_ret
      exact ⟨rfl, hb2⟩
  · have HB2 := fun w1 hb => HTL w1 hb hS
    have p0 := Pb 0 _ rfl; have p1 := Pb 1 _ rfl; have p2 := Pb 2 _ rfl; have p3 := Pb 3 _ rfl; have p4 := Pb 4 _ rfl; have p5 := Pb 5 _ rfl; have p6 := Pb 6 _ rfl
    have c0 := Cb 0 _ rfl; have c1 := Cb 1 _ rfl; have c2 := Cb 2 _ rfl; have c3 := Cb 3 _ rfl; have c4 := Cb 4 _ rfl; have c5 := Cb 5 _ rfl; have c6 := Cb 6 _ rfl
    have m0 := Mb 0 _ rfl; have m1 := Mb 1 _ rfl; have m2 := Mb 2 _ rfl
    clear hS HTL
    go_wp2_with fail
    clear p0 p1 p2 p3 p4 p5 p6 c0 c1 c2 c3 c4 c5 c6 m0 m1 m2
    refine (HB2 w2 hb2).mono ?_
    rintro e w3 ⟨rfl, h3⟩
    have hw := bel_tr hb2 h3
    clear h3 Pb Cb Mb hb2 HB2
    go_wp2
    go_ret
    exact ⟨rfl, hw⟩
end Go.Proofs.YtcocjcjjlgcbcaaGreatDoor

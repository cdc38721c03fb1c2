import Derived.Test.YtkgnbcbcgnlodaaGreatDoorDuD
import Derived.Test.YtkgnbcbcgnlodaaGreatDoorTwB
namespace Go.Proofs.YtkgnbcbcgnlodaaGreatDoor
open Go.RowKit

/-- A row of a dual, term by term. -/
theorem DL.row_sz {w : World} {P Q : Prob} (h : DL P Q) (hQ : PQ w Q) {n Kx : Nat} {X : Nat → Rat} {Dx : Int} (dx1 : 0 < Dx) (dx2 : Dx < pw Kx) (dx3 : ∀ j, j < n → Wd Kx Dx (X j)) (hK : P.K ≤ 1048576) : ∀ i k, i < Q.rn → k ≤ (Q.R i).nt → SzR (rsum (tv (Q.R i) (xn X n) Q.vn) k) (2 * P.K + 100 + Kx + 1) := by
  intro i k hi hk
  obtain ⟨b, o, hR⟩ := hQ.row hi
  obtain ⟨a, cap, Z, _, h2, h3, _⟩ := hR.terms
  obtain ⟨D, d1, d2, d3⟩ := Wd.list (X := fun k => ((Q.R i).t k).coef) h2.sz (Nat.le_trans h3 (h.zr i hi))
  have hl := tot_len Z (Q.R i).nt
  have hz := h.zr i hi
  have q := mul_pw (Int.le_of_lt d1) d2 (Int.le_of_lt dx1) dx2
  have h4 := Wd.sum (Y := tv (Q.R i) (xn X n) Q.vn) (n := (Q.R i).nt) (Int.mul_pos d1 dx1) q.1 (fun j hj => by
    unfold tv
    split
    · exact (d3 j hj).mul (Wd.xn dx1 dx2 dx3 _)
    · exact Wd.zero (Int.mul_pos d1 dx1) q.1) (by omega) k hk
  exact h4.sz (by omega)
theorem DL.val_sz {P Q : Prob} (h : DL P Q) (hs : SzR P.k P.S) {n Kx : Nat} {X : Nat → Rat} {Dx : Int} (dx1 : 0 < Dx) (dx2 : Dx < pw Kx) (dx3 : ∀ j, j < n → Wd Kx Dx (X j)) : ∀ k, k ≤ Q.vn + 1 → SzR (rsum (prt Q.k Q.V (xn X n)) k) (P.S + (2 * P.K + Kx) + 1) := by
  intro k hk
  obtain ⟨Do, o1, o2, o3⟩ := h.obj
  have hvn := h.hk.vn
  have hs := Wd.self hs
  have k1 := hs.1
  have k2 := hs.2.1
  rw [h.k]
  generalize (P.k.den : Int) = Dk at *
  have q := mul_pw (Int.le_of_lt o1) o2 (Int.le_of_lt dx1) dx2
  have q0 : 0 < Do * Dx := Int.mul_pos o1 dx1
  have q2 := mul_pw (Int.le_of_lt k1) k2 q.2 q.1
  have h4 := Wd.sum (Y := prt P.k Q.V (xn X n)) (n := Q.vn + 1) (D := Dk * (Do * Dx)) (Int.mul_pos k1 q0) q2.1 (fun j hj => by
    cases j with
    | zero => exact (hs.lift q0 q.1)
    | succ j => exact ((o3 j (by omega)).mul (Wd.xn dx1 dx2 dx3 _)).lift' k1 k2) (by omega) k hk
  exact h4.sz (by omega)
/-- The document's Holds of a dual. -/
theorem holdDL {P Q : Prob} (h : DL P Q) {xa : Option Addr} {nx xc : Nat} {X : Nat → Rat} {Zx : Nat → Nat} {Kx : Nat} (w : World) (hQ : PQ w Q) (hx : LQ w xa nx X Zx) (hzx : ∀ i, i < nx → 1 ≤ Zx i ∧ SzR (X i) (Zx i)) (htx : tot Zx nx ≤ Kx) (hK : P.K + Kx ≤ 1048576) :
    Calls Tryz.prog 15 #[Q.val, .slice xa nx xc] w fun e w' => ∃ b, e = .returned (.bool b) ∧ (b = true ↔ Hlds Q nx X) ∧ Below w.heap.size w w' := by
  obtain ⟨Dx, dx1, dx2, dx3⟩ := Wd.list (fun i hi => (hzx i hi).2) htx
  have hZx : ∀ j, j < nx → Zx j ≤ Kx := fun j hj => by have := tot_le (Z := Zx) hj; omega
  have hk1 := tot_pos Zx nx
  exact holdsDn Q (T := 2 * P.K + 100 + Kx + 1) (S := 2 * P.K + 100 + Kx) (U := Kx) w hQ hx (fun j hj => ⟨(hzx j hj).1, hZx j hj⟩) ⟨by omega, by omega⟩ (fun i hi => by have := h.zr i hi; omega) (by omega) ⟨by omega, by omega⟩ h.hk (fun i k hi hk => h.row_sz hQ dx1 dx2 dx3 (by omega) i k hi hk)
/-- The document's Value of a dual. -/
theorem valDL {P Q : Prob} (h : DL P Q) (hs : SzR P.k P.S ∧ 1 ≤ P.S ∧ P.S ≤ P.K) {xa : Option Addr} {nx xc : Nat} {X : Nat → Rat} {Zx : Nat → Nat} {Ky : Nat} (w : World) (hQ : PQ w Q) (hx : LQ w xa nx X Zx) (hzx : ∀ i, i < nx → 1 ≤ Zx i ∧ SzR (X i) (Zx i)) (htx : tot Zx nx ≤ Ky) (hK : P.K + Ky ≤ 1048576) :
    Calls Tryz.prog 17 #[Q.val, .slice xa nx xc] w fun e w' => ∃ f c n1 k1 c' n' k', e = .returned (.agg #[.bool f, .slice c n1 k1, .slice c' n' k']) ∧ GR w' w.heap.size f c n1 k1 c' n' k' (vlu Q (xn X nx)) 3145740 ∧ Below w.heap.size w w' := by
  obtain ⟨Dx, dx1, dx2, dx3⟩ := Wd.list (fun i hi => (hzx i hi).2) htx
  have hk1 := tot_pos Zx nx
  have hZx : ∀ j, j < nx → Zx j ≤ Ky := fun j hj => by have := tot_le (Z := Zx) hj; omega
  have hQS : Q.S = P.S := h.S
  exact valueD Q (T := 3145740) (S := 1100000 + Ky) (U := Ky) w hQ hx (fun j hj => ⟨(hzx j hj).1, hZx j hj⟩) ⟨by omega, by omega⟩ (fun j hj => by have := h.hk.ZV j hj; omega) (by omega) (by omega) (by omega) h.hk.vn (fun q hq => (h.val_sz hs.1 dx1 dx2 dx3 q hq).le (by omega))
set_option maxRecDepth 100000 in
set_option maxHeartbeats 16000000 in
/-- TopWeak -/
theorem topWeak_walk (P : Prob) {xa : Option Addr} {nx xc : Nat} {X : Nat → Rat} {Zx : Nat → Nat} {ya : Option Addr} {ny yc : Nat} {Y : Nat → Rat} {Zy : Nat → Nat} {Kx Ky : Nat} (w : World) (hP : PQ w P) (hx : LQ w xa nx X Zx) (hzx : ∀ i, i < nx → 1 ≤ Zx i ∧ SzR (X i) (Zx i)) (htx : tot Zx nx ≤ Kx) (hy : LQ w ya ny Y Zy) (hzy : ∀ i, i < ny → 1 ≤ Zy i ∧ SzR (Y i) (Zy i)) (hty : tot Zy ny ≤ Ky) (hK : P.K + Kx + Ky ≤ 1048576) (hT : TB w) (hTP : TP w) :
    Calls Tryz.prog 4 #[P.val, .slice xa nx xc, .slice ya ny yc] w fun e w' => e = .returned (.bool true) ∧ Below w.heap.size w w' := by
  have hPs : SzR P.k P.S ∧ 1 ≤ P.S ∧ P.S ≤ P.K := ⟨hP.sk, hP.s1, by have := hP.all; omega⟩
  have Pb := box_new w #[.bool P.mx, .string P.nm, .bool P.p, .slice P.a P.na P.ca, .slice P.d P.nd P.cd, .slice P.va P.vn P.vc, .slice P.ra P.rn P.rc] 31
  have hb0 := bel_d0 w (.cells #[.bool P.mx, .string P.nm, .bool P.p, .slice P.a P.na P.ca, .slice P.d P.nd P.cd, .slice P.va P.vn P.vc, .slice P.ra P.rn P.rc] 31)
  have hs0 : (w.alloc (.cells #[.bool P.mx, .string P.nm, .bool P.p, .slice P.a P.na P.ca, .slice P.d P.nd P.cd, .slice P.va P.vn P.vc, .slice P.ra P.rn P.rc] 31)).heap.size = w.heap.size + 1 := by simp
  have x0 := Pb 0 _ rfl; have x1 := Pb 1 _ rfl; have x2 := Pb 2 _ rfl; have x3 := Pb 3 _ rfl; have x4 := Pb 4 _ rfl; have x5 := Pb 5 _ rfl; have x6 := Pb 6 _ rfl
  unfold Prob.val
  go_enter Tryz.func4, Tryz.ntmps4
  go_wp2_with fail
  clear x0 x1 x2 x3 x4 x5 x6
  generalize w.alloc (.cells #[.bool P.mx, .string P.nm, .bool P.p, .slice P.a P.na P.ca, .slice P.d P.nd P.cd, .slice P.va P.vn P.vc, .slice P.ra P.rn P.rc] 31) = W0 at *
  refine (dualQ P W0 (hP.below hb0) (by omega) (hT.below hb0) (hTP.below hb0)).mono ?_
  rintro e w1 ⟨Q, rfl, hQ, hDL, hk1⟩
  have hb1 := bel_tr hb0 hk1
  have hz := bel_d0 w1 (.cells #[.bool Q.mx, .string Q.nm, .bool Q.p, .slice Q.a Q.na Q.ca, .slice Q.d Q.nd Q.cd, .slice Q.va Q.vn Q.vc, .slice Q.ra Q.rn Q.rc] 31)
  have Qb := box_new w1 #[.bool Q.mx, .string Q.nm, .bool Q.p, .slice Q.a Q.na Q.ca, .slice Q.d Q.nd Q.cd, .slice Q.va Q.vn Q.vc, .slice Q.ra Q.rn Q.rc] 31
  replace Pb := (Pb.below hk1).below hz
  replace hQ := hQ.below hz
  have hb2 := bel_tr hb1 hz
  have hmx := hDL.mx
  have hrn := hDL.rn
  have HMX : Hid (Q.mx = !P.mx) := hmx
  obtain ⟨qm, eqm⟩ : ∃ qm, qm = Q.mx := ⟨_, rfl⟩
  have hmn : (Q.mx == P.mx) = false := by rw [hmx]; cases P.mx <;> rfl
  have hrI : (Q.rn : Int) = (P.vn : Int) := by omega
  have HDL : Hid (DL P Q) := hDL
  have x0 := Pb 0 _ rfl; have x1 := Pb 1 _ rfl; have x2 := Pb 2 _ rfl; have x3 := Pb 3 _ rfl; have x4 := Pb 4 _ rfl; have x5 := Pb 5 _ rfl; have x6 := Pb 6 _ rfl
  have y0 := Qb 0 _ rfl; have y1 := Qb 1 _ rfl; have y2 := Qb 2 _ rfl; have y3 := Qb 3 _ rfl; have y4 := Qb 4 _ rfl; have y5 := Qb 5 _ rfl; have y6 := Qb 6 _ rfl
  clear hmx hrn eqm qm
  go_wp2_with fail
  clear x0 y0 x1 y1 x2 y2 x3 y3 x4 y4 x5 y5 x6 y6 hmn hrI
  generalize w1.alloc (.cells #[.bool Q.mx, .string Q.nm, .bool Q.p, .slice Q.a Q.na Q.ca, .slice Q.d Q.nd Q.cd, .slice Q.va Q.vn Q.vc, .slice Q.ra Q.rn Q.rc] 31) = W2 at *
  refine (holdD2 P (Kx := Kx) W2 (hP.below hb2) (hx.below hb2) hzx htx (by omega)).mono ?_
  rintro e w3 ⟨b1, rfl, hh1, hk3⟩
  have HH1 : Hid (b1 = true ↔ Hlds P nx X) := hh1
  have hb3 := bel_tr hb2 hk3
  replace Pb := Pb.below hk3
  replace Qb := Qb.below hk3
  replace hQ := hQ.below hk3
  have x0 := Pb 0 _ rfl; have x1 := Pb 1 _ rfl; have x2 := Pb 2 _ rfl; have x3 := Pb 3 _ rfl; have x4 := Pb 4 _ rfl; have x5 := Pb 5 _ rfl; have x6 := Pb 6 _ rfl
  have y0 := Qb 0 _ rfl; have y1 := Qb 1 _ rfl; have y2 := Qb 2 _ rfl; have y3 := Qb 3 _ rfl; have y4 := Qb 4 _ rfl; have y5 := Qb 5 _ rfl; have y6 := Qb 6 _ rfl
  clear hh1 hk3 hz
  go_wp2_with fail
  clear x0 y0 x1 y1 x2 y2 x3 y3 x4 y4 x5 y5 x6 y6
  refine (holdDL hDL (Kx := Ky) w3 hQ (hy.below hb3) hzy hty (by omega)).mono ?_
  rintro e w4 ⟨b2, rfl, hh2, hk4⟩
  have HH2 : Hid (b2 = true ↔ Hlds Q ny Y) := hh2
  have hb4 := bel_tr hb3 hk4
  replace Pb := Pb.below hk4
  replace Qb := Qb.below hk4
  have hQ4 := hQ.below hk4
  clear hh2 hk4 hQ hb3 hb2 hk1
  go_wp2_with fail
  have HBX : ∀ w', Below w4.heap.size w4 w' → (w'.cell? ⟨w.heap.size, 0, none⟩ = some (.bool P.mx) ∧ w'.cell? ⟨w.heap.size, 1, none⟩ = some (.string P.nm) ∧ w'.cell? ⟨w.heap.size, 2, none⟩ = some (.bool P.p) ∧ w'.cell? ⟨w.heap.size, 3, none⟩ = some (.slice P.a P.na P.ca) ∧ w'.cell? ⟨w.heap.size, 4, none⟩ = some (.slice P.d P.nd P.cd) ∧ w'.cell? ⟨w.heap.size, 5, none⟩ = some (.slice P.va P.vn P.vc) ∧ w'.cell? ⟨w.heap.size, 6, none⟩ = some (.slice P.ra P.rn P.rc) ∧ w'.cell? ⟨w1.heap.size, 0, none⟩ = some (.bool Q.mx) ∧ w'.cell? ⟨w1.heap.size, 1, none⟩ = some (.string Q.nm) ∧ w'.cell? ⟨w1.heap.size, 2, none⟩ = some (.bool Q.p) ∧ w'.cell? ⟨w1.heap.size, 3, none⟩ = some (.slice Q.a Q.na Q.ca) ∧ w'.cell? ⟨w1.heap.size, 4, none⟩ = some (.slice Q.d Q.nd Q.cd) ∧ w'.cell? ⟨w1.heap.size, 5, none⟩ = some (.slice Q.va Q.vn Q.vc) ∧ w'.cell? ⟨w1.heap.size, 6, none⟩ = some (.slice Q.ra Q.rn Q.rc)) := fun w' h => ⟨(Pb.below h) 0 _ rfl, (Pb.below h) 1 _ rfl, (Pb.below h) 2 _ rfl, (Pb.below h) 3 _ rfl, (Pb.below h) 4 _ rfl, (Pb.below h) 5 _ rfl, (Pb.below h) 6 _ rfl, (Qb.below h) 0 _ rfl, (Qb.below h) 1 _ rfl, (Qb.below h) 2 _ rfl, (Qb.below h) 3 _ rfl, (Qb.below h) 4 _ rfl, (Qb.below h) 5 _ rfl, (Qb.below h) 6 _ rfl⟩
  cases b1
  · refine wp_region_noPanic (wp_region_guard (fun _ w' => w'.cell? ⟨w.heap.size, 0, none⟩ = some (.bool P.mx) ∧ w'.cell? ⟨w.heap.size, 1, none⟩ = some (.string P.nm) ∧ w'.cell? ⟨w.heap.size, 2, none⟩ = some (.bool P.p) ∧ w'.cell? ⟨w.heap.size, 3, none⟩ = some (.slice P.a P.na P.ca) ∧ w'.cell? ⟨w.heap.size, 4, none⟩ = some (.slice P.d P.nd P.cd) ∧ w'.cell? ⟨w.heap.size, 5, none⟩ = some (.slice P.va P.vn P.vc) ∧ w'.cell? ⟨w.heap.size, 6, none⟩ = some (.slice P.ra P.rn P.rc) ∧ w'.cell? ⟨w1.heap.size, 0, none⟩ = some (.bool Q.mx) ∧ w'.cell? ⟨w1.heap.size, 1, none⟩ = some (.string Q.nm) ∧ w'.cell? ⟨w1.heap.size, 2, none⟩ = some (.bool Q.p) ∧ w'.cell? ⟨w1.heap.size, 3, none⟩ = some (.slice Q.a Q.na Q.ca) ∧ w'.cell? ⟨w1.heap.size, 4, none⟩ = some (.slice Q.d Q.nd Q.cd) ∧ w'.cell? ⟨w1.heap.size, 5, none⟩ = some (.slice Q.va Q.vn Q.vc) ∧ w'.cell? ⟨w1.heap.size, 6, none⟩ = some (.slice Q.ra Q.rn Q.rc)) (by as_aux_lemma => kernel_rfl) ?_)
    have hc0 : Below w4.heap.size w4 w4.drew := bel_d1 _
    generalize w4.drew = z0 at *
    refine wpAnyG.take 0 (v := .bool false) (by decide) (by as_aux_lemma => kernel_rfl) (fun _ _ _ h => h) 17 _ (by rfl) (fun _ _ => Iff.rfl) (fun _ _ _ h => h) (by as_aux_lemma => kernel_rfl) (by as_aux_lemma => kernel_rfl) (by as_aux_lemma => kernel_rfl) (by rfl) ?y0 (HBX _ hc0) (by rfl) ?_
    case y0 =>
      rintro w' ⟨q0, q1, q2, q3, q4, q5, q6, q7, q8, q9, q10, q11, q12, q13⟩
      simp only [List.getElem_toArray, List.getElem_cons_zero]
      go_simp
    simp only [List.getElem_toArray, List.getElem_cons_zero, Act.put, List.setIfInBounds_toArray, List.set_cons_zero, List.set_cons_succ]
    refine wpAnyG.take 1 (v := .bool true) (by decide) (by as_aux_lemma => kernel_rfl) (fun _ _ _ h => h) 17 _ (by rfl) (fun _ _ => Iff.rfl) (fun _ _ _ h => h) (by as_aux_lemma => kernel_rfl) (by as_aux_lemma => kernel_rfl) (by as_aux_lemma => kernel_rfl) (by rfl) ?y1 (HBX _ hc0) (by rfl) ?_
    case y1 =>
      rintro w' ⟨q0, q1, q2, q3, q4, q5, q6, q7, q8, q9, q10, q11, q12, q13⟩
      simp only [List.getElem_toArray, List.getElem_cons_zero, List.getElem_cons_succ]
      go_simp
    simp only [List.getElem_toArray, List.getElem_cons_zero, List.getElem_cons_succ, Act.put, List.setIfInBounds_toArray, List.set_cons_zero, List.set_cons_succ]
    refine wpAnyG.take 2 (v := .bool true) (by decide) (by as_aux_lemma => kernel_rfl) (fun _ _ _ h => h) 17 _ (by rfl) (fun _ _ => Iff.rfl) (fun _ _ _ h => h) (by as_aux_lemma => kernel_rfl) (by as_aux_lemma => kernel_rfl) (by as_aux_lemma => kernel_rfl) (by rfl) ?y2 (HBX _ hc0) (by rfl) ?_
    case y2 =>
      rintro w' ⟨q0, q1, q2, q3, q4, q5, q6, q7, q8, q9, q10, q11, q12, q13⟩
      simp only [List.getElem_toArray, List.getElem_cons_zero, List.getElem_cons_succ]
      go_simp
    simp only [List.getElem_toArray, List.getElem_cons_zero, List.getElem_cons_succ, Act.put, List.setIfInBounds_toArray, List.set_cons_zero, List.set_cons_succ]
    refine wpAnyG.skip 3 (by decide) (by as_aux_lemma => kernel_rfl) (fun _ _ _ h => h) 17 (by rfl) (fun _ _ => Iff.rfl) (by as_aux_lemma => kernel_rfl) (by as_aux_lemma => kernel_rfl) (by as_aux_lemma => kernel_rfl) (by rfl) (HBX _ hc0) (by rfl) ?_
    simp only [List.getElem_toArray, List.getElem_cons_zero, List.getElem_cons_succ, Act.put, List.setIfInBounds_toArray, List.set_cons_zero, List.set_cons_succ]
    refine wpAnyG.skip 4 (by decide) (by as_aux_lemma => kernel_rfl) (fun _ _ _ h => h) 17 (by rfl) (fun _ _ => Iff.rfl) (by as_aux_lemma => kernel_rfl) (by as_aux_lemma => kernel_rfl) (by as_aux_lemma => kernel_rfl) (by rfl) (HBX _ hc0) (by rfl) ?_
    simp only [List.getElem_toArray, List.getElem_cons_zero, List.getElem_cons_succ, Act.put, List.setIfInBounds_toArray, List.set_cons_zero, List.set_cons_succ]
    refine wpAnyG.take 5 (v := .bool true) (by decide) (by as_aux_lemma => kernel_rfl) (fun _ _ _ h => h) 17 _ (by rfl) (fun _ _ => Iff.rfl) (fun _ _ _ h => h) (by as_aux_lemma => kernel_rfl) (by as_aux_lemma => kernel_rfl) (by as_aux_lemma => kernel_rfl) (by rfl) ?y5 (HBX _ hc0) (by rfl) ?_
    case y5 =>
      rintro w' ⟨q0, q1, q2, q3, q4, q5, q6, q7, q8, q9, q10, q11, q12, q13⟩
      simp only [List.getElem_toArray, List.getElem_cons_zero, List.getElem_cons_succ]
      go_simp
    simp only [List.getElem_toArray, List.getElem_cons_zero, List.getElem_cons_succ, Act.put, List.setIfInBounds_toArray, List.set_cons_zero, List.set_cons_succ]
    refine wpAnyG.take 6 (v := .bool true) (by decide) (by as_aux_lemma => kernel_rfl) (fun _ _ _ h => h) 17 _ (by rfl) (fun _ _ => Iff.rfl) (fun _ _ _ h => h) (by as_aux_lemma => kernel_rfl) (by as_aux_lemma => kernel_rfl) (by as_aux_lemma => kernel_rfl) (by rfl) ?y6 (HBX _ hc0) (by rfl) ?_
    case y6 =>
      rintro w' ⟨q0, q1, q2, q3, q4, q5, q6, q7, q8, q9, q10, q11, q12, q13⟩
      simp only [List.getElem_toArray, List.getElem_cons_zero, List.getElem_cons_succ]
      go_simp
    simp only [List.getElem_toArray, List.getElem_cons_zero, List.getElem_cons_succ, Act.put, List.setIfInBounds_toArray, List.set_cons_zero, List.set_cons_succ]
    refine wpAnyG.skip 7 (by decide) (by as_aux_lemma => kernel_rfl) (fun _ _ _ h => h) 17 (by rfl) (fun _ _ => Iff.rfl) (by as_aux_lemma => kernel_rfl) (by as_aux_lemma => kernel_rfl) (by as_aux_lemma => kernel_rfl) (by rfl) (HBX _ hc0) (by rfl) ?_
    simp only [List.getElem_toArray, List.getElem_cons_zero, List.getElem_cons_succ, Act.put, List.setIfInBounds_toArray, List.set_cons_zero, List.set_cons_succ]
    refine wpAnyG.skip 8 (by decide) (by as_aux_lemma => kernel_rfl) (fun _ _ _ h => h) 17 (by rfl) (fun _ _ => Iff.rfl) (by as_aux_lemma => kernel_rfl) (by as_aux_lemma => kernel_rfl) (by as_aux_lemma => kernel_rfl) (by rfl) (HBX _ hc0) (by rfl) ?_
    simp only [List.getElem_toArray, List.getElem_cons_zero, List.getElem_cons_succ, Act.put, List.setIfInBounds_toArray, List.set_cons_zero, List.set_cons_succ]
    refine wpAnyG.skip 9 (by decide) (by as_aux_lemma => kernel_rfl) (fun _ _ _ h => h) 17 (by rfl) (fun _ _ => Iff.rfl) (by as_aux_lemma => kernel_rfl) (by as_aux_lemma => kernel_rfl) (by as_aux_lemma => kernel_rfl) (by rfl) (HBX _ hc0) (by rfl) ?_
    simp only [List.getElem_toArray, List.getElem_cons_zero, List.getElem_cons_succ, Act.put, List.setIfInBounds_toArray, List.set_cons_zero, List.set_cons_succ]
    refine wpAnyG.skip 10 (by decide) (by as_aux_lemma => kernel_rfl) (fun _ _ _ h => h) 17 (by rfl) (fun _ _ => Iff.rfl) (by as_aux_lemma => kernel_rfl) (by as_aux_lemma => kernel_rfl) (by as_aux_lemma => kernel_rfl) (by rfl) (HBX _ hc0) (by rfl) ?_
    simp only [List.getElem_toArray, List.getElem_cons_zero, List.getElem_cons_succ, Act.put, List.setIfInBounds_toArray, List.set_cons_zero, List.set_cons_succ]
    refine wpAnyG.skip 11 (by decide) (by as_aux_lemma => kernel_rfl) (fun _ _ _ h => h) 17 (by rfl) (fun _ _ => Iff.rfl) (by as_aux_lemma => kernel_rfl) (by as_aux_lemma => kernel_rfl) (by as_aux_lemma => kernel_rfl) (by rfl) (HBX _ hc0) (by rfl) ?_
    simp only [List.getElem_toArray, List.getElem_cons_zero, List.getElem_cons_succ, Act.put, List.setIfInBounds_toArray, List.set_cons_zero, List.set_cons_succ]
    refine wpAnyG.skip 12 (by decide) (by as_aux_lemma => kernel_rfl) (fun _ _ _ h => h) 17 (by rfl) (fun _ _ => Iff.rfl) (by as_aux_lemma => kernel_rfl) (by as_aux_lemma => kernel_rfl) (by as_aux_lemma => kernel_rfl) (by rfl) (HBX _ hc0) (by rfl) ?_
    simp only [List.getElem_toArray, List.getElem_cons_zero, List.getElem_cons_succ, Act.put, List.setIfInBounds_toArray, List.set_cons_zero, List.set_cons_succ]
    refine wpAnyG.skip 13 (by decide) (by as_aux_lemma => kernel_rfl) (fun _ _ _ h => h) 17 (by rfl) (fun _ _ => Iff.rfl) (by as_aux_lemma => kernel_rfl) (by as_aux_lemma => kernel_rfl) (by as_aux_lemma => kernel_rfl) (by rfl) (HBX _ hc0) (by rfl) ?_
    simp only [List.getElem_toArray, List.getElem_cons_zero, List.getElem_cons_succ, Act.put, List.setIfInBounds_toArray, List.set_cons_zero, List.set_cons_succ]
    refine wpAnyG.skip 14 (by decide) (by as_aux_lemma => kernel_rfl) (fun _ _ _ h => h) 17 (by rfl) (fun _ _ => Iff.rfl) (by as_aux_lemma => kernel_rfl) (by as_aux_lemma => kernel_rfl) (by as_aux_lemma => kernel_rfl) (by rfl) (HBX _ hc0) (by rfl) ?_
    simp only [List.getElem_toArray, List.getElem_cons_zero, List.getElem_cons_succ, Act.put, List.setIfInBounds_toArray, List.set_cons_zero, List.set_cons_succ]
    refine wpAnyG.skip 15 (by decide) (by as_aux_lemma => kernel_rfl) (fun _ _ _ h => h) 17 (by rfl) (fun _ _ => Iff.rfl) (by as_aux_lemma => kernel_rfl) (by as_aux_lemma => kernel_rfl) (by as_aux_lemma => kernel_rfl) (by rfl) (HBX _ hc0) (by rfl) ?_
    simp only [List.getElem_toArray, List.getElem_cons_zero, List.getElem_cons_succ, Act.put, List.setIfInBounds_toArray, List.set_cons_zero, List.set_cons_succ]
    refine wpAnyG.take 16 (v := .bool true) (by decide) (by as_aux_lemma => kernel_rfl) (fun _ _ _ h => h) 17 _ (by rfl) (fun _ _ => Iff.rfl) (fun _ _ _ h => h) (by as_aux_lemma => kernel_rfl) (by as_aux_lemma => kernel_rfl) (by as_aux_lemma => kernel_rfl) (by rfl) ?y16 (HBX _ hc0) (by rfl) ?_
    case y16 =>
      rintro w' ⟨q0, q1, q2, q3, q4, q5, q6, q7, q8, q9, q10, q11, q12, q13⟩
      simp only [List.getElem_toArray, List.getElem_cons_zero, List.getElem_cons_succ]
      go_simp
    simp only [List.getElem_toArray, List.getElem_cons_zero, List.getElem_cons_succ, Act.put, List.setIfInBounds_toArray, List.set_cons_zero, List.set_cons_succ]
    refine wpAnyG.one 17 (by as_aux_lemma => kernel_rfl) (by decide) (by rfl) (fun K hK => ?_)
    simp only [List.getElem_toArray, List.getElem_cons_zero, List.getElem_cons_succ]
    go_simp
    refine hK _ _ (HBX _ hc0) ?_
    clear hK K
    refine wpAnyG.done (by as_aux_lemma => kernel_rfl) (NoPanic.normal ?_)
    have hbE := bel_tr hb4 hc0
    go_wp2
    go_ret
    exact ⟨rfl, hbE⟩
  · cases b2
    · refine wp_region_noPanic (wp_region_guard (fun _ w' => w'.cell? ⟨w.heap.size, 0, none⟩ = some (.bool P.mx) ∧ w'.cell? ⟨w.heap.size, 1, none⟩ = some (.string P.nm) ∧ w'.cell? ⟨w.heap.size, 2, none⟩ = some (.bool P.p) ∧ w'.cell? ⟨w.heap.size, 3, none⟩ = some (.slice P.a P.na P.ca) ∧ w'.cell? ⟨w.heap.size, 4, none⟩ = some (.slice P.d P.nd P.cd) ∧ w'.cell? ⟨w.heap.size, 5, none⟩ = some (.slice P.va P.vn P.vc) ∧ w'.cell? ⟨w.heap.size, 6, none⟩ = some (.slice P.ra P.rn P.rc) ∧ w'.cell? ⟨w1.heap.size, 0, none⟩ = some (.bool Q.mx) ∧ w'.cell? ⟨w1.heap.size, 1, none⟩ = some (.string Q.nm) ∧ w'.cell? ⟨w1.heap.size, 2, none⟩ = some (.bool Q.p) ∧ w'.cell? ⟨w1.heap.size, 3, none⟩ = some (.slice Q.a Q.na Q.ca) ∧ w'.cell? ⟨w1.heap.size, 4, none⟩ = some (.slice Q.d Q.nd Q.cd) ∧ w'.cell? ⟨w1.heap.size, 5, none⟩ = some (.slice Q.va Q.vn Q.vc) ∧ w'.cell? ⟨w1.heap.size, 6, none⟩ = some (.slice Q.ra Q.rn Q.rc)) (by as_aux_lemma => kernel_rfl) ?_)
      have hc0 : Below w4.heap.size w4 w4.drew := bel_d1 _
      generalize w4.drew = z0 at *
      refine wpAnyG.take 0 (v := .bool true) (by decide) (by as_aux_lemma => kernel_rfl) (fun _ _ _ h => h) 17 _ (by rfl) (fun _ _ => Iff.rfl) (fun _ _ _ h => h) (by as_aux_lemma => kernel_rfl) (by as_aux_lemma => kernel_rfl) (by as_aux_lemma => kernel_rfl) (by rfl) ?y0 (HBX _ hc0) (by rfl) ?_
      case y0 =>
        rintro w' ⟨q0, q1, q2, q3, q4, q5, q6, q7, q8, q9, q10, q11, q12, q13⟩
        simp only [List.getElem_toArray, List.getElem_cons_zero]
        go_simp
      simp only [List.getElem_toArray, List.getElem_cons_zero, Act.put, List.setIfInBounds_toArray, List.set_cons_zero, List.set_cons_succ]
      refine wpAnyG.take 1 (v := .bool false) (by decide) (by as_aux_lemma => kernel_rfl) (fun _ _ _ h => h) 17 _ (by rfl) (fun _ _ => Iff.rfl) (fun _ _ _ h => h) (by as_aux_lemma => kernel_rfl) (by as_aux_lemma => kernel_rfl) (by as_aux_lemma => kernel_rfl) (by rfl) ?y1 (HBX _ hc0) (by rfl) ?_
      case y1 =>
        rintro w' ⟨q0, q1, q2, q3, q4, q5, q6, q7, q8, q9, q10, q11, q12, q13⟩
        simp only [List.getElem_toArray, List.getElem_cons_zero, List.getElem_cons_succ]
        go_simp
      simp only [List.getElem_toArray, List.getElem_cons_zero, List.getElem_cons_succ, Act.put, List.setIfInBounds_toArray, List.set_cons_zero, List.set_cons_succ]
      refine wpAnyG.take 2 (v := .bool false) (by decide) (by as_aux_lemma => kernel_rfl) (fun _ _ _ h => h) 17 _ (by rfl) (fun _ _ => Iff.rfl) (fun _ _ _ h => h) (by as_aux_lemma => kernel_rfl) (by as_aux_lemma => kernel_rfl) (by as_aux_lemma => kernel_rfl) (by rfl) ?y2 (HBX _ hc0) (by rfl) ?_
      case y2 =>
        rintro w' ⟨q0, q1, q2, q3, q4, q5, q6, q7, q8, q9, q10, q11, q12, q13⟩
        simp only [List.getElem_toArray, List.getElem_cons_zero, List.getElem_cons_succ]
        go_simp
      simp only [List.getElem_toArray, List.getElem_cons_zero, List.getElem_cons_succ, Act.put, List.setIfInBounds_toArray, List.set_cons_zero, List.set_cons_succ]
      refine wpAnyG.take 3 (v := .bool false) (by decide) (by as_aux_lemma => kernel_rfl) (fun _ _ _ h => h) 17 _ (by rfl) (fun _ _ => Iff.rfl) (fun _ _ _ h => h) (by as_aux_lemma => kernel_rfl) (by as_aux_lemma => kernel_rfl) (by as_aux_lemma => kernel_rfl) (by rfl) ?y3 (HBX _ hc0) (by rfl) ?_
      case y3 =>
        rintro w' ⟨q0, q1, q2, q3, q4, q5, q6, q7, q8, q9, q10, q11, q12, q13⟩
        simp only [List.getElem_toArray, List.getElem_cons_zero, List.getElem_cons_succ]
        go_simp
      simp only [List.getElem_toArray, List.getElem_cons_zero, List.getElem_cons_succ, Act.put, List.setIfInBounds_toArray, List.set_cons_zero, List.set_cons_succ]
      refine wpAnyG.take 4 (v := .bool true) (by decide) (by as_aux_lemma => kernel_rfl) (fun _ _ _ h => h) 17 _ (by rfl) (fun _ _ => Iff.rfl) (fun _ _ _ h => h) (by as_aux_lemma => kernel_rfl) (by as_aux_lemma => kernel_rfl) (by as_aux_lemma => kernel_rfl) (by rfl) ?y4 (HBX _ hc0) (by rfl) ?_
      case y4 =>
        rintro w' ⟨q0, q1, q2, q3, q4, q5, q6, q7, q8, q9, q10, q11, q12, q13⟩
        simp only [List.getElem_toArray, List.getElem_cons_zero, List.getElem_cons_succ]
        go_simp
      simp only [List.getElem_toArray, List.getElem_cons_zero, List.getElem_cons_succ, Act.put, List.setIfInBounds_toArray, List.set_cons_zero, List.set_cons_succ]
      refine wpAnyG.take 5 (v := .bool true) (by decide) (by as_aux_lemma => kernel_rfl) (fun _ _ _ h => h) 17 _ (by rfl) (fun _ _ => Iff.rfl) (fun _ _ _ h => h) (by as_aux_lemma => kernel_rfl) (by as_aux_lemma => kernel_rfl) (by as_aux_lemma => kernel_rfl) (by rfl) ?y5 (HBX _ hc0) (by rfl) ?_
      case y5 =>
        rintro w' ⟨q0, q1, q2, q3, q4, q5, q6, q7, q8, q9, q10, q11, q12, q13⟩
        simp only [List.getElem_toArray, List.getElem_cons_zero, List.getElem_cons_succ]
        go_simp
      simp only [List.getElem_toArray, List.getElem_cons_zero, List.getElem_cons_succ, Act.put, List.setIfInBounds_toArray, List.set_cons_zero, List.set_cons_succ]
      refine wpAnyG.take 6 (v := .bool true) (by decide) (by as_aux_lemma => kernel_rfl) (fun _ _ _ h => h) 17 _ (by rfl) (fun _ _ => Iff.rfl) (fun _ _ _ h => h) (by as_aux_lemma => kernel_rfl) (by as_aux_lemma => kernel_rfl) (by as_aux_lemma => kernel_rfl) (by rfl) ?y6 (HBX _ hc0) (by rfl) ?_
      case y6 =>
        rintro w' ⟨q0, q1, q2, q3, q4, q5, q6, q7, q8, q9, q10, q11, q12, q13⟩
        simp only [List.getElem_toArray, List.getElem_cons_zero, List.getElem_cons_succ]
        go_simp
      simp only [List.getElem_toArray, List.getElem_cons_zero, List.getElem_cons_succ, Act.put, List.setIfInBounds_toArray, List.set_cons_zero, List.set_cons_succ]
      refine wpAnyG.skip 7 (by decide) (by as_aux_lemma => kernel_rfl) (fun _ _ _ h => h) 17 (by rfl) (fun _ _ => Iff.rfl) (by as_aux_lemma => kernel_rfl) (by as_aux_lemma => kernel_rfl) (by as_aux_lemma => kernel_rfl) (by rfl) (HBX _ hc0) (by rfl) ?_
      simp only [List.getElem_toArray, List.getElem_cons_zero, List.getElem_cons_succ, Act.put, List.setIfInBounds_toArray, List.set_cons_zero, List.set_cons_succ]
      refine wpAnyG.skip 8 (by decide) (by as_aux_lemma => kernel_rfl) (fun _ _ _ h => h) 17 (by rfl) (fun _ _ => Iff.rfl) (by as_aux_lemma => kernel_rfl) (by as_aux_lemma => kernel_rfl) (by as_aux_lemma => kernel_rfl) (by rfl) (HBX _ hc0) (by rfl) ?_
      simp only [List.getElem_toArray, List.getElem_cons_zero, List.getElem_cons_succ, Act.put, List.setIfInBounds_toArray, List.set_cons_zero, List.set_cons_succ]
      refine wpAnyG.skip 9 (by decide) (by as_aux_lemma => kernel_rfl) (fun _ _ _ h => h) 17 (by rfl) (fun _ _ => Iff.rfl) (by as_aux_lemma => kernel_rfl) (by as_aux_lemma => kernel_rfl) (by as_aux_lemma => kernel_rfl) (by rfl) (HBX _ hc0) (by rfl) ?_
      simp only [List.getElem_toArray, List.getElem_cons_zero, List.getElem_cons_succ, Act.put, List.setIfInBounds_toArray, List.set_cons_zero, List.set_cons_succ]
      refine wpAnyG.skip 10 (by decide) (by as_aux_lemma => kernel_rfl) (fun _ _ _ h => h) 17 (by rfl) (fun _ _ => Iff.rfl) (by as_aux_lemma => kernel_rfl) (by as_aux_lemma => kernel_rfl) (by as_aux_lemma => kernel_rfl) (by rfl) (HBX _ hc0) (by rfl) ?_
      simp only [List.getElem_toArray, List.getElem_cons_zero, List.getElem_cons_succ, Act.put, List.setIfInBounds_toArray, List.set_cons_zero, List.set_cons_succ]
      refine wpAnyG.skip 11 (by decide) (by as_aux_lemma => kernel_rfl) (fun _ _ _ h => h) 17 (by rfl) (fun _ _ => Iff.rfl) (by as_aux_lemma => kernel_rfl) (by as_aux_lemma => kernel_rfl) (by as_aux_lemma => kernel_rfl) (by rfl) (HBX _ hc0) (by rfl) ?_
      simp only [List.getElem_toArray, List.getElem_cons_zero, List.getElem_cons_succ, Act.put, List.setIfInBounds_toArray, List.set_cons_zero, List.set_cons_succ]
      refine wpAnyG.skip 12 (by decide) (by as_aux_lemma => kernel_rfl) (fun _ _ _ h => h) 17 (by rfl) (fun _ _ => Iff.rfl) (by as_aux_lemma => kernel_rfl) (by as_aux_lemma => kernel_rfl) (by as_aux_lemma => kernel_rfl) (by rfl) (HBX _ hc0) (by rfl) ?_
      simp only [List.getElem_toArray, List.getElem_cons_zero, List.getElem_cons_succ, Act.put, List.setIfInBounds_toArray, List.set_cons_zero, List.set_cons_succ]
      refine wpAnyG.skip 13 (by decide) (by as_aux_lemma => kernel_rfl) (fun _ _ _ h => h) 17 (by rfl) (fun _ _ => Iff.rfl) (by as_aux_lemma => kernel_rfl) (by as_aux_lemma => kernel_rfl) (by as_aux_lemma => kernel_rfl) (by rfl) (HBX _ hc0) (by rfl) ?_
      simp only [List.getElem_toArray, List.getElem_cons_zero, List.getElem_cons_succ, Act.put, List.setIfInBounds_toArray, List.set_cons_zero, List.set_cons_succ]
      refine wpAnyG.skip 14 (by decide) (by as_aux_lemma => kernel_rfl) (fun _ _ _ h => h) 17 (by rfl) (fun _ _ => Iff.rfl) (by as_aux_lemma => kernel_rfl) (by as_aux_lemma => kernel_rfl) (by as_aux_lemma => kernel_rfl) (by rfl) (HBX _ hc0) (by rfl) ?_
      simp only [List.getElem_toArray, List.getElem_cons_zero, List.getElem_cons_succ, Act.put, List.setIfInBounds_toArray, List.set_cons_zero, List.set_cons_succ]
      refine wpAnyG.skip 15 (by decide) (by as_aux_lemma => kernel_rfl) (fun _ _ _ h => h) 17 (by rfl) (fun _ _ => Iff.rfl) (by as_aux_lemma => kernel_rfl) (by as_aux_lemma => kernel_rfl) (by as_aux_lemma => kernel_rfl) (by rfl) (HBX _ hc0) (by rfl) ?_
      simp only [List.getElem_toArray, List.getElem_cons_zero, List.getElem_cons_succ, Act.put, List.setIfInBounds_toArray, List.set_cons_zero, List.set_cons_succ]
      refine wpAnyG.take 16 (v := .bool true) (by decide) (by as_aux_lemma => kernel_rfl) (fun _ _ _ h => h) 17 _ (by rfl) (fun _ _ => Iff.rfl) (fun _ _ _ h => h) (by as_aux_lemma => kernel_rfl) (by as_aux_lemma => kernel_rfl) (by as_aux_lemma => kernel_rfl) (by rfl) ?y16 (HBX _ hc0) (by rfl) ?_
      case y16 =>
        rintro w' ⟨q0, q1, q2, q3, q4, q5, q6, q7, q8, q9, q10, q11, q12, q13⟩
        simp only [List.getElem_toArray, List.getElem_cons_zero, List.getElem_cons_succ]
        go_simp
      simp only [List.getElem_toArray, List.getElem_cons_zero, List.getElem_cons_succ, Act.put, List.setIfInBounds_toArray, List.set_cons_zero, List.set_cons_succ]
      refine wpAnyG.one 17 (by as_aux_lemma => kernel_rfl) (by decide) (by rfl) (fun K hK => ?_)
      simp only [List.getElem_toArray, List.getElem_cons_zero, List.getElem_cons_succ]
      go_simp
      refine hK _ _ (HBX _ hc0) ?_
      clear hK K
      refine wpAnyG.done (by as_aux_lemma => kernel_rfl) (NoPanic.normal ?_)
      have hbE := bel_tr hb4 hc0
      go_wp2
      go_ret
      exact ⟨rfl, hbE⟩
    · have HBT : false = true ↔ btr P (vlu P (xn X nx)) (vlu Q (xn Y ny)) := by
        have h1 := HH1.out.1 rfl
        have h2 := HH2.out.1 rfl
        rw [vlu_xn P X (by rw [h1.1]; exact Nat.le_refl _), vlu_xn Q Y (by rw [h2.1]; exact Nat.le_refl _)]
        have h3 := hDL.weak nx X ny Y h1 h2
        rw [hDL.mx] at h3
        unfold dle at h3
        unfold btr
        constructor
        · intro h; cases h
        · intro h
          cases e : P.mx
          · rw [e] at h h3
            simp only [Bool.not_false, if_true] at h3
            rw [if_neg (by decide)] at h
            exact absurd h (Rat.not_lt.2 h3)
          · rw [e] at h h3
            simp only [Bool.not_true, Bool.false_eq_true, if_false] at h3
            rw [if_pos rfl] at h
            exact absurd h (Rat.not_lt.2 h3)
      refine wp_region_noPanic (wp_region_guard (fun _ w' => w'.cell? ⟨w.heap.size, 0, none⟩ = some (.bool P.mx) ∧ w'.cell? ⟨w.heap.size, 1, none⟩ = some (.string P.nm) ∧ w'.cell? ⟨w.heap.size, 2, none⟩ = some (.bool P.p) ∧ w'.cell? ⟨w.heap.size, 3, none⟩ = some (.slice P.a P.na P.ca) ∧ w'.cell? ⟨w.heap.size, 4, none⟩ = some (.slice P.d P.nd P.cd) ∧ w'.cell? ⟨w.heap.size, 5, none⟩ = some (.slice P.va P.vn P.vc) ∧ w'.cell? ⟨w.heap.size, 6, none⟩ = some (.slice P.ra P.rn P.rc) ∧ w'.cell? ⟨w1.heap.size, 0, none⟩ = some (.bool Q.mx) ∧ w'.cell? ⟨w1.heap.size, 1, none⟩ = some (.string Q.nm) ∧ w'.cell? ⟨w1.heap.size, 2, none⟩ = some (.bool Q.p) ∧ w'.cell? ⟨w1.heap.size, 3, none⟩ = some (.slice Q.a Q.na Q.ca) ∧ w'.cell? ⟨w1.heap.size, 4, none⟩ = some (.slice Q.d Q.nd Q.cd) ∧ w'.cell? ⟨w1.heap.size, 5, none⟩ = some (.slice Q.va Q.vn Q.vc) ∧ w'.cell? ⟨w1.heap.size, 6, none⟩ = some (.slice Q.ra Q.rn Q.rc)) (by as_aux_lemma => kernel_rfl) ?_)
      have hc0 : Below w4.heap.size w4 w4.drew := bel_d1 _
      generalize w4.drew = z0 at *
      refine wpAnyG.take 0 (v := .bool true) (by decide) (by as_aux_lemma => kernel_rfl) (fun _ _ _ h => h) 17 _ (by rfl) (fun _ _ => Iff.rfl) (fun _ _ _ h => h) (by as_aux_lemma => kernel_rfl) (by as_aux_lemma => kernel_rfl) (by as_aux_lemma => kernel_rfl) (by rfl) ?y0 (HBX _ hc0) (by rfl) ?_
      case y0 =>
        rintro w' ⟨q0, q1, q2, q3, q4, q5, q6, q7, q8, q9, q10, q11, q12, q13⟩
        simp only [List.getElem_toArray, List.getElem_cons_zero]
        go_simp
      simp only [List.getElem_toArray, List.getElem_cons_zero, Act.put, List.setIfInBounds_toArray, List.set_cons_zero, List.set_cons_succ]
      refine wpAnyG.take 1 (v := .bool false) (by decide) (by as_aux_lemma => kernel_rfl) (fun _ _ _ h => h) 17 _ (by rfl) (fun _ _ => Iff.rfl) (fun _ _ _ h => h) (by as_aux_lemma => kernel_rfl) (by as_aux_lemma => kernel_rfl) (by as_aux_lemma => kernel_rfl) (by rfl) ?y1 (HBX _ hc0) (by rfl) ?_
      case y1 =>
        rintro w' ⟨q0, q1, q2, q3, q4, q5, q6, q7, q8, q9, q10, q11, q12, q13⟩
        simp only [List.getElem_toArray, List.getElem_cons_zero, List.getElem_cons_succ]
        go_simp
      simp only [List.getElem_toArray, List.getElem_cons_zero, List.getElem_cons_succ, Act.put, List.setIfInBounds_toArray, List.set_cons_zero, List.set_cons_succ]
      refine wpAnyG.take 2 (v := .bool false) (by decide) (by as_aux_lemma => kernel_rfl) (fun _ _ _ h => h) 17 _ (by rfl) (fun _ _ => Iff.rfl) (fun _ _ _ h => h) (by as_aux_lemma => kernel_rfl) (by as_aux_lemma => kernel_rfl) (by as_aux_lemma => kernel_rfl) (by rfl) ?y2 (HBX _ hc0) (by rfl) ?_
      case y2 =>
        rintro w' ⟨q0, q1, q2, q3, q4, q5, q6, q7, q8, q9, q10, q11, q12, q13⟩
        simp only [List.getElem_toArray, List.getElem_cons_zero, List.getElem_cons_succ]
        go_simp
      simp only [List.getElem_toArray, List.getElem_cons_zero, List.getElem_cons_succ, Act.put, List.setIfInBounds_toArray, List.set_cons_zero, List.set_cons_succ]
      refine wpAnyG.take 3 (v := .bool true) (by decide) (by as_aux_lemma => kernel_rfl) (fun _ _ _ h => h) 17 _ (by rfl) (fun _ _ => Iff.rfl) (fun _ _ _ h => h) (by as_aux_lemma => kernel_rfl) (by as_aux_lemma => kernel_rfl) (by as_aux_lemma => kernel_rfl) (by rfl) ?y3 (HBX _ hc0) (by rfl) ?_
      case y3 =>
        rintro w' ⟨q0, q1, q2, q3, q4, q5, q6, q7, q8, q9, q10, q11, q12, q13⟩
        simp only [List.getElem_toArray, List.getElem_cons_zero, List.getElem_cons_succ]
        go_simp
      simp only [List.getElem_toArray, List.getElem_cons_zero, List.getElem_cons_succ, Act.put, List.setIfInBounds_toArray, List.set_cons_zero, List.set_cons_succ]
      refine wpAnyG.take 4 (v := .bool false) (by decide) (by as_aux_lemma => kernel_rfl) (fun _ _ _ h => h) 17 _ (by rfl) (fun _ _ => Iff.rfl) (fun _ _ _ h => h) (by as_aux_lemma => kernel_rfl) (by as_aux_lemma => kernel_rfl) (by as_aux_lemma => kernel_rfl) (by rfl) ?y4 (HBX _ hc0) (by rfl) ?_
      case y4 =>
        rintro w' ⟨q0, q1, q2, q3, q4, q5, q6, q7, q8, q9, q10, q11, q12, q13⟩
        simp only [List.getElem_toArray, List.getElem_cons_zero, List.getElem_cons_succ]
        go_simp
      simp only [List.getElem_toArray, List.getElem_cons_zero, List.getElem_cons_succ, Act.put, List.setIfInBounds_toArray, List.set_cons_zero, List.set_cons_succ]
      refine wpAnyG.take 5 (v := .bool false) (by decide) (by as_aux_lemma => kernel_rfl) (fun _ _ _ h => h) 17 _ (by rfl) (fun _ _ => Iff.rfl) (fun _ _ _ h => h) (by as_aux_lemma => kernel_rfl) (by as_aux_lemma => kernel_rfl) (by as_aux_lemma => kernel_rfl) (by rfl) ?y5 (HBX _ hc0) (by rfl) ?_
      case y5 =>
        rintro w' ⟨q0, q1, q2, q3, q4, q5, q6, q7, q8, q9, q10, q11, q12, q13⟩
        simp only [List.getElem_toArray, List.getElem_cons_zero, List.getElem_cons_succ]
        go_simp
      simp only [List.getElem_toArray, List.getElem_cons_zero, List.getElem_cons_succ, Act.put, List.setIfInBounds_toArray, List.set_cons_zero, List.set_cons_succ]
      refine wpAnyG.take 6 (v := .bool false) (by decide) (by as_aux_lemma => kernel_rfl) (fun _ _ _ h => h) 17 _ (by rfl) (fun _ _ => Iff.rfl) (fun _ _ _ h => h) (by as_aux_lemma => kernel_rfl) (by as_aux_lemma => kernel_rfl) (by as_aux_lemma => kernel_rfl) (by rfl) ?y6 (HBX _ hc0) (by rfl) ?_
      case y6 =>
        rintro w' ⟨q0, q1, q2, q3, q4, q5, q6, q7, q8, q9, q10, q11, q12, q13⟩
        simp only [List.getElem_toArray, List.getElem_cons_zero, List.getElem_cons_succ]
        go_simp
      simp only [List.getElem_toArray, List.getElem_cons_zero, List.getElem_cons_succ, Act.put, List.setIfInBounds_toArray, List.set_cons_zero, List.set_cons_succ]
      refine wpAnyG.take 7 (v := .agg #[.bool P.mx, .string P.nm, .bool P.p, .slice P.a P.na P.ca, .slice P.d P.nd P.cd, .slice P.va P.vn P.vc, .slice P.ra P.rn P.rc]) (by decide) (by as_aux_lemma => kernel_rfl) (fun _ _ _ h => h) 17 _ (by rfl) (fun _ _ => Iff.rfl) (fun _ _ _ h => h) (by as_aux_lemma => kernel_rfl) (by as_aux_lemma => kernel_rfl) (by as_aux_lemma => kernel_rfl) (by rfl) ?y7 (HBX _ hc0) (by rfl) ?_
      case y7 =>
        rintro w' ⟨q0, q1, q2, q3, q4, q5, q6, q7, q8, q9, q10, q11, q12, q13⟩
        simp only [List.getElem_toArray, List.getElem_cons_zero, List.getElem_cons_succ]
        go_simp
      simp only [List.getElem_toArray, List.getElem_cons_zero, List.getElem_cons_succ, Act.put, List.setIfInBounds_toArray, List.set_cons_zero, List.set_cons_succ]
      refine wpAnyG.take 8 (v := .agg #[.bool P.mx, .string P.nm, .bool P.p, .slice P.a P.na P.ca, .slice P.d P.nd P.cd, .slice P.va P.vn P.vc, .slice P.ra P.rn P.rc]) (by decide) (by as_aux_lemma => kernel_rfl) (fun _ _ _ h => h) 17 _ (by rfl) (fun _ _ => Iff.rfl) (fun _ _ _ h => h) (by as_aux_lemma => kernel_rfl) (by as_aux_lemma => kernel_rfl) (by as_aux_lemma => kernel_rfl) (by rfl) ?y8 (HBX _ hc0) (by rfl) ?_
      case y8 =>
        rintro w' ⟨q0, q1, q2, q3, q4, q5, q6, q7, q8, q9, q10, q11, q12, q13⟩
        simp only [List.getElem_toArray, List.getElem_cons_zero, List.getElem_cons_succ]
        go_simp
      simp only [List.getElem_toArray, List.getElem_cons_zero, List.getElem_cons_succ, Act.put, List.setIfInBounds_toArray, List.set_cons_zero, List.set_cons_succ]
      refine wpAnyG.take 9 (v := .slice xa nx xc) (by decide) (by as_aux_lemma => kernel_rfl) (fun _ _ _ h => h) 17 _ (by rfl) (fun _ _ => Iff.rfl) (fun _ _ _ h => h) (by as_aux_lemma => kernel_rfl) (by as_aux_lemma => kernel_rfl) (by as_aux_lemma => kernel_rfl) (by rfl) ?y9 (HBX _ hc0) (by rfl) ?_
      case y9 =>
        rintro w' ⟨q0, q1, q2, q3, q4, q5, q6, q7, q8, q9, q10, q11, q12, q13⟩
        simp only [List.getElem_toArray, List.getElem_cons_zero, List.getElem_cons_succ]
        go_simp
      simp only [List.getElem_toArray, List.getElem_cons_zero, List.getElem_cons_succ, Act.put, List.setIfInBounds_toArray, List.set_cons_zero, List.set_cons_succ]
      refine wpAnyG.take 11 (v := .agg #[.bool Q.mx, .string Q.nm, .bool Q.p, .slice Q.a Q.na Q.ca, .slice Q.d Q.nd Q.cd, .slice Q.va Q.vn Q.vc, .slice Q.ra Q.rn Q.rc]) (by decide) (by as_aux_lemma => kernel_rfl) (fun _ _ _ h => h) 17 _ (by rfl) (fun _ _ => Iff.rfl) (fun _ _ _ h => h) (by as_aux_lemma => kernel_rfl) (by as_aux_lemma => kernel_rfl) (by as_aux_lemma => kernel_rfl) (by rfl) ?y11 (HBX _ hc0) (by rfl) ?_
      case y11 =>
        rintro w' ⟨q0, q1, q2, q3, q4, q5, q6, q7, q8, q9, q10, q11, q12, q13⟩
        simp only [List.getElem_toArray, List.getElem_cons_zero, List.getElem_cons_succ]
        go_simp
      simp only [List.getElem_toArray, List.getElem_cons_zero, List.getElem_cons_succ, Act.put, List.setIfInBounds_toArray, List.set_cons_zero, List.set_cons_succ]
      refine wpAnyG.take 12 (v := .slice ya ny yc) (by decide) (by as_aux_lemma => kernel_rfl) (fun _ _ _ h => h) 17 _ (by rfl) (fun _ _ => Iff.rfl) (fun _ _ _ h => h) (by as_aux_lemma => kernel_rfl) (by as_aux_lemma => kernel_rfl) (by as_aux_lemma => kernel_rfl) (by rfl) ?y12 (HBX _ hc0) (by rfl) ?_
      case y12 =>
        rintro w' ⟨q0, q1, q2, q3, q4, q5, q6, q7, q8, q9, q10, q11, q12, q13⟩
        simp only [List.getElem_toArray, List.getElem_cons_zero, List.getElem_cons_succ]
        go_simp
      simp only [List.getElem_toArray, List.getElem_cons_zero, List.getElem_cons_succ, Act.put, List.setIfInBounds_toArray, List.set_cons_zero, List.set_cons_succ]
      refine wpAnyG.one 10 (by as_aux_lemma => kernel_rfl) (by decide) (by rfl) (fun K hK => ?_)
      simp only [List.getElem_toArray, List.getElem_cons_zero, List.getElem_cons_succ]
      go_simp
      refine (valD2 P (Kx := Kx) z0 (hP.below (bel_tr hb4 hc0)) (hx.below (bel_tr hb4 hc0)) hzx htx (by omega)).mono ?_
      rintro e z1 ⟨f1, c1, n1, k1, d1, m1, l1, rfl, G1, hk1⟩
      have hc1 : Below w4.heap.size w4 z1 := bel_tr hc0 hk1
      dsimp only
      refine hK _ _ (HBX _ hc1) ?_
      clear hK K
      refine wpAnyG.one 13 (by as_aux_lemma => kernel_rfl) (by decide) (by rfl) (fun K hK => ?_)
      simp only [List.getElem_toArray, List.getElem_cons_zero, List.getElem_cons_succ]
      go_simp
      refine (valDL hDL hPs (Ky := Ky) z1 (hQ4.below hc1) (hy.below (bel_tr hb4 hc1)) hzy hty (by omega)).mono ?_
      rintro e z2 ⟨f2, c2, n2, k2, d2, m2, l2, rfl, G2, hk2⟩
      have hc2 : Below w4.heap.size w4 z2 := bel_tr hc1 hk2
      dsimp only
      refine hK _ _ (HBX _ hc2) ?_
      clear hK K
      refine wpAnyG.one 14 (by as_aux_lemma => kernel_rfl) (by decide) (by rfl) (fun K hK => ?_)
      simp only [List.getElem_toArray, List.getElem_cons_zero, List.getElem_cons_succ]
      go_simp
      refine (betterT P false z2 (G1.below hk2).tr G2.tr (by omega) (by omega) (by omega) HBT).mono ?_
      rintro e z3 ⟨rfl, hk3⟩
      have hc3 : Below w4.heap.size w4 z3 := bel_tr hc2 hk3
      dsimp only
      refine hK _ _ (HBX _ hc3) ?_
      clear hK K
      refine wpAnyG.take 15 (v := .bool true) (by decide) (by as_aux_lemma => kernel_rfl) (fun _ _ _ h => h) 17 _ (by rfl) (fun _ _ => Iff.rfl) (fun _ _ _ h => h) (by as_aux_lemma => kernel_rfl) (by as_aux_lemma => kernel_rfl) (by as_aux_lemma => kernel_rfl) (by rfl) ?y15 (HBX _ hc3) (by rfl) ?_
      case y15 =>
        rintro w' ⟨q0, q1, q2, q3, q4, q5, q6, q7, q8, q9, q10, q11, q12, q13⟩
        simp only [List.getElem_toArray, List.getElem_cons_zero, List.getElem_cons_succ]
        go_simp
      simp only [List.getElem_toArray, List.getElem_cons_zero, List.getElem_cons_succ, Act.put, List.setIfInBounds_toArray, List.set_cons_zero, List.set_cons_succ]
      refine wpAnyG.take 16 (v := .bool true) (by decide) (by as_aux_lemma => kernel_rfl) (fun _ _ _ h => h) 17 _ (by rfl) (fun _ _ => Iff.rfl) (fun _ _ _ h => h) (by as_aux_lemma => kernel_rfl) (by as_aux_lemma => kernel_rfl) (by as_aux_lemma => kernel_rfl) (by rfl) ?y16 (HBX _ hc3) (by rfl) ?_
      case y16 =>
        rintro w' ⟨q0, q1, q2, q3, q4, q5, q6, q7, q8, q9, q10, q11, q12, q13⟩
        simp only [List.getElem_toArray, List.getElem_cons_zero, List.getElem_cons_succ]
        go_simp
      simp only [List.getElem_toArray, List.getElem_cons_zero, List.getElem_cons_succ, Act.put, List.setIfInBounds_toArray, List.set_cons_zero, List.set_cons_succ]
      refine wpAnyG.one 17 (by as_aux_lemma => kernel_rfl) (by decide) (by rfl) (fun K hK => ?_)
      simp only [List.getElem_toArray, List.getElem_cons_zero, List.getElem_cons_succ]
      go_simp
      refine hK _ _ (HBX _ hc3) ?_
      clear hK K
      refine wpAnyG.done (by as_aux_lemma => kernel_rfl) (NoPanic.normal ?_)
      have hbE := bel_tr hb4 hc3
      go_wp2
      go_ret
      exact ⟨rfl, hbE⟩
end Go.Proofs.YtkgnbcbcgnlodaaGreatDoor

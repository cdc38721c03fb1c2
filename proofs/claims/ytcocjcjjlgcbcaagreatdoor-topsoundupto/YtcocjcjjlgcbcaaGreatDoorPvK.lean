import Derived.Test.YtcocjcjjlgcbcaaGreatDoorPvJ
import Derived.Test.YtcocjcjjlgcbcaaGreatDoorPvFAll
namespace Go.Proofs.YtcocjcjjlgcbcaaGreatDoor
open Go.RowKit

theorem crB_iff {a b : Bool} {lo hi : Rat} : crB a lo b hi = true ↔ ¬ (a = true ∧ b = true ∧ hi < lo) := by
  unfold crB
  rw [show decide (0 < cs lo hi) = decide (hi < lo) from decide_eq_decide.2 cs_gt_iff]
  cases a <;> cases b <;> simp
theorem crs_iff (P : Prob) : Crs P ↔ ¬ ∀ q, q < P.rn + P.vn → crB (phl P q) (plo P q) (phh P q) (phi P q) = true := by
  constructor
  · rintro (⟨j, hj, a, b, c⟩ | ⟨i, hi, a, b, c⟩) h
    · have h2 := crB_iff.1 (h (P.rn + j) (by omega))
      refine h2 ?_
      unfold phl phh plo phi
      simp only [if_neg (show ¬ P.rn + j < P.rn by omega), Nat.add_sub_cancel_left]
      exact ⟨a, b, c⟩
    · have h2 := crB_iff.1 (h i (by omega))
      refine h2 ?_
      unfold phl phh plo phi
      simp only [if_pos hi]
      exact ⟨a, b, c⟩
  · intro h
    refine Classical.byContradiction fun hn => h fun q hq => crB_iff.2 fun hh => hn ?_
    unfold phl phh plo phi at hh
    by_cases e : q < P.rn
    · simp only [if_pos e] at hh
      exact .inr ⟨q, e, hh⟩
    · simp only [if_neg e] at hh
      exact .inl ⟨q - P.rn, by omega, hh⟩
set_option maxRecDepth 100000 in
set_option maxHeartbeats 4000000 in
theorem crossedQ (P : Prob) (w : World) (hP : PQ w P) (hK : P.K ≤ 1048576) :
    Calls Tryz.prog 50 #[P.val] w fun e w' => ∃ b, e = .returned (.bool b) ∧ (b = true ↔ Crs P) ∧ Below w.heap.size w w' := by
  have HQ := fun w1 (hb : Below w.heap.size w w1) => allC P w1 (hP.below hb) hK
  unfold Prob.val at *
  have Pb := box_new w #[.bool P.mx, .string P.nm, .bool P.p, .slice P.a P.na P.ca, .slice P.d P.nd P.cd, .slice P.va P.vn P.vc, .slice P.ra P.rn P.rc] 31
  have hb0 := bel_d0 w (.cells #[.bool P.mx, .string P.nm, .bool P.p, .slice P.a P.na P.ca, .slice P.d P.nd P.cd, .slice P.va P.vn P.vc, .slice P.ra P.rn P.rc] 31)
  have p0 := Pb 0 _ rfl; have p1 := Pb 1 _ rfl; have p2 := Pb 2 _ rfl; have p3 := Pb 3 _ rfl; have p4 := Pb 4 _ rfl; have p5 := Pb 5 _ rfl; have p6 := Pb 6 _ rfl
  go_enter Tryz.func50, Tryz.ntmps50
  go_wp2_with fail
  clear p0 p1 p2 p3 p4 p5 p6 Pb
  generalize w.alloc (.cells #[.bool P.mx, .string P.nm, .bool P.p, .slice P.a P.na P.ca, .slice P.d P.nd P.cd, .slice P.va P.vn P.vc, .slice P.ra P.rn P.rc] 31) = W0 at *
  refine (HQ W0 hb0).mono ?_
  rintro e w1 ⟨b, rfl, hb, h1⟩
  have hw := bel_tr hb0 h1
  have HB : Hid (b = true ↔ ∀ q, q < P.rn + P.vn → crB (phl P q) (plo P q) (phh P q) (phi P q) = true) := hb
  clear HQ hb hb0 h1
  go_wp2
  go_ret
  have HC := crs_iff P
  cases b
  · exact ⟨true, rfl, ⟨fun _ => HC.2 fun h => (by have := HB.out.2 h; cases this), fun _ => rfl⟩, hw⟩
  · exact ⟨false, rfl, ⟨fun h => (by cases h), fun h => absurd (HB.out.1 rfl) (HC.1 h)⟩, hw⟩
/-- What changes along a direction, place by place. -/
def alng (P : Prob) (Z : Nat → Rat) (q : Nat) : Rat := if q < P.rn then cv (P.R q) Z P.vn else Z (q - P.rn)
theorem kpB_iff {a b : Bool} {m : Rat} : kpB m a b = true ↔ (a = true → 0 ≤ m) ∧ (b = true → m ≤ 0) := by
  unfold kpB
  by_cases h1 : m < 0
  · rw [if_pos h1]
    have : ¬ 0 ≤ m := by grind
    have h2 : m ≤ 0 := by grind
    cases a <;> simp [this, h2]
  · rw [if_neg h1]
    have h0 : 0 ≤ m := by grind
    by_cases h2 : 0 < m
    · rw [if_pos h2]
      have h3 : ¬ m ≤ 0 := by grind
      cases b <;> simp [h0, h3]
    · rw [if_neg h2]
      have h3 : m ≤ 0 := by grind
      simp [h0, h3]
theorem dir_iff (P : Prob) (Z : Nat → Rat) : Dir P Z ↔ ∀ q, q < P.rn + P.vn → kpB (alng P Z q) (phl P q) (phh P q) = true := by
  constructor
  · intro h q hq
    rw [kpB_iff]
    unfold alng phl phh
    by_cases e : q < P.rn
    · simp only [if_pos e]; exact h.2 q e
    · simp only [if_neg e]; exact h.1 (q - P.rn) (by omega)
  · intro h
    refine ⟨fun j hj => ?_, fun i hi => ?_⟩
    · have h2 := h (P.rn + j) (by omega)
      rw [kpB_iff] at h2
      unfold alng phl phh at h2
      simpa only [if_neg (show ¬ P.rn + j < P.rn by omega), Nat.add_sub_cancel_left] using h2
    · have h2 := h i (by omega)
      rw [kpB_iff] at h2
      unfold alng phl phh at h2
      simpa only [if_pos hi] using h2
set_option maxRecDepth 100000 in
set_option maxHeartbeats 8000000 in
theorem keepsQ (P : Prob) {za : Option Addr} {zn zc : Nat} {Z : Nat → Rat} {Zz : Nat → Nat} {Kz : Nat} (w : World) (hP : PQ w P) (hz : LQ w za zn Z Zz) (hzz : ∀ i, i < zn → 1 ≤ Zz i ∧ SzR (Z i) (Zz i)) (htz : tot Zz zn ≤ Kz) (hzc : zn ≤ zc) (hzn : zn = P.vn) (hK : P.K + Kz ≤ 1048576) (hT : TB w) :
    Calls Tryz.prog 52 #[P.val, .slice za zn zc] w fun e w' => ∃ b, e = .returned (.bool b) ∧ (b = true ↔ Dir P Z) ∧ Below w.heap.size w w' := by
  subst hzn
  have hall := hP.all
  have hrn : P.rn ≤ 1048576 := by have := tot_len P.ZR P.rn; omega
  have hvn : P.vn ≤ 1048576 := by have := tot_len P.ZV P.vn; omega
  have hZx : ∀ j, j < P.vn → Zz j ≤ Kz := fun j hj => by have := tot_le (Z := Zz) hj; omega
  have hZR : ∀ i, i < P.rn → P.ZR i ≤ P.K := fun i hi => by have := tot_le (Z := P.ZR) hi; omega
  obtain ⟨Dx, dx1, dx2, dx3⟩ := Wd.list (fun i hi => (hzz i hi).2) htz
  have HSUM := fun w1 (hb : Below w.heap.size w w1) => sumsQ P (S := 3145736) (T := 2097160) (dx := Kz) (ax := Kz + 1) (m := P.vn) w1 (hP.below hb) (hz.below hb) hzc (by omega) (fun i j hi hj => ⟨(hzz j (by omega)).1, by have := hZR i hi; have := hZx j (by omega); omega⟩) (by omega) (by omega) dx1 dx2 (Int.le_of_lt (pw_pos _)) (pw_up _) (fun j hj => (dx3 j (by omega)).ov) (fun i hi => by have := hZR i hi; omega) (by omega) (by omega) (hT.below hb)
  have HQ := fun w1 (hb : Below w.heap.size w w1) => @allK P
  have hZZ : Hid (∀ j, j < P.vn → Zz j ≤ 2097160) := fun j hj => by have := hZx j hj; omega
  have HP : Hid (PQ w P) := hP
  clear hzz hZx hZR dx1 dx2 dx3 HQ
  unfold Prob.val at *
  have Pb := box_new w #[.bool P.mx, .string P.nm, .bool P.p, .slice P.a P.na P.ca, .slice P.d P.nd P.cd, .slice P.va P.vn P.vc, .slice P.ra P.rn P.rc] 31
  have hb0 := bel_d0 w (.cells #[.bool P.mx, .string P.nm, .bool P.p, .slice P.a P.na P.ca, .slice P.d P.nd P.cd, .slice P.va P.vn P.vc, .slice P.ra P.rn P.rc] 31)
  have p0 := Pb 0 _ rfl; have p1 := Pb 1 _ rfl; have p2 := Pb 2 _ rfl; have p3 := Pb 3 _ rfl; have p4 := Pb 4 _ rfl; have p5 := Pb 5 _ rfl; have p6 := Pb 6 _ rfl
  go_enter Tryz.func52, Tryz.ntmps52
  go_wp2_with fail
  clear p0 p1 p2 p3 p4 p5 p6
  generalize w.alloc (.cells #[.bool P.mx, .string P.nm, .bool P.p, .slice P.a P.na P.ca, .slice P.d P.nd P.cd, .slice P.va P.vn P.vc, .slice P.ra P.rn P.rc] 31) = W0 at *
  refine (HSUM W0 hb0).mono ?_
  rintro e w1 ⟨sa, sc, rfl, L, h1⟩
  have hb1 := bel_tr hb0 h1
  replace Pb := Pb.below h1
  have hx := bel_d0 w1 (.cells #[.slice sa P.rn sc, .slice za P.vn zc] 32)
  have N := box_new w1 #[.slice sa P.rn sc, .slice za P.vn zc] 32
  have n0 := N 0 _ rfl
  have n1 := N 1 _ rfl
  have LS := (L.below hx).lq
  replace Pb := Pb.below hx
  replace hb1 := bel_tr hb1 hx
  clear HSUM h1 hb0 hx N L
  go_wp2_with fail
  generalize w1.alloc (.cells #[.slice sa P.rn sc, .slice za P.vn zc] 32) = W1 at *
  refine (concatQ (S := 2097160) W1 n0 n1 LS (hz.below hb1) (fun i hi => Nat.le_refl _) hZZ.out (by omega)).mono ?_
  rintro e w2 ⟨ma, mc, rfl, HM, h2⟩
  replace Pb := Pb.below h2
  replace hb1 := bel_tr hb1 h2
  clear n0 n1 LS h2
  have hx := bel_d0 w2 (.cells #[.slice ma (P.rn + P.vn) mc] 32)
  have B2 := box_new w2 #[.slice ma (P.rn + P.vn) mc] 32
  replace Pb := Pb.below hx
  replace hb1 := bel_tr hb1 hx
  replace HM := HM.below hx
  have p0 := Pb 0 _ rfl; have p1 := Pb 1 _ rfl; have p2 := Pb 2 _ rfl; have p3 := Pb 3 _ rfl; have p4 := Pb 4 _ rfl; have p5 := Pb 5 _ rfl; have p6 := Pb 6 _ rfl
  clear hx
  go_wp2_with fail
  clear p0 p1 p2 p3 p4 p5 p6
  have b0 := B2 0 _ rfl
  clear B2
  generalize w2.alloc (.cells #[.slice ma (P.rn + P.vn) mc] 32) = W2 at *
  refine (allK P (M := alng P Z) W2 (HP.out.below hb1) (by omega) b0 HM (by omega) (by omega)).mono ?_
  rintro e w3 ⟨b, rfl, hb, h3⟩
  have hw := bel_tr hb1 h3
  have HB : Hid (b = true ↔ Dir P Z) := hb.trans (dir_iff P Z).symm
  clear hb h3 hb1 b0 HM Pb
  go_wp2
  go_ret
  exact ⟨b, rfl, HB.out, hw⟩
/-- Without its constant. -/
def Prob.noK (P : Prob) : Prob := { P with p := false, a := none, na := 0, ca := 0, d := none, nd := 0, cd := 0, k := 0 }
theorem szr0 {S : Nat} (h : 1 ≤ S) : SzR 0 S := (szw 0 (by decide)).le h
theorem tr_oS (w : World) {S : Nat} (h : 1 ≤ S) : TR w false none 0 0 none 0 0 0 S := (tr_o14 w).up h
theorem PQ.noK {w : World} {P : Prob} (h : PQ w P) : PQ w P.noK := ⟨tr_oS w h.s1, h.s1, szr0 h.s1, h.v, h.r, h.all, h.vc, h.rc⟩
theorem noK_vlu (P : Prob) (Z : Nat → Rat) : vlu P.noK Z = rte P Z := by
  rw [vlu_eq]
  show (0 : Rat) + rsum (fun j => (P.V j).obj * Z j) P.vn = _
  rw [Rat.zero_add]
  rfl
/-- The objective becomes better along a direction. -/
def imp (P : Prob) (Z : Nat → Rat) : Prop := if P.mx = true then 0 < rte P Z else rte P Z < 0
set_option maxRecDepth 100000 in
set_option maxHeartbeats 8000000 in
theorem becomesQ (P : Prob) {za : Option Addr} {zn zc : Nat} {Z : Nat → Rat} {Zz : Nat → Nat} {Kz : Nat} (w : World) (hP : PQ w P) (hz : LQ w za zn Z Zz) (hzz : ∀ i, i < zn → 1 ≤ Zz i ∧ SzR (Z i) (Zz i)) (htz : tot Zz zn ≤ Kz) (hzc : zn ≤ zc) (hzn : zn = P.vn) (hK : P.K + Kz ≤ 1048576) (hT : TB w) :
    Calls Tryz.prog 53 #[P.val, .slice za zn zc] w fun e w' => ∃ b, e = .returned (.bool b) ∧ (b = true ↔ imp P Z) ∧ Below w.heap.size w w' := by
  have HV : ∀ w1, Below w.heap.size w w1 → Calls Tryz.prog 49 #[.agg #[.bool P.mx, .string P.nm, .bool false, .slice none 0 0, .slice none 0 0, .slice P.va P.vn P.vc, .slice P.ra P.rn P.rc], .slice za zn zc] w1 fun e w' => ∃ f c n1 k1 c' n' k', e = .returned (.agg #[.bool f, .slice c n1 k1, .slice c' n' k']) ∧ GR w' w1.heap.size f c n1 k1 c' n' k' (rte P Z) 2097160 ∧ Below w1.heap.size w1 w' := fun w1 hb => by
    rw [← noK_vlu]
    exact valQ2 P.noK w1 (hP.noK.below hb) (hz.below hb) hzz htz hzc hzn hK (hT.below hb)
  clear hzz hz hP hzn htz hzc
  unfold Prob.val imp
  cases hmx : P.mx
  · rw [if_neg (by decide)]
    rw [hmx] at HV
    have Pb := box_new w #[.bool false, .string P.nm, .bool false, .slice none 0 0, .slice none 0 0, .slice P.va P.vn P.vc, .slice P.ra P.rn P.rc] 31
    have hb0 := bel_d0 w (.cells #[.bool false, .string P.nm, .bool false, .slice none 0 0, .slice none 0 0, .slice P.va P.vn P.vc, .slice P.ra P.rn P.rc] 31)
    have p0 := Pb 0 _ rfl; have p1 := Pb 1 _ rfl; have p2 := Pb 2 _ rfl; have p3 := Pb 3 _ rfl; have p4 := Pb 4 _ rfl; have p5 := Pb 5 _ rfl; have p6 := Pb 6 _ rfl
    clear hmx
    go_enter Tryz.func53, Tryz.ntmps53
    go_wp2_with fail
    clear p0 p1 p2 p3 p4 p5 p6
    generalize w.alloc (.cells #[.bool false, .string P.nm, .bool false, .slice none 0 0, .slice none 0 0, .slice P.va P.vn P.vc, .slice P.ra P.rn P.rc] 31) = W0 at *
    refine (HV W0 hb0).mono ?_
    rintro e w1 ⟨f, c, n, k, d, m, l, rfl, G, h1⟩
    have hb1 := bel_tr hb0 h1
    replace Pb := Pb.below h1
    clear HV h1 hb0
    go_wp2_with fail
    rcases (show rte P Z = 0 ∨ 0 < rte P Z ∨ rte P Z < 0 by grind) with hm0 | hm0 | hm0
    · refine (rsignB (0) w1 G.tr (by omega) (by omega) (sgn_nil hm0)).mono ?_
      rintro e w2 ⟨rfl, h2⟩
      have hw := bel_tr hb1 h2
      replace Pb := Pb.below h2
      have p0 := Pb 0 _ rfl
      clear h2 hb1 G Pb
      go_wp2
      go_ret
      exact ⟨false, rfl, ⟨fun h => (by first | grind | cases h), fun h => (by first | rfl | grind)⟩, hw⟩
    · refine (rsignB (1) w1 G.tr (by omega) (by omega) (sgn_pos hm0)).mono ?_
      rintro e w2 ⟨rfl, h2⟩
      have hw := bel_tr hb1 h2
      replace Pb := Pb.below h2
      have p0 := Pb 0 _ rfl
      clear h2 hb1 G Pb
      go_wp2
      go_ret
      exact ⟨false, rfl, ⟨fun h => (by first | grind | cases h), fun h => (by first | rfl | grind)⟩, hw⟩
    · refine (rsignB (-1) w1 G.tr (by omega) (by omega) (sgn_neg hm0)).mono ?_
      rintro e w2 ⟨rfl, h2⟩
      have hw := bel_tr hb1 h2
      replace Pb := Pb.below h2
      have p0 := Pb 0 _ rfl
      clear h2 hb1 G Pb
      go_wp2
      go_ret
      exact ⟨true, rfl, ⟨fun h => (by first | grind | cases h), fun h => (by first | rfl | grind)⟩, hw⟩
  · rw [if_pos rfl]
    rw [hmx] at HV
    have Pb := box_new w #[.bool true, .string P.nm, .bool false, .slice none 0 0, .slice none 0 0, .slice P.va P.vn P.vc, .slice P.ra P.rn P.rc] 31
    have hb0 := bel_d0 w (.cells #[.bool true, .string P.nm, .bool false, .slice none 0 0, .slice none 0 0, .slice P.va P.vn P.vc, .slice P.ra P.rn P.rc] 31)
    have p0 := Pb 0 _ rfl; have p1 := Pb 1 _ rfl; have p2 := Pb 2 _ rfl; have p3 := Pb 3 _ rfl; have p4 := Pb 4 _ rfl; have p5 := Pb 5 _ rfl; have p6 := Pb 6 _ rfl
    clear hmx
    go_enter Tryz.func53, Tryz.ntmps53
    go_wp2_with fail
    clear p0 p1 p2 p3 p4 p5 p6
    generalize w.alloc (.cells #[.bool true, .string P.nm, .bool false, .slice none 0 0, .slice none 0 0, .slice P.va P.vn P.vc, .slice P.ra P.rn P.rc] 31) = W0 at *
    refine (HV W0 hb0).mono ?_
    rintro e w1 ⟨f, c, n, k, d, m, l, rfl, G, h1⟩
    have hb1 := bel_tr hb0 h1
    replace Pb := Pb.below h1
    clear HV h1 hb0
    go_wp2_with fail
    rcases (show rte P Z = 0 ∨ 0 < rte P Z ∨ rte P Z < 0 by grind) with hm0 | hm0 | hm0
    · refine (rsignB (0) w1 G.tr (by omega) (by omega) (sgn_nil hm0)).mono ?_
      rintro e w2 ⟨rfl, h2⟩
      have hw := bel_tr hb1 h2
      replace Pb := Pb.below h2
      have p0 := Pb 0 _ rfl
      clear h2 hb1 G Pb
      go_wp2
      go_ret
      exact ⟨false, rfl, ⟨fun h => (by first | grind | cases h), fun h => (by first | rfl | grind)⟩, hw⟩
    · refine (rsignB (1) w1 G.tr (by omega) (by omega) (sgn_pos hm0)).mono ?_
      rintro e w2 ⟨rfl, h2⟩
      have hw := bel_tr hb1 h2
      replace Pb := Pb.below h2
      have p0 := Pb 0 _ rfl
      clear h2 hb1 G Pb
      go_wp2
      go_ret
      exact ⟨true, rfl, ⟨fun h => (by first | grind | cases h), fun h => (by first | rfl | grind)⟩, hw⟩
    · refine (rsignB (-1) w1 G.tr (by omega) (by omega) (sgn_neg hm0)).mono ?_
      rintro e w2 ⟨rfl, h2⟩
      have hw := bel_tr hb1 h2
      replace Pb := Pb.below h2
      have p0 := Pb 0 _ rfl
      clear h2 hb1 G Pb
      go_wp2
      go_ret
      exact ⟨false, rfl, ⟨fun h => (by first | grind | cases h), fun h => (by first | rfl | grind)⟩, hw⟩
/-- What checkUnbounded answers. -/
def UnbR (P : Prob) (C : Crt) (eS eP eR : Value) (w : World) (e : Ending) (w' : World) : Prop :=
  Below w.heap.size w w' ∧ ((¬ (C.xn = P.vn ∧ C.zn = P.vn) ∧ e = .returned eS) ∨ (C.xn = P.vn ∧ C.zn = P.vn ∧ ((¬ Hlds P C.xn C.X ∧ e = .returned eP) ∨ (Hlds P C.xn C.X ∧ ((¬ (Dir P C.Z ∧ imp P C.Z) ∧ e = .returned eR) ∨ (Dir P C.Z ∧ imp P C.Z ∧ e = .returned .nilIface))))))
set_option maxRecDepth 100000 in
set_option maxHeartbeats 16000000 in
/-- check.checkUnbounded. -/
theorem unbQ (P : Prob) (C : Crt) (w : World) (hP : PQ w P) (hC : CQ w C) (hK : P.K + C.K ≤ 1048576) (hT : TB w) {eS eP eV eB eR eD : Value} (EH : EE w eS eP eV eB eR eD) :
    Calls Tryz.prog 23 #[P.val, C.val] w fun e w' => UnbR P C eS eP eR w e w' := by
  unfold Prob.val Crt.val
  have Pb := box_new w #[.bool P.mx, .string P.nm, .bool P.p, .slice P.a P.na P.ca, .slice P.d P.nd P.cd, .slice P.va P.vn P.vc, .slice P.ra P.rn P.rc] 31
  have hz0 := bel_d0 w (.cells #[.bool P.mx, .string P.nm, .bool P.p, .slice P.a P.na P.ca, .slice P.d P.nd P.cd, .slice P.va P.vn P.vc, .slice P.ra P.rn P.rc] 31)
  have hs0 : (w.alloc (.cells #[.bool P.mx, .string P.nm, .bool P.p, .slice P.a P.na P.ca, .slice P.d P.nd P.cd, .slice P.va P.vn P.vc, .slice P.ra P.rn P.rc] 31)).heap.size = w.heap.size + 1 := by simp
  have Cb := box_new (w.alloc (.cells #[.bool P.mx, .string P.nm, .bool P.p, .slice P.a P.na P.ca, .slice P.d P.nd P.cd, .slice P.va P.vn P.vc, .slice P.ra P.rn P.rc] 31)) #[.int .i64 C.vd, .bool C.p, .slice C.a C.na C.ca, .slice C.d C.nd C.cd, .slice C.xa C.xn C.xc, .slice C.ya C.yn C.yc, .slice C.za C.zn C.zc] 34
  have hz1 := bel_d0 (w.alloc (.cells #[.bool P.mx, .string P.nm, .bool P.p, .slice P.a P.na P.ca, .slice P.d P.nd P.cd, .slice P.va P.vn P.vc, .slice P.ra P.rn P.rc] 31)) (.cells #[.int .i64 C.vd, .bool C.p, .slice C.a C.na C.ca, .slice C.d C.nd C.cd, .slice C.xa C.xn C.xc, .slice C.ya C.yn C.yc, .slice C.za C.zn C.zc] 34)
  rw [hs0] at Cb
  replace Pb := Pb.below hz1
  have hb0 := bel_tr hz0 hz1
  have E0 := EH.below hb0
  have hall := hC.all
  have ht1 := tot_pos C.ZX C.xn
  have ht2 := tot_pos C.ZY C.yn
  have ht3 := tot_pos C.ZZ C.zn
  clear hz0 hz1 hs0
  have p0 := Pb 0 _ rfl; have p1 := Pb 1 _ rfl; have p2 := Pb 2 _ rfl; have p3 := Pb 3 _ rfl; have p4 := Pb 4 _ rfl; have p5 := Pb 5 _ rfl; have p6 := Pb 6 _ rfl
  have c4 := Cb 4 _ rfl
  have c6 := Cb 6 _ rfl
  go_enter Tryz.func23, Tryz.ntmps23
  by_cases hx : C.xn = P.vn
  · have hxI : (C.xn : Int) = (P.vn : Int) := by omega
    by_cases hy : C.zn = P.vn
    · have hyI : (C.zn : Int) = (P.vn : Int) := by omega
      have HX : Hid (C.xn = P.vn ∧ C.zn = P.vn) := ⟨hx, hy⟩
      clear hx hy
      go_wp2_with fail
      clear p0 p1 p2 p3 p4 p5 p6 c4 c6 hxI hyI
      generalize (w.alloc (.cells #[.bool P.mx, .string P.nm, .bool P.p, .slice P.a P.na P.ca, .slice P.d P.nd P.cd, .slice P.va P.vn P.vc, .slice P.ra P.rn P.rc] 31)).alloc (.cells #[.int .i64 C.vd, .bool C.p, .slice C.a C.na C.ca, .slice C.d C.nd C.cd, .slice C.xa C.xn C.xc, .slice C.ya C.yn C.yc, .slice C.za C.zn C.zc] 34) = W0 at *
      refine (holdQ2 P (Kx := C.K) W0 (hP.below hb0) (hC.x.below hb0) hC.zx (by omega) hC.xc (by omega) (hT.below hb0)).mono ?_
      rintro e w1 ⟨b, rfl, hb, h1⟩
      have hb1 := bel_tr hb0 h1
      replace Pb := Pb.below h1
      replace Cb := Cb.below h1
      have E1 := EH.below hb1
      have HH : Hid (b = true ↔ Hlds P C.xn C.X) := hb
      clear h1 hb E0 hb0
      cases b
      · obtain ⟨ec, pp, rfl⟩ := E1.p
        go_wp2
        go_ret
        exact ⟨hb1, .inr ⟨HX.out.1, HX.out.2, .inl ⟨fun h => (by have := HH.out.2 h; cases this), rfl⟩⟩⟩
      · have hH := HH.out.1 rfl
        have HL : Hid (Hlds P C.xn C.X) := hH
        have p0 := Pb 0 _ rfl; have p1 := Pb 1 _ rfl; have p2 := Pb 2 _ rfl; have p3 := Pb 3 _ rfl; have p4 := Pb 4 _ rfl; have p5 := Pb 5 _ rfl; have p6 := Pb 6 _ rfl
        have c6 := Cb 6 _ rfl
        clear hH HH
        go_wp2_with fail
        clear p0 p1 p2 p3 p4 p5 p6 c6
        refine (keepsQ P (Kz := C.K) w1 (hP.below hb1) (hC.z.below hb1) hC.zz (by omega) hC.zc HX.out.2 (by omega) (hT.below hb1)).mono ?_
        rintro e w2 ⟨b, rfl, hb, h2⟩
        have hb2 := bel_tr hb1 h2
        replace Pb := Pb.below h2
        replace Cb := Cb.below h2
        have E2 := EH.below hb2
        have HD : Hid (b = true ↔ Dir P C.Z) := hb
        clear h2 hb E1 hb1
        cases b
        · obtain ⟨ec, pp, rfl⟩ := E2.r
          go_wp2
          go_ret
          exact ⟨hb2, .inr ⟨HX.out.1, HX.out.2, .inr ⟨HL.out, .inl ⟨fun h => (by have := HD.out.2 h.1; cases this), rfl⟩⟩⟩⟩
        · have p0 := Pb 0 _ rfl; have p1 := Pb 1 _ rfl; have p2 := Pb 2 _ rfl; have p3 := Pb 3 _ rfl; have p4 := Pb 4 _ rfl; have p5 := Pb 5 _ rfl; have p6 := Pb 6 _ rfl
          have c6 := Cb 6 _ rfl
          go_wp2_with fail
          clear p0 p1 p2 p3 p4 p5 p6 c6
          refine (becomesQ P (Kz := C.K) w2 (hP.below hb2) (hC.z.below hb2) hC.zz (by omega) hC.zc HX.out.2 (by omega) (hT.below hb2)).mono ?_
          rintro e w3 ⟨b, rfl, hb, h3⟩
          have hb3 := bel_tr hb2 h3
          have E3 := EH.below hb3
          have HI : Hid (b = true ↔ imp P C.Z) := hb
          clear h3 hb E2 hb2 Pb Cb
          cases b
          · obtain ⟨ec, pp, rfl⟩ := E3.r
            go_wp2
            go_ret
            exact ⟨hb3, .inr ⟨HX.out.1, HX.out.2, .inr ⟨HL.out, .inl ⟨fun h => (by have := HI.out.2 h.2; cases this), rfl⟩⟩⟩⟩
          · go_wp2
            go_ret
            exact ⟨hb3, .inr ⟨HX.out.1, HX.out.2, .inr ⟨HL.out, .inr ⟨HD.out.1 (by first | rfl | trivial), HI.out.1 (by first | rfl | trivial), rfl⟩⟩⟩⟩
    · have hyI : ¬ ((C.zn : Int) = (P.vn : Int)) := by omega
      have hyB : ((C.zn : Int) == (P.vn : Int)) = false := by simpa using hyI
      obtain ⟨ec, pp, rfl⟩ := E0.s
      have HY : Hid (¬ C.zn = P.vn) := hy
      clear hx hy
      go_wp2
      go_ret
      exact ⟨hb0, .inl ⟨fun h => HY.out h.2, rfl⟩⟩
  · have hxI : ¬ ((C.xn : Int) = (P.vn : Int)) := by omega
    have hxB : ((C.xn : Int) == (P.vn : Int)) = false := by simpa using hxI
    obtain ⟨ec, pp, rfl⟩ := E0.s
    go_wp2
    go_ret
    exact ⟨hb0, .inl ⟨fun h => hx h.1, rfl⟩⟩
end Go.Proofs.YtcocjcjjlgcbcaaGreatDoor

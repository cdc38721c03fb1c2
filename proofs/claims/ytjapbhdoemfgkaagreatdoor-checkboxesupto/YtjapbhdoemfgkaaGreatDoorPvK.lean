import Derived.Test.YtjapbhdoemfgkaaGreatDoorPvJ
import Derived.Test.YtjapbhdoemfgkaaGreatDoorPvFAll
namespace Go.Proofs.YtjapbhdoemfgkaaGreatDoor
open Go.RowKit

theorem crB_iff {a b : Bool} {lo hi : Rat} : crB a lo b hi = true ↔ ¬ (a = true ∧ b = true ∧ hi < lo) := by
  unfold crB
  rw [show decide (0 < cs lo hi) = decide (hi < lo) from decide_eq_decide.2 cs_gt_iff]
  cases a <;> cases b <;> simp
theorem crs_iff (P : Prob) : Crs P ↔ ¬ ∀ q, q < P.rn + P.vn → crB (phl P q) (plo P q) (phh P q) (phi P q) = true := by
  constructor
  · rintro (⟨j, hj, a, b, c⟩ | ⟨i, hi, a, b, c⟩) h
    · have h2 := crB_iff.1 (h (P.rn + j) (by omega))
      refine h2 ?_
      unfold phl phh plo phi
      simp only [if_neg (show ¬ P.rn + j < P.rn by omega), Nat.add_sub_cancel_left]
      exact ⟨a, b, c⟩
    · have h2 := crB_iff.1 (h i (by omega))
      refine h2 ?_
      unfold phl phh plo phi
      simp only [if_pos hi]
      exact ⟨a, b, c⟩
  · intro h
    refine Classical.byContradiction fun hn => h fun q hq => crB_iff.2 fun hh => hn ?_
    unfold phl phh plo phi at hh
    by_cases e : q < P.rn
    · simp only [if_pos e] at hh
      exact .inr ⟨q, e, hh⟩
    · simp only [if_neg e] at hh
      exact .inl ⟨q - P.rn, by omega, hh⟩
set_option maxRecDepth 100000 in
set_option maxHeartbeats 4000000 in
theorem crossedQ (P : Prob) (w : World) (hP : PQ w P) (hK : P.K ≤ 1048576) :
    Calls Tryz.prog 38 #[P.val] w fun e w' => ∃ b, e = .returned (.bool b) ∧ (b = true ↔ Crs P) ∧ Below w.heap.size w w' := by
  have HQ := fun w1 (hb : Below w.heap.size w w1) => allC P w1 (hP.below hb) hK
  unfold Prob.val at *
  have Pb := box_new w #[.bool P.mx, .string P.nm, .bool P.p, .slice P.a P.na P.ca, .slice P.d P.nd P.cd, .slice P.va P.vn P.vc, .slice P.ra P.rn P.rc] 32
  have hb0 := bel_d0 w (.cells #[.bool P.mx, .string P.nm, .bool P.p, .slice P.a P.na P.ca, .slice P.d P.nd P.cd, .slice P.va P.vn P.vc, .slice P.ra P.rn P.rc] 32)
  have p0 := Pb 0 _ rfl; have p1 := Pb 1 _ rfl; have p2 := Pb 2 _ rfl; have p3 := Pb 3 _ rfl; have p4 := Pb 4 _ rfl; have p5 := Pb 5 _ rfl; have p6 := Pb 6 _ rfl
  go_enter Tryz.func38, Tryz.ntmps38
  go_wp2_with fail
  clear p0 p1 p2 p3 p4 p5 p6 Pb
  generalize w.alloc (.cells #[.bool P.mx, .string P.nm, .bool P.p, .slice P.a P.na P.ca, .slice P.d P.nd P.cd, .slice P.va P.vn P.vc, .slice P.ra P.rn P.rc] 32) = W0 at *
  refine (HQ W0 hb0).mono ?_
  rintro e w1 ⟨b, rfl, hb, h1⟩
  have hw := bel_tr hb0 h1
  have HB : Hid (b = true ↔ ∀ q, q < P.rn + P.vn → crB (phl P q) (plo P q) (phh P q) (phi P q) = true) := hb
  clear HQ hb hb0 h1
  go_wp2
  go_ret
  have HC := crs_iff P
  cases b
  · exact ⟨true, rfl, ⟨fun _ => HC.2 fun h => (by have := HB.out.2 h; cases this), fun _ => rfl⟩, hw⟩
  · exact ⟨false, rfl, ⟨fun h => (by cases h), fun h => absurd (HB.out.1 rfl) (HC.1 h)⟩, hw⟩
/-- What changes along a direction, place by place. -/
def alng (P : Prob) (Z : Nat → Rat) (q : Nat) : Rat := if q < P.rn then cv (P.R q) Z P.vn else Z (q - P.rn)
theorem kpB_iff {a b : Bool} {m : Rat} : kpB m a b = true ↔ (a = true → 0 ≤ m) ∧ (b = true → m ≤ 0) := by
  unfold kpB
  by_cases h1 : m < 0
  · rw [if_pos h1]
    have : ¬ 0 ≤ m := by grind
    have h2 : m ≤ 0 := by grind
    cases a <;> simp [this, h2]
  · rw [if_neg h1]
    have h0 : 0 ≤ m := by grind
    by_cases h2 : 0 < m
    · rw [if_pos h2]
      have h3 : ¬ m ≤ 0 := by grind
      cases b <;> simp [h0, h3]
    · rw [if_neg h2]
      have h3 : m ≤ 0 := by grind
      simp [h0, h3]
theorem dir_iff (P : Prob) (Z : Nat → Rat) : Dir P Z ↔ ∀ q, q < P.rn + P.vn → kpB (alng P Z q) (phl P q) (phh P q) = true := by
  constructor
  · intro h q hq
    rw [kpB_iff]
    unfold alng phl phh
    by_cases e : q < P.rn
    · simp only [if_pos e]; exact h.2 q e
    · simp only [if_neg e]; exact h.1 (q - P.rn) (by omega)
  · intro h
    refine ⟨fun j hj => ?_, fun i hi => ?_⟩
    · have h2 := h (P.rn + j) (by omega)
      rw [kpB_iff] at h2
      unfold alng phl phh at h2
      simpa only [if_neg (show ¬ P.rn + j < P.rn by omega), Nat.add_sub_cancel_left] using h2
    · have h2 := h i (by omega)
      rw [kpB_iff] at h2
      unfold alng phl phh at h2
      simpa only [if_pos hi] using h2
/-- Without its constant. -/
def Prob.noK (P : Prob) : Prob := { P with p := false, a := none, na := 0, ca := 0, d := none, nd := 0, cd := 0, k := 0 }
theorem szr0 {S : Nat} (h : 1 ≤ S) : SzR 0 S := (szw 0 (by decide)).le h
theorem tr_oS (w : World) {S : Nat} (h : 1 ≤ S) : TR w false none 0 0 none 0 0 0 S := (tr_o14 w).up h
theorem PQ.noK {w : World} {P : Prob} (h : PQ w P) : PQ w P.noK := ⟨tr_oS w h.s1, h.s1, szr0 h.s1, h.v, h.r, h.all, h.vc, h.rc⟩
theorem noK_vlu (P : Prob) (Z : Nat → Rat) : vlu P.noK Z = rte P Z := by
  rw [vlu_eq]
  show (0 : Rat) + rsum (fun j => (P.V j).obj * Z j) P.vn = _
  rw [Rat.zero_add]
  rfl
/-- The objective becomes better along a direction. -/
def imp (P : Prob) (Z : Nat → Rat) : Prop := if P.mx = true then 0 < rte P Z else rte P Z < 0
/-- What checkUnbounded answers. -/
def UnbR (P : Prob) (C : Crt) (eS eP eR : Value) (w : World) (e : Ending) (w' : World) : Prop :=
  Below w.heap.size w w' ∧ ((¬ (C.xn = P.vn ∧ C.zn = P.vn) ∧ e = .returned eS) ∨ (C.xn = P.vn ∧ C.zn = P.vn ∧ ((¬ Hlds P C.xn C.X ∧ e = .returned eP) ∨ (Hlds P C.xn C.X ∧ ((¬ (Dir P C.Z ∧ imp P C.Z) ∧ e = .returned eR) ∨ (Dir P C.Z ∧ imp P C.Z ∧ e = .returned .nilIface))))))
end Go.Proofs.YtjapbhdoemfgkaaGreatDoor

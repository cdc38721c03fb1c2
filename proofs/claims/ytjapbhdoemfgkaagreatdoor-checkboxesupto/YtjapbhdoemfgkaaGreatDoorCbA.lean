import Derived.Test.YtjapbhdoemfgkaaGreatDoorPvN
namespace Go.Proofs.YtjapbhdoemfgkaaGreatDoor
open Go.RowKit

/-- A variable's Obj, as it counts in a Min problem. -/
def msn (mx : Bool) (r : Rat) : Rat := if mx = true then -r else r
/-- The bound that the sense and the Obj ask for, or the one that is there. -/
def bx (mx : Bool) (v : PV) : Rat := if v.hhi = true ∧ (msn mx v.obj < 0 ∨ ¬ v.hlo = true) then v.hi else if v.hlo = true then v.lo else 0
/-- The variable's own direction, where that bound isn't there. -/
def bz (mx : Bool) (v : PV) : Int := if msn mx v.obj < 0 ∧ ¬ v.hhi = true then 1 else if 0 < msn mx v.obj ∧ ¬ v.hlo = true then -1 else 0
def crv (v : PV) : Prop := v.hlo = true ∧ v.hhi = true ∧ v.hi < v.lo
theorem bx_in {mx : Bool} {v : PV} (h : ¬ crv v) : wthn (bx mx v) v.hlo v.lo v.hhi v.hi = true := by
  rw [wthn_iff]
  unfold crv at h
  unfold bx
  split
  · rename_i h1
    exact ⟨fun h2 => by have : ¬ v.hi < v.lo := fun h3 => h ⟨h2, h1.1, h3⟩; grind, fun _ => Rat.le_refl⟩
  · rename_i h1
    split
    · rename_i h2
      exact ⟨fun _ => Rat.le_refl, fun h3 => by have : ¬ v.hi < v.lo := fun h4 => h ⟨h2, h3, h4⟩; grind⟩
    · rename_i h2
      exact ⟨fun h3 => absurd h3 h2, fun h3 => absurd ⟨h3, .inr h2⟩ h1⟩
theorem box_holds {P : Prob} (h0 : P.rn = 0) (h : ∀ j, j < P.vn → ¬ crv (P.V j)) : Hlds P P.vn (fun j => bx P.mx (P.V j)) :=
  ⟨rfl, fun j hj => bx_in (h j hj), fun i hi => by omega⟩
theorem bz_ok {mx : Bool} {v : PV} (h : bz mx v = 0) : okb (msn mx v.obj) v.hlo v.hhi := by
  unfold bz at h
  refine ⟨fun h1 => ?_, fun h1 => ?_⟩
  · cases hl : v.hlo
    · rw [if_neg (by intro h2; grind), if_pos ⟨h1, by rw [hl]; decide⟩] at h
      exact absurd h (by decide)
    · rfl
  · cases hl : v.hhi
    · rw [if_pos ⟨h1, by rw [hl]; decide⟩] at h
      exact absurd h (by decide)
    · rfl
theorem pb_bx {mx : Bool} {v : PV} (h : okb (msn mx v.obj) v.hlo v.hhi) : pb (msn mx v.obj) v.lo v.hi = msn mx v.obj * bx mx v := by
  unfold pb bx
  by_cases h1 : 0 < msn mx v.obj
  · rw [if_pos h1, if_neg (by intro h2; rcases h2.2 with h3 | h3; grind; exact h3 (h.1 h1)), if_pos (h.1 h1)]
  · rw [if_neg h1]
    by_cases h2 : msn mx v.obj < 0
    · rw [if_pos h2, if_pos ⟨h.2 h2, .inl h2⟩]
    · rw [if_neg h2]
      have : msn mx v.obj = 0 := by grind
      rw [this, Rat.zero_mul]
theorem box_lft {P : Prob} (h0 : P.rn = 0) (Y : Nat → Rat) (j : Nat) : lft P Y j = (P.V j).obj := by
  unfold lft
  rw [h0]
  show (P.V j).obj - 0 = _
  grind
theorem box_pv {P : Prob} (h0 : P.rn = 0) (h : ∀ j, j < P.vn → okb (P.V j).obj (P.V j).hlo (P.V j).hhi) (Y : Nat → Rat) : okp P Y ∧ pv P Y = P.k + rsum (fun j => (P.V j).obj * bx false (P.V j)) P.vn := by
  refine ⟨⟨fun i hi => by omega, fun j hj => by rw [box_lft h0]; exact h j hj⟩, ?_⟩
  unfold pv
  have e : rsum (fun i => pb (Y i) (P.R i).lo (P.R i).hi) P.rn = 0 := by rw [h0]; rfl
  rw [e]
  have e2 : rsum (fun j => pb (lft P Y j) (P.V j).lo (P.V j).hi) P.vn = rsum (fun j => (P.V j).obj * bx false (P.V j)) P.vn := rsum_congr fun j hj => by
    rw [box_lft h0]
    exact pb_bx (mx := false) (h j hj)
  rw [e2]
  grind
/-- What is proved where each bound is there. -/
theorem box_ok {P : Prob} (h0 : P.rn = 0) (h : ∀ j, j < P.vn → bz P.mx (P.V j) = 0) (Y : Nat → Rat) : okS P Y ∧ pvS P Y = vlu P (fun j => bx P.mx (P.V j)) := by
  unfold okS pvS
  rw [vlu_eq]
  cases hm : P.mx
  · rw [if_neg (by decide), if_neg (by decide)]
    rw [hm] at h
    exact box_pv h0 (fun j hj => bz_ok (h j hj)) Y
  · rw [if_pos rfl, if_pos rfl]
    rw [hm] at h
    have e : ∀ j, j < P.vn → okb (-(P.V j).obj) (P.V j).hlo (P.V j).hhi := fun j hj => bz_ok (mx := true) (h j hj)
    refine ⟨⟨fun i hi => by have : i < P.rn := hi; omega, fun j hj => ?_⟩, ?_⟩
    · rw [box_lft (P := P.turn) h0]
      exact e j hj
    · unfold pv
      have e1 : rsum (fun i => pb (-Y i) (P.turn.R i).lo (P.turn.R i).hi) P.turn.rn = 0 := by show rsum _ P.rn = 0; rw [h0]; rfl
      rw [e1]
      have e2 : rsum (fun j => pb (lft P.turn (fun i => -Y i) j) (P.turn.V j).lo (P.turn.V j).hi) P.turn.vn = -rsum (fun j => (P.V j).obj * bx true (P.V j)) P.vn := by
        rw [← rsum_neg]
        exact rsum_congr fun j hj => by
          rw [box_lft (P := P.turn) h0]
          show pb (-(P.V j).obj) (P.V j).lo (P.V j).hi = _
          have := pb_bx (mx := true) (v := P.V j) (e j hj)
          unfold msn at this
          rw [if_pos rfl] at this
          rw [this, Rat.neg_mul]
      rw [e2]
      show -(-P.k + 0 + -_) = _
      grind
theorem msn_bz {mx : Bool} {v : PV} : msn mx v.obj * ((bz mx v : Int) : Rat) ≤ 0 ∧ (bz mx v ≠ 0 → msn mx v.obj * ((bz mx v : Int) : Rat) < 0) := by
  unfold bz
  split
  · rename_i h
    have e : ((1 : Int) : Rat) = 1 := rfl
    rw [e, Rat.mul_one]
    exact ⟨Rat.le_of_lt h.1, fun _ => h.1⟩
  · split
    · rename_i h1 h
      have e : ((-1 : Int) : Rat) = -1 := rfl
      rw [e, Rat.mul_neg, Rat.mul_one]
      exact ⟨by grind, fun _ => by grind⟩
    · have e : ((0 : Int) : Rat) = 0 := rfl
      rw [e, Rat.mul_zero]
      exact ⟨Rat.le_refl, fun h => absurd rfl h⟩
theorem rsum_lt {X Y : Nat → Rat} : ∀ {n : Nat}, (∀ i, i < n → X i ≤ Y i) → (∃ i, i < n ∧ X i < Y i) → rsum X n < rsum Y n
  | 0, _, h => by obtain ⟨i, hi, _⟩ := h; omega
  | n + 1, h, hx => by
    show rsum X n + X n < rsum Y n + Y n
    obtain ⟨i, hi, hl⟩ := hx
    by_cases hin : i < n
    · have h1 := rsum_lt (fun i hi => h i (by omega)) ⟨i, hin, hl⟩
      have h2 := h n (by omega)
      grind
    · obtain rfl : i = n := by omega
      have h1 := rsum_le (n := i) (fun i hi => h i (by omega))
      grind
theorem rsum_non (n : Nat) : rsum (fun _ => (0 : Rat)) n = 0 := rsum_nil n fun _ _ => rfl
/-- The ray where a bound isn't there. -/
theorem box_ray {P : Prob} (h0 : P.rn = 0) : Dir P (fun j => ((bz P.mx (P.V j) : Int) : Rat)) := by
  refine ⟨fun j hj => ⟨fun h => ?_, fun h => ?_⟩, fun i hi => by omega⟩
  · show (0 : Rat) ≤ ((bz P.mx (P.V j) : Int) : Rat)
    unfold bz
    split
    · decide
    · rw [if_neg (fun k => k.2 h)]
      decide
  · show ((bz P.mx (P.V j) : Int) : Rat) ≤ 0
    unfold bz
    rw [if_neg (fun k => k.2 h)]
    split <;> decide
theorem box_imp {P : Prob} (h : ∃ j, j < P.vn ∧ bz P.mx (P.V j) ≠ 0) : imp P (fun j => ((bz P.mx (P.V j) : Int) : Rat)) := by
  unfold imp rte
  obtain ⟨j, hj, hb⟩ := h
  have H : rsum (fun j => msn P.mx (P.V j).obj * ((bz P.mx (P.V j) : Int) : Rat)) P.vn < 0 := by
    rw [← rsum_non P.vn]
    exact rsum_lt (fun i _ => msn_bz.1) ⟨j, hj, msn_bz.2 hb⟩
  cases hm : P.mx
  · rw [if_neg (by decide)]
    rw [hm] at H
    exact H
  · rw [if_pos rfl]
    rw [hm] at H
    have e : rsum (fun j => msn true (P.V j).obj * ((bz true (P.V j) : Int) : Rat)) P.vn = -rsum (fun j => (P.V j).obj * ((bz true (P.V j) : Int) : Rat)) P.vn := by
      rw [← rsum_neg]
      exact rsum_congr fun j hj => by show -(P.V j).obj * _ = _; rw [Rat.neg_mul]
    rw [e] at H
    grind
theorem box_crs {P : Prob} (h0 : P.rn = 0) (h : ∀ j, j < P.vn → ¬ crv (P.V j)) : ¬ Crs P := by
  rintro (⟨j, hj, h1⟩ | ⟨i, hi, _⟩)
  · exact h j hj h1
  · omega
theorem box_crs1 {P : Prob} {j : Nat} (hj : j < P.vn) (h : crv (P.V j)) : Crs P := .inl ⟨j, hj, h⟩
theorem box_bare {P : Prob} (h0 : P.rn = 0) (Y : Nat → Rat) : pv P.bare Y = 0 := by
  unfold pv
  have e1 : rsum (fun i => pb (Y i) (P.bare.R i).lo (P.bare.R i).hi) P.bare.rn = 0 := by show rsum _ P.rn = 0; rw [h0]; rfl
  have e2 : rsum (fun j => pb (lft P.bare Y j) (P.bare.V j).lo (P.bare.V j).hi) P.bare.vn = rsum (fun _ => (0 : Rat)) P.vn := rsum_congr fun j hj => by
    rw [box_lft (P := P.bare) h0]
    show pb 0 _ _ = 0
    unfold pb
    rw [if_neg (by decide), if_neg (by decide)]
  rw [e1, e2, rsum_non]
  show (0 : Rat) + 0 + 0 = 0
  rw [Rat.add_zero, Rat.add_zero]
end Go.Proofs.YtjapbhdoemfgkaaGreatDoor

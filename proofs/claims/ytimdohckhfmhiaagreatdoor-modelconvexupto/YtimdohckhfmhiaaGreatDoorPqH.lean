import Derived.Test.YtimdohckhfmhiaaGreatDoorPqG
namespace Go.Proofs.YtimdohckhfmhiaaGreatDoor
open Go.RowKit

theorem rsum_prt (k : Rat) (V : Nat → PV) (X : Nat → Rat) (m : Nat) : rsum (prt k V X) (m + 1) = k + rsum (fun j => (V j).obj * X j) m := by
  induction m with
  | zero => show 0 + k = k + 0; rw [Rat.zero_add, Rat.add_zero]
  | succ m ih => rw [rsum_succ, ih, rsum_succ, Rat.add_assoc]; rfl
/-- What is between two points, in one number. -/
def btw (t x y : Rat) : Rat := x + t * (y - x)
theorem btw_add (t x y x' y' : Rat) : btw t (x + x') (y + y') = btw t x y + btw t x' y' := by unfold btw; grind
theorem btw_mul (c t x y : Rat) : c * btw t x y = btw t (c * x) (c * y) := by unfold btw; grind
theorem btw_self (t x : Rat) : btw t x x = x := by unfold btw; grind
theorem rsum_btw (t : Rat) (X Y : Nat → Rat) (n : Nat) : rsum (fun j => btw t (X j) (Y j)) n = btw t (rsum X n) (rsum Y n) := by
  induction n with
  | zero => show 0 = btw t 0 0; rw [btw_self]
  | succ n ih => rw [rsum_succ, rsum_succ, rsum_succ, ih, btw_add]
theorem btw_lo {t x y l : Rat} (h0 : 0 ≤ t) (h1 : t ≤ 1) (hx : l ≤ x) (hy : l ≤ y) : l ≤ btw t x y := by
  have e : btw t x y = l + ((1 - t) * (x - l) + t * (y - l)) := by unfold btw; grind
  have a1 : 0 ≤ (1 - t) * (x - l) := Rat.mul_nonneg (by grind) (by grind)
  have a2 : 0 ≤ t * (y - l) := Rat.mul_nonneg h0 (by grind)
  rw [e]
  grind
theorem btw_hi {t x y l : Rat} (h0 : 0 ≤ t) (h1 : t ≤ 1) (hx : x ≤ l) (hy : y ≤ l) : btw t x y ≤ l := by
  have e : btw t x y = l - ((1 - t) * (l - x) + t * (l - y)) := by unfold btw; grind
  have a1 : 0 ≤ (1 - t) * (l - x) := Rat.mul_nonneg (by grind) (by grind)
  have a2 : 0 ≤ t * (l - y) := Rat.mul_nonneg h0 (by grind)
  rw [e]
  grind
theorem tv_btw (r : PW) (t : Rat) (X Y : Nat → Rat) (m k : Nat) : tv r (fun j => btw t (X j) (Y j)) m k = btw t (tv r X m k) (tv r Y m k) := by
  unfold tv
  split
  · rw [btw_mul]
  · rw [btw_self]
theorem cv_btw (r : PW) (t : Rat) (X Y : Nat → Rat) (m : Nat) : cv r (fun j => btw t (X j) (Y j)) m = btw t (cv r X m) (cv r Y m) := by
  unfold cv
  rw [← rsum_btw]
  exact rsum_congr fun k _ => tv_btw r t X Y m k
theorem val_btw (k : Rat) (V : Nat → PV) (t : Rat) (X Y : Nat → Rat) (m : Nat) : rsum (prt k V (fun j => btw t (X j) (Y j))) (m + 1) = btw t (rsum (prt k V X) (m + 1)) (rsum (prt k V Y) (m + 1)) := by
  rw [rsum_prt, rsum_prt, rsum_prt, btw_add, btw_self, ← rsum_btw]
  congr 1
  exact rsum_congr fun j _ => by rw [btw_mul]
theorem cs_lt_iff {r s : Rat} : cs r s < 0 ↔ r < s := by
  unfold cs
  rw [Int.sign_neg_iff, Rat.lt_iff]
  omega
theorem cs_gt_iff {r s : Rat} : 0 < cs r s ↔ s < r := by
  unfold cs
  rw [Int.sign_pos_iff, Rat.lt_iff]
  omega
theorem wthn_iff {a lo hi : Rat} {hlo hhi : Bool} : wthn a hlo lo hhi hi = true ↔ (hlo = true → lo ≤ a) ∧ (hhi = true → a ≤ hi) := by
  unfold wthn
  rw [show (decide (cs a lo < 0)) = decide (a < lo) from decide_eq_decide.2 cs_lt_iff, show (decide (0 < cs a hi)) = decide (hi < a) from decide_eq_decide.2 cs_gt_iff]
  cases hlo <;> cases hhi <;> simp [Rat.not_lt]
theorem wthn_btw {t x y lo hi : Rat} {hlo hhi : Bool} (h0 : 0 ≤ t) (h1 : t ≤ 1) (hx : wthn x hlo lo hhi hi = true) (hy : wthn y hlo lo hhi hi = true) : wthn (btw t x y) hlo lo hhi hi = true := by
  rw [wthn_iff] at *
  exact ⟨fun h => btw_lo h0 h1 (hx.1 h) (hy.1 h), fun h => btw_hi h0 h1 (hx.2 h) (hy.2 h)⟩
/-- Between two points that hold all hold. -/
theorem hlds_btw {P : Prob} {n : Nat} {X Y : Nat → Rat} {t : Rat} (h0 : 0 ≤ t) (h1 : t ≤ 1) (hx : Hlds P n X) (hy : Hlds P n Y) : Hlds P n (fun j => btw t (X j) (Y j)) := by
  refine ⟨hx.1, fun j hj => wthn_btw h0 h1 (hx.2.1 j hj) (hy.2.1 j hj), fun i hi => ?_⟩
  rw [cv_btw]
  exact wthn_btw h0 h1 (hx.2.2 i hi) (hy.2.2 i hi)
end Go.Proofs.YtimdohckhfmhiaaGreatDoor

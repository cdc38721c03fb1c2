import Derived.Test.YtfelogbfijomiaaDoorHalves
namespace Go.Proofs.YtfelogbfijomiaaDoor
/-! The same as in Val, of half limbs (by program out of that text). -/
/-- All of them half words. -/
def AllH (xs : List Int) : Prop := ∀ x ∈ xs, 0 ≤ x ∧ x < 4294967296
theorem AllH.at {xs : List Int} (h : AllH xs) (i : Nat) : 0 ≤ lm xs i ∧ lm xs i < 4294967296 := by
  by_cases hi : i < xs.length
  · exact h (lm xs i) (List.mem_of_getElem? (lm_lt hi))
  · rw [lm_ge (by omega)]; omega
theorem AllH.set {xs : List Int} (h : AllH xs) (i : Nat) (z : Int) (hz : 0 ≤ z ∧ z < 4294967296) : AllH (xs.set i z) := by
  intro x hx
  rcases List.mem_or_eq_of_mem_set hx with h1 | rfl
  · exact h x h1
  · exact hz
theorem AllH.take {xs : List Int} (h : AllH xs) (n : Nat) : AllH (xs.take n) := fun x hx => h x (List.mem_of_mem_take hx)
theorem AllH.append {xs ys : List Int} (h : AllH xs) (k : AllH ys) : AllH (xs ++ ys) := fun x hx => (List.mem_append.1 hx).elim (h x) (k x)
theorem AllH.nil : AllH [] := fun x hx => by cases hx
theorem AllH.trim {xs : List Int} (h : AllH xs) : AllH (trimL xs) := h.take _
theorem AllH.word {xs : List Int} (h : AllH xs) : AllW xs := fun x hx => by have := h x hx; exact ⟨this.1, by omega⟩
theorem AllH.replicate (n : Nat) : AllH (List.replicate n 0) := fun x hx => by rw [List.eq_of_mem_replicate hx]; omega
/-! ### What the limbs are worth -/
def pwH (k : Nat) : Int := 4294967296 ^ k
theorem pwH_zero : pwH 0 = 1 := rfl
theorem pwH_succ (k : Nat) : pwH (k + 1) = pwH k * 4294967296 := Int.pow_succ _ _
theorem pwH_pos (k : Nat) : 0 < pwH k := Int.pow_pos (by decide)
theorem pwH_add (a b : Nat) : pwH (a + b) = pwH a * pwH b := Int.pow_add _ _ _
theorem pwH_mono {a b : Nat} (h : a ≤ b) : pwH a ≤ pwH b := by
  obtain ⟨c, rfl⟩ : ∃ c, b = a + c := ⟨b - a, by omega⟩
  rw [pwH_add]
  have h1 := pwH_pos c
  have h2 := pwH_pos a
  have := Int.mul_le_mul_of_nonneg_left (a := 1) (b := pwH c) (c := pwH a) (by omega) (by omega)
  omega
/-- The first n limbs' worth. -/
def vH (us : List Int) : Nat → Int
  | 0 => 0
  | n + 1 => vH us n + lm us n * pwH n
def valH (us : List Int) : Int := vH us us.length

theorem vH_congr {us vs : List Int} {n : Nat} (h : ∀ i, i < n → lm us i = lm vs i) : vH us n = vH vs n := by
  induction n with
  | zero => rfl
  | succ n ih => simp only [vH]; rw [ih (fun i hi => h i (by omega)), h n (by omega)]
theorem vH_set_ge {us : List Int} {n i : Nat} {z : Int} (h : n ≤ i) : vH (us.set i z) n = vH us n :=
  vH_congr fun j hj => by rw [lm_set, if_neg (by omega)]
theorem vH_set {us : List Int} {n i : Nat} (z : Int) (h : i < n) (hl : i < us.length) : vH (us.set i z) n = vH us n + (z - lm us i) * pwH i := by
  induction n with
  | zero => omega
  | succ n ih =>
    simp only [vH]
    rcases Nat.lt_or_ge i n with h1 | h1
    · rw [ih h1, lm_set, if_neg (by omega)]; omega
    · obtain rfl : i = n := by omega
      rw [vH_set_ge (Nat.le_refl _), lm_set, if_pos ⟨rfl, hl⟩, Int.sub_mul]; omega
theorem vH_tail {us : List Int} {m n : Nat} (hmn : m ≤ n) (h : ∀ i, m ≤ i → i < n → lm us i = 0) : vH us n = vH us m := by
  induction n with
  | zero => obtain rfl : m = 0 := by omega
            rfl
  | succ n ih =>
    rcases Nat.lt_or_ge n m with h1 | h1
    · obtain rfl : m = n + 1 := by omega
      rfl
    · simp only [vH]; rw [ih h1 (fun i a b => h i a (by omega)), h n h1 (by omega)]; omega
theorem vH_long {us : List Int} {n : Nat} (h : us.length ≤ n) : vH us n = valH us := vH_tail h (fun _ a _ => lm_ge a)
theorem vH_nn {us : List Int} (hu : AllH us) (n : Nat) : 0 ≤ vH us n ∧ vH us n < pwH n := by
  induction n with
  | zero => simp [vH, pwH]
  | succ n ih =>
    simp only [vH]
    rw [pwH_succ]
    have h := hu.at n
    have hp := pwH_pos n
    have h1 : 0 ≤ lm us n * pwH n := Int.mul_nonneg h.1 (by omega)
    have h2 : lm us n * pwH n ≤ 4294967295 * pwH n := Int.mul_le_mul_of_nonneg_right (by omega) (by omega)
    omega
theorem valH_nn {us : List Int} (hu : AllH us) : 0 ≤ valH us := (vH_nn hu _).1
theorem valH_lt {us : List Int} (hu : AllH us) : valH us < pwH us.length := (vH_nn hu _).2
theorem vH_trim (xs : List Int) : vH xs (tlen xs) = valH xs := (vH_tail (tl_le _ _) (tl_spec xs xs.length).1).symm
theorem valH_trimL (xs : List Int) : valH (trimL xs) = valH xs := by
  unfold valH
  rw [length_trimL]
  show _ = valH xs
  rw [← vH_trim]
  exact vH_congr fun i hi => by unfold trimL; rw [lm_take hi]

/-- With k limbs that count a number is as great as the k-1st power. -/
theorem valH_ge {xs : List Int} (hx : AllH xs) (h : 0 < tlen xs) : pwH (tlen xs - 1) ≤ valH xs := by
  rw [← vH_trim]
  obtain ⟨k, hk⟩ : ∃ k, tlen xs = k + 1 := ⟨tlen xs - 1, by omega⟩
  rw [hk]
  simp only [vH]
  have hne := (tl_spec xs xs.length).2 h
  have e : tl xs xs.length = k + 1 := hk
  rw [e] at hne
  simp only [Nat.add_sub_cancel] at hne ⊢
  have h1 := hx.at k
  have h2 := (vH_nn hx k).1
  have h3 : 1 * pwH k ≤ lm xs k * pwH k := Int.mul_le_mul_of_nonneg_right (by omega) (by have := pwH_pos k; omega)
  omega
theorem valH_lt_tlen {xs : List Int} (hx : AllH xs) : valH xs < pwH (tlen xs) := by rw [← vH_trim]; exact (vH_nn hx _).2
theorem tlenH_zero {xs : List Int} (hx : AllH xs) : tlen xs = 0 ↔ valH xs = 0 := by
  constructor
  · intro h; have := valH_lt_tlen hx; have h2 := valH_nn hx; rw [h, pwH_zero] at this; omega
  · intro h
    rcases Nat.eq_zero_or_pos (tlen xs) with e | e
    · exact e
    · have := valH_ge hx e; have h2 := pwH_pos (tlen xs - 1); omega
theorem tlenH_mono {xs ys : List Int} (hx : AllH xs) (hy : AllH ys) (h : valH xs ≤ valH ys) : tlen xs ≤ tlen ys := by
  rcases Nat.lt_or_ge (tlen ys) (tlen xs) with e | e
  · have h1 := valH_ge hx (by omega)
    have h2 := valH_lt_tlen hy
    have h3 := pwH_mono (show tlen ys ≤ tlen xs - 1 by omega)
    omega
  · exact e

/-! ### the order -/
theorem cmpToH_val {xs ys : List Int} (hx : AllH xs) (hy : AllH ys) (k : Nat) : (cmpTo xs ys k = 0 ∧ vH xs k = vH ys k) ∨ (cmpTo xs ys k = -1 ∧ vH xs k < vH ys k) ∨ (cmpTo xs ys k = 1 ∧ vH ys k < vH xs k) := by
  induction k with
  | zero => simp [cmpTo, vH]
  | succ k ih =>
    simp only [vH]
    by_cases h : lm xs k = lm ys k
    · rw [cmpTo_eq h, h]; omega
    · rw [cmpTo_ne h]
      have a := vH_nn hx k
      have b := vH_nn hy k
      have hp := pwH_pos k
      by_cases h2 : lm xs k < lm ys k
      · have := Int.mul_le_mul_of_nonneg_right (a := lm xs k + 1) (b := lm ys k) (c := pwH k) (by omega) (by omega)
        rw [Int.add_mul] at this
        right; left
        exact ⟨by simp [ordI, h2], by omega⟩
      · have := Int.mul_le_mul_of_nonneg_right (a := lm ys k + 1) (b := lm xs k) (c := pwH k) (by omega) (by omega)
        rw [Int.add_mul] at this
        right; right
        exact ⟨by simp [ordI, h2], by omega⟩
theorem cmpLH_val {xs ys : List Int} (hx : AllH xs) (hy : AllH ys) : (cmpL xs ys = 0 ∧ valH xs = valH ys) ∨ (cmpL xs ys = -1 ∧ valH xs < valH ys) ∨ (cmpL xs ys = 1 ∧ valH ys < valH xs) := by
  unfold cmpL
  by_cases h : tlen xs = tlen ys
  · rw [if_pos h]
    have := cmpToH_val hx hy (tlen xs)
    have e : vH ys (tlen xs) = valH ys := by rw [h, vH_trim]
    rw [vH_trim, e] at this
    exact this
  · rw [if_neg h]
    by_cases h2 : tlen xs < tlen ys
    · right; left
      refine ⟨by simp [ordI, h2], ?_⟩
      have h1 := valH_ge hy (by omega)
      have h3 := valH_lt_tlen hx
      have h4 := pwH_mono (show tlen xs ≤ tlen ys - 1 by omega)
      omega
    · right; right
      refine ⟨by simp [ordI, h2], ?_⟩
      have h1 := valH_ge hx (by omega)
      have h3 := valH_lt_tlen hy
      have h4 := pwH_mono (show tlen ys ≤ tlen xs - 1 by omega)
      omega
theorem cmpLH_zero {xs ys : List Int} (hx : AllH xs) (hy : AllH ys) (h : valH xs = valH ys) : cmpL xs ys = 0 := by
  rcases cmpLH_val hx hy with h1 | h1 | h1 <;> omega

/-! ### halves and wholes -/
theorem allH_hv {xs : List Int} (h : AllW xs) : AllH (hv xs) := by
  induction xs with
  | nil => exact AllH.nil
  | cons x xs ih =>
    have hx := h x (List.mem_cons_self)
    have := ih (fun y hy => h y (List.mem_cons_of_mem _ hy))
    intro y hy
    simp only [hv, List.mem_cons] at hy
    rcases hy with rfl | rfl | hy
    · omega
    · exact ⟨by have := hx.1; omega, by have := hx.2; omega⟩
    · exact this y hy
theorem pwH_two (n : Nat) : pwH (2 * n) = pw n := by
  induction n with
  | zero => rfl
  | succ n ih => rw [show 2 * (n + 1) = 2 * n + 1 + 1 by omega, pwH_succ, pwH_succ, ih, pw_succ, Int.mul_assoc]; rfl
theorem lm_hv (xs : List Int) (i : Nat) : lm (hv xs) (2 * i) = lm xs i % 4294967296 ∧ lm (hv xs) (2 * i + 1) = lm xs i / 4294967296 := by
  induction xs generalizing i with
  | nil => simp [hv, lm]
  | cons x xs ih =>
    cases i with
    | zero => simp [hv, lm]
    | succ i =>
      have := ih i
      rw [show 2 * (i + 1) = (2 * i) + 1 + 1 by omega]
      simp only [hv, lm, List.getD_cons_succ] at this ⊢
      exact this
theorem vH_hv (xs : List Int) (n : Nat) : vH (hv xs) (2 * n) = vS xs n := by
  induction n with
  | zero => rfl
  | succ n ih =>
    rw [show 2 * (n + 1) = 2 * n + 1 + 1 by omega]
    simp only [vH, vS]
    obtain ⟨a, b⟩ := lm_hv xs n
    rw [ih, a, b, pwH_succ, pwH_two]
    have e : lm xs n / 4294967296 * (pw n * 4294967296) = lm xs n / 4294967296 * 4294967296 * pw n := by rw [Int.mul_comm (pw n), Int.mul_assoc]
    rw [e, Int.add_assoc, ← Int.add_mul]
    congr 2
    omega
theorem valH_hv (xs : List Int) : valH (hv xs) = val xs := by
  unfold valH val; rw [length_hv]; exact vH_hv xs _
theorem cmpTo_take {xs ys : List Int} {n m : Nat} (k : Nat) (h1 : k ≤ n) (h2 : k ≤ m) : cmpTo (xs.take n) (ys.take m) k = cmpTo xs ys k := by
  induction k with
  | zero => rfl
  | succ k ih => simp only [cmpTo]; rw [lm_take (by omega), lm_take (by omega), ih (by omega) (by omega)]
end Go.Proofs.YtfelogbfijomiaaDoor

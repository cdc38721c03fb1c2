import Derived.Test.YtfelogbfijomiabGreatDoorSumAll
namespace Go.Proofs.YtfelogbfijomiabGreatDoor
open Go.RowKit

/-! ### What the limbs are worth -/
def pw (k : Nat) : Int := 18446744073709551616 ^ k
theorem pw_zero : pw 0 = 1 := rfl
theorem pw_succ (k : Nat) : pw (k + 1) = pw k * 18446744073709551616 := Int.pow_succ _ _
theorem pw_pos (k : Nat) : 0 < pw k := Int.pow_pos (by decide)
theorem pw_add (a b : Nat) : pw (a + b) = pw a * pw b := Int.pow_add _ _ _
theorem pw_mono {a b : Nat} (h : a ≤ b) : pw a ≤ pw b := by
  obtain ⟨c, rfl⟩ : ∃ c, b = a + c := ⟨b - a, by omega⟩
  rw [pw_add]
  have h1 := pw_pos c
  have h2 := pw_pos a
  have := Int.mul_le_mul_of_nonneg_left (a := 1) (b := pw c) (c := pw a) (by omega) (by omega)
  omega
/-- The first n limbs' worth. -/
def vS (us : List Int) : Nat → Int
  | 0 => 0
  | n + 1 => vS us n + lm us n * pw n
def val (us : List Int) : Int := vS us us.length

theorem vS_congr {us vs : List Int} {n : Nat} (h : ∀ i, i < n → lm us i = lm vs i) : vS us n = vS vs n := by
  induction n with
  | zero => rfl
  | succ n ih => simp only [vS]; rw [ih (fun i hi => h i (by omega)), h n (by omega)]
theorem vS_set_ge {us : List Int} {n i : Nat} {z : Int} (h : n ≤ i) : vS (us.set i z) n = vS us n :=
  vS_congr fun j hj => by rw [lm_set, if_neg (by omega)]
theorem vS_set {us : List Int} {n i : Nat} (z : Int) (h : i < n) (hl : i < us.length) : vS (us.set i z) n = vS us n + (z - lm us i) * pw i := by
  induction n with
  | zero => omega
  | succ n ih =>
    simp only [vS]
    rcases Nat.lt_or_ge i n with h1 | h1
    · rw [ih h1, lm_set, if_neg (by omega)]; omega
    · obtain rfl : i = n := by omega
      rw [vS_set_ge (Nat.le_refl _), lm_set, if_pos ⟨rfl, hl⟩, Int.sub_mul]; omega
theorem vS_tail {us : List Int} {m n : Nat} (hmn : m ≤ n) (h : ∀ i, m ≤ i → i < n → lm us i = 0) : vS us n = vS us m := by
  induction n with
  | zero => obtain rfl : m = 0 := by omega
            rfl
  | succ n ih =>
    rcases Nat.lt_or_ge n m with h1 | h1
    · obtain rfl : m = n + 1 := by omega
      rfl
    · simp only [vS]; rw [ih h1 (fun i a b => h i a (by omega)), h n h1 (by omega)]; omega
theorem vS_long {us : List Int} {n : Nat} (h : us.length ≤ n) : vS us n = val us := vS_tail h (fun _ a _ => lm_ge a)
theorem vS_nn {us : List Int} (hu : AllW us) (n : Nat) : 0 ≤ vS us n ∧ vS us n < pw n := by
  induction n with
  | zero => simp [vS, pw]
  | succ n ih =>
    simp only [vS]
    rw [pw_succ]
    have h := hu.at n
    have hp := pw_pos n
    have h1 : 0 ≤ lm us n * pw n := Int.mul_nonneg h.1 (by omega)
    have h2 : lm us n * pw n ≤ 18446744073709551615 * pw n := Int.mul_le_mul_of_nonneg_right (by omega) (by omega)
    omega
theorem val_nn {us : List Int} (hu : AllW us) : 0 ≤ val us := (vS_nn hu _).1
theorem val_lt {us : List Int} (hu : AllW us) : val us < pw us.length := (vS_nn hu _).2
theorem vS_trim (xs : List Int) : vS xs (tlen xs) = val xs := (vS_tail (tl_le _ _) (tl_spec xs xs.length).1).symm
theorem val_trimL (xs : List Int) : val (trimL xs) = val xs := by
  unfold val
  rw [length_trimL]
  show _ = val xs
  rw [← vS_trim]
  exact vS_congr fun i hi => by unfold trimL; rw [lm_take hi]
theorem AllW.trim {xs : List Int} (h : AllW xs) : AllW (trimL xs) := h.take _
theorem lm_trimL {xs : List Int} {i : Nat} (h : i < tlen xs) : lm (trimL xs) i = lm xs i := by unfold trimL; rw [lm_take h]

/-- With k limbs that count a number is as great as the k-1st power. -/
theorem val_ge {xs : List Int} (hx : AllW xs) (h : 0 < tlen xs) : pw (tlen xs - 1) ≤ val xs := by
  rw [← vS_trim]
  obtain ⟨k, hk⟩ : ∃ k, tlen xs = k + 1 := ⟨tlen xs - 1, by omega⟩
  rw [hk]
  simp only [vS]
  have hne := (tl_spec xs xs.length).2 h
  have e : tl xs xs.length = k + 1 := hk
  rw [e] at hne
  simp only [Nat.add_sub_cancel] at hne ⊢
  have h1 := hx.at k
  have h2 := (vS_nn hx k).1
  have h3 : 1 * pw k ≤ lm xs k * pw k := Int.mul_le_mul_of_nonneg_right (by omega) (by have := pw_pos k; omega)
  omega
theorem val_lt_tlen {xs : List Int} (hx : AllW xs) : val xs < pw (tlen xs) := by rw [← vS_trim]; exact (vS_nn hx _).2
theorem tlen_zero {xs : List Int} (hx : AllW xs) : tlen xs = 0 ↔ val xs = 0 := by
  constructor
  · intro h; have := val_lt_tlen hx; have h2 := val_nn hx; rw [h, pw_zero] at this; omega
  · intro h
    rcases Nat.eq_zero_or_pos (tlen xs) with e | e
    · exact e
    · have := val_ge hx e; have h2 := pw_pos (tlen xs - 1); omega
theorem tlen_mono {xs ys : List Int} (hx : AllW xs) (hy : AllW ys) (h : val xs ≤ val ys) : tlen xs ≤ tlen ys := by
  rcases Nat.lt_or_ge (tlen ys) (tlen xs) with e | e
  · have h1 := val_ge hx (by omega)
    have h2 := val_lt_tlen hy
    have h3 := pw_mono (show tlen ys ≤ tlen xs - 1 by omega)
    omega
  · exact e

/-! ### the order -/
theorem cmpTo_val {xs ys : List Int} (hx : AllW xs) (hy : AllW ys) (k : Nat) : (cmpTo xs ys k = 0 ∧ vS xs k = vS ys k) ∨ (cmpTo xs ys k = -1 ∧ vS xs k < vS ys k) ∨ (cmpTo xs ys k = 1 ∧ vS ys k < vS xs k) := by
  induction k with
  | zero => simp [cmpTo, vS]
  | succ k ih =>
    simp only [vS]
    by_cases h : lm xs k = lm ys k
    · rw [cmpTo_eq h, h]; omega
    · rw [cmpTo_ne h]
      have a := vS_nn hx k
      have b := vS_nn hy k
      have hp := pw_pos k
      by_cases h2 : lm xs k < lm ys k
      · have := Int.mul_le_mul_of_nonneg_right (a := lm xs k + 1) (b := lm ys k) (c := pw k) (by omega) (by omega)
        rw [Int.add_mul] at this
        right; left
        exact ⟨by simp [ordI, h2], by omega⟩
      · have := Int.mul_le_mul_of_nonneg_right (a := lm ys k + 1) (b := lm xs k) (c := pw k) (by omega) (by omega)
        rw [Int.add_mul] at this
        right; right
        exact ⟨by simp [ordI, h2], by omega⟩
theorem cmpL_val {xs ys : List Int} (hx : AllW xs) (hy : AllW ys) : (cmpL xs ys = 0 ∧ val xs = val ys) ∨ (cmpL xs ys = -1 ∧ val xs < val ys) ∨ (cmpL xs ys = 1 ∧ val ys < val xs) := by
  unfold cmpL
  by_cases h : tlen xs = tlen ys
  · rw [if_pos h]
    have := cmpTo_val hx hy (tlen xs)
    have e : vS ys (tlen xs) = val ys := by rw [h, vS_trim]
    rw [vS_trim, e] at this
    exact this
  · rw [if_neg h]
    by_cases h2 : tlen xs < tlen ys
    · right; left
      refine ⟨by simp [ordI, h2], ?_⟩
      have h1 := val_ge hy (by omega)
      have h3 := val_lt_tlen hx
      have h4 := pw_mono (show tlen xs ≤ tlen ys - 1 by omega)
      omega
    · right; right
      refine ⟨by simp [ordI, h2], ?_⟩
      have h1 := val_ge hx (by omega)
      have h3 := val_lt_tlen hy
      have h4 := pw_mono (show tlen ys ≤ tlen xs - 1 by omega)
      omega
theorem cmpL_zero {xs ys : List Int} (hx : AllW xs) (hy : AllW ys) (h : val xs = val ys) : cmpL xs ys = 0 := by
  rcases cmpL_val hx hy with h1 | h1 | h1 <;> omega
theorem bitsL_zero {xs : List Int} (hx : AllW xs) (h : val xs = 0) : bitsL xs = 0 := by
  unfold bitsL; rw [if_pos ((tlen_zero hx).2 h)]

/-! ### sums -/
theorem mod_mul (s T : Int) : (s % 18446744073709551616) * T + s / 18446744073709551616 * (T * 18446744073709551616) = s * T := by
  have h : s = s % 18446744073709551616 + s / 18446744073709551616 * 18446744073709551616 := by omega
  have e : s / 18446744073709551616 * (T * 18446744073709551616) = s / 18446744073709551616 * 18446744073709551616 * T := by
    rw [Int.mul_comm T, Int.mul_assoc]
  rw [e, ← Int.add_mul, ← h]
theorem addR_val {us ys : List Int} (o : Nat) (k N : Nat) (h : o + k ≤ N) (hl : o + k ≤ us.length) : vS (addR us o ys k).1 N + (addR us o ys k).2 * pw (o + k) = vS us N + pw o * vS ys k := by
  induction k with
  | zero => simp [addR, vS]
  | succ k ih =>
    have ih := ih (by omega) (by omega)
    simp only [addR, vS]
    have hlen : (addR us o ys k).1.length = us.length := length_addR _ _ _ _
    generalize (addR us o ys k).1 = U at *
    generalize (addR us o ys k).2 = C at *
    rw [vS_set _ (by omega) (by omega), show o + (k + 1) = (o + k) + 1 by omega, pw_succ, Int.mul_add]
    have e1 := mod_mul (lm U (o + k) + lm ys k + C) (pw (o + k))
    have e2 : pw o * (lm ys k * pw k) = lm ys k * pw (o + k) := by rw [pw_add, Int.mul_left_comm]
    rw [e2]
    rw [Int.sub_mul]
    rw [Int.add_mul, Int.add_mul] at e1
    generalize (lm U (o + k) + lm ys k + C) % 18446744073709551616 * pw (o + k) = A at *
    generalize (lm U (o + k) + lm ys k + C) / 18446744073709551616 * (pw (o + k) * 18446744073709551616) = D at *
    omega
theorem rip_val (o n N : Nat) : ∀ (f : Nat) (u : List Int) (c : Int), f ≤ n → AllW u → 0 ≤ c → c ≤ 1 → o + n ≤ N → o + n ≤ u.length → AllW (rip o n f u c) ∧ ∃ c', 0 ≤ c' ∧ c' ≤ 1 ∧ vS (rip o n f u c) N + c' * pw (o + n) = vS u N + c * pw (o + (n - f))
  | 0, u, c, _, hu, h0, h1, _, _ => ⟨hu, c, h0, h1, by simp [rip]⟩
  | f + 1, u, c, hf, hu, h0, h1, hN, hl => by
    unfold rip
    split
    · have a := hu.at (o + (n - (f + 1)))
      obtain ⟨h2, c', h3, h4, h5⟩ := rip_val o n N f (u.set (o + (n - (f + 1))) ((lm u (o + (n - (f + 1))) + c) % 18446744073709551616)) ((lm u (o + (n - (f + 1))) + c) / 18446744073709551616) (by omega) (hu.set _ _ (word_mod _)) (by omega) (by omega) hN (by simpa using hl)
      refine ⟨h2, c', h3, h4, ?_⟩
      rw [h5, vS_set _ (by omega) (by omega), show o + (n - f) = (o + (n - (f + 1))) + 1 by omega, pw_succ]
      have e1 := mod_mul (lm u (o + (n - (f + 1))) + c) (pw (o + (n - (f + 1))))
      rw [Int.add_mul] at e1
      rw [Int.sub_mul]
      omega
    · exact ⟨hu, 0, by omega, by omega, by have : c = 0 := by omega
                                           rw [this]; simp⟩
theorem addF_val {us ys : List Int} {n : Nat} (hu : AllW us) (hy : AllW ys) (hn : n = us.length) (hle : ys.length ≤ n) (hb : val us + val ys < pw n) : AllW (addF us 0 n ys) ∧ val (addF us 0 n ys) = val us + val ys := by
  obtain ⟨a1, a2, a3, a4⟩ := addR_ok 0 hu hy ys.length
  have e := addR_val (us := us) (ys := ys) 0 ys.length n (by omega) (by omega)
  unfold addF
  obtain ⟨h2, c', h3, h4, h5⟩ := rip_val 0 n n (n - ys.length) (addR us 0 ys ys.length).1 (addR us 0 ys ys.length).2 (by omega) a1 a3 a4 (by omega) (by omega)
  refine ⟨h2, ?_⟩
  rw [show 0 + (n - (n - ys.length)) = 0 + ys.length by omega, e, pw_zero] at h5
  have hlen : (rip 0 n (n - ys.length) (addR us 0 ys ys.length).1 (addR us 0 ys ys.length).2).length = n := by rw [length_rip, a2, hn]
  have e6 : vS us n = val us := by rw [hn]; rfl
  have e7 : vS ys ys.length = val ys := rfl
  have e8 : vS (rip 0 n (n - ys.length) (addR us 0 ys ys.length).1 (addR us 0 ys ys.length).2) n = val (rip 0 n (n - ys.length) (addR us 0 ys ys.length).1 (addR us 0 ys ys.length).2) := vS_long (by omega)
  rw [e6, e7, e8] at h5
  have hnn := val_nn h2
  have hc : c' = 0 := by
    rcases Int.lt_or_le 0 c' with h | h
    · have : c' = 1 := by omega
      rw [this, Nat.zero_add] at h5
      omega
    · omega
  rw [hc] at h5
  omega
theorem val_snoc (xs : List Int) : val (xs ++ [0]) = val xs := by
  unfold val
  rw [List.length_append]
  show vS (xs ++ [0]) (xs.length + 1) = _
  simp only [vS]
  rw [lm_append_right (Nat.le_refl _)]
  have : vS (xs ++ [0]) xs.length = vS xs xs.length := vS_congr fun i hi => lm_append_left hi
  rw [this]
  simp [lm]
theorem addL_val {xs ys : List Int} (hx : AllW xs) (hy : AllW ys) : AllW (addL xs ys) ∧ val (addL xs ys) = val xs + val ys := by
  have bx := val_lt_tlen hx
  have by' := val_lt_tlen hy
  unfold addL
  split
  · rename_i h
    have hm := pw_mono (show tlen xs ≤ tlen ys by omega)
    have h0 := pw_pos (tlen ys)
    have := addF_val (us := trimL ys ++ [0]) (ys := trimL xs) (n := tlen ys + 1) (hy.trim.append (AllW.replicate 1)) hx.trim (by simp [length_trimL]) (by rw [length_trimL]; omega) (by rw [val_snoc, val_trimL, val_trimL, pw_succ]; omega)
    rw [val_snoc, val_trimL, val_trimL] at this
    exact ⟨this.1, by omega⟩
  · rename_i h
    have hm := pw_mono (show tlen ys ≤ tlen xs by omega)
    have h0 := pw_pos (tlen xs)
    have := addF_val (us := trimL xs ++ [0]) (ys := trimL ys) (n := tlen xs + 1) (hx.trim.append (AllW.replicate 1)) hy.trim (by simp [length_trimL]) (by rw [length_trimL]; omega) (by rw [val_snoc, val_trimL, val_trimL, pw_succ]; omega)
    rw [val_snoc, val_trimL, val_trimL] at this
    exact this
theorem length_addL (xs ys : List Int) : (addL xs ys).length ≤ xs.length + ys.length + 1 := by
  have h1 : tlen xs ≤ xs.length := tl_le _ _
  have h2 : tlen ys ≤ ys.length := tl_le _ _
  unfold addL
  split <;> rw [length_addF, List.length_append, length_trimL] <;> simp <;> omega

/-! ### differences -/
theorem bor_mul (x y T : Int) (hx : 0 ≤ x) (hx' : x < 18446744073709551616) (hy : 0 ≤ y) (hy' : y ≤ 18446744073709551616) : (x - y) % 18446744073709551616 * T - bor x y * (T * 18446744073709551616) = (x - y) * T := by
  unfold bor
  split
  · have h : (x - y) % 18446744073709551616 = x - y + 18446744073709551616 := by omega
    rw [h, Int.add_mul, Int.one_mul, Int.mul_comm T]; omega
  · have h : (x - y) % 18446744073709551616 = x - y := by omega
    rw [h]; omega
theorem subR_val {us ys : List Int} (hu : AllW us) (hy : AllW ys) (o : Nat) (k N : Nat) (h : o + k ≤ N) (hl : o + k ≤ us.length) : vS (subR us o ys k).1 N - (subR us o ys k).2 * pw (o + k) = vS us N - pw o * vS ys k := by
  induction k with
  | zero => simp [subR, vS]
  | succ k ih =>
    have ih := ih (by omega) (by omega)
    obtain ⟨h1, h2, h3, h4⟩ := subR_ok (us := us) (ys := ys) o hu k
    simp only [subR, vS]
    generalize (subR us o ys k).1 = U at *
    generalize (subR us o ys k).2 = C at *
    rw [vS_set _ (by omega) (by omega), show o + (k + 1) = (o + k) + 1 by omega, pw_succ, Int.mul_add]
    have a := h1.at (o + k)
    have b := hy.at k
    have e1 := bor_mul (lm U (o + k)) (lm ys k + C) (pw (o + k)) a.1 a.2 (by omega) (by omega)
    have e2 : pw o * (lm ys k * pw k) = lm ys k * pw (o + k) := by rw [pw_add, Int.mul_left_comm]
    rw [e2, Int.sub_mul]
    rw [show lm U (o + k) - (lm ys k + C) = lm U (o + k) - lm ys k - C by omega, Int.sub_mul, Int.sub_mul] at e1
    generalize (lm U (o + k) - lm ys k - C) % 18446744073709551616 * pw (o + k) = A at *
    generalize bor (lm U (o + k)) (lm ys k + C) * (pw (o + k) * 18446744073709551616) = D at *
    omega
theorem sip_val (o n N : Nat) : ∀ (f : Nat) (u : List Int) (c : Int), f ≤ n → AllW u → 0 ≤ c → c ≤ 1 → o + n ≤ N → o + n ≤ u.length → AllW (sip o n f u c).1 ∧ 0 ≤ (sip o n f u c).2 ∧ (sip o n f u c).2 ≤ 1 ∧ vS (sip o n f u c).1 N - (sip o n f u c).2 * pw (o + n) = vS u N - c * pw (o + (n - f))
  | 0, u, c, _, hu, h0, h1, _, _ => ⟨hu, h0, h1, by simp [sip]⟩
  | f + 1, u, c, hf, hu, h0, h1, hN, hl => by
    unfold sip
    split
    · have a := hu.at (o + (n - (f + 1)))
      have hb := bor_01 (lm u (o + (n - (f + 1)))) c
      obtain ⟨h2, h3, h4, h5⟩ := sip_val o n N f (u.set (o + (n - (f + 1))) ((lm u (o + (n - (f + 1))) - c) % 18446744073709551616)) (bor (lm u (o + (n - (f + 1)))) c) (by omega) (hu.set _ _ (word_mod _)) hb.1 hb.2 hN (by simpa using hl)
      refine ⟨h2, h3, h4, ?_⟩
      rw [h5, vS_set _ (by omega) (by omega), show o + (n - f) = (o + (n - (f + 1))) + 1 by omega, pw_succ]
      have e1 := bor_mul (lm u (o + (n - (f + 1)))) c (pw (o + (n - (f + 1)))) a.1 a.2 h0 (by omega)
      rw [Int.sub_mul] at e1
      rw [Int.sub_mul]
      omega
    · have : c = 0 := by omega
      subst this
      exact ⟨hu, h0, h1, by simp⟩
theorem subF_val {us ys : List Int} {n : Nat} (hu : AllW us) (hy : AllW ys) (hn : n = us.length) (hle : ys.length ≤ n) (hb : val ys ≤ val us) : (subF us 0 n ys).2 = 0 ∧ AllW (subF us 0 n ys).1 ∧ val (subF us 0 n ys).1 = val us - val ys := by
  obtain ⟨a1, a2, a3, a4⟩ := subR_ok (us := us) (ys := ys) 0 hu ys.length
  have e := subR_val hu hy 0 ys.length n (by omega) (by omega)
  have hlen : (subF us 0 n ys).1.length = n := by rw [length_subF, hn]
  obtain ⟨h2, h3, h4, h5⟩ := sip_val 0 n n (n - ys.length) (subR us 0 ys ys.length).1 (subR us 0 ys ys.length).2 (by omega) a1 a3 a4 (by omega) (by omega)
  have hF : sip 0 n (n - ys.length) (subR us 0 ys ys.length).1 (subR us 0 ys ys.length).2 = subF us 0 n ys := rfl
  rw [hF] at h2 h3 h4 h5
  rw [show 0 + (n - (n - ys.length)) = 0 + ys.length by omega, e, pw_zero] at h5
  have e6 : vS us n = val us := by rw [hn]; rfl
  have e7 : vS ys ys.length = val ys := rfl
  have e8 : vS (subF us 0 n ys).1 n = val (subF us 0 n ys).1 := vS_long (by omega)
  rw [e6, e7, e8] at h5
  have hlt := val_lt h2
  rw [hlen] at hlt
  have hc : (subF us 0 n ys).2 = 0 := by
    rcases Int.lt_or_le 0 (subF us 0 n ys).2 with h | h
    · have : (subF us 0 n ys).2 = 1 := by omega
      rw [this, Nat.zero_add] at h5
      omega
    · omega
  rw [hc] at h5
  exact ⟨hc, h2, by omega⟩
theorem subL_val {xs ys : List Int} (hx : AllW xs) (hy : AllW ys) (h : val ys ≤ val xs) : tlen ys ≤ tlen xs ∧ (subF (trimL xs) 0 (tlen xs) (trimL ys)).2 = 0 ∧ AllW (subL xs ys) ∧ val (subL xs ys) = val xs - val ys := by
  have hle := tlen_mono hy hx h
  have := subF_val (us := trimL xs) (ys := trimL ys) (n := tlen xs) hx.trim hy.trim (length_trimL xs).symm (by rw [length_trimL]; exact hle) (by rw [val_trimL, val_trimL]; exact h)
  rw [val_trimL, val_trimL] at this
  exact ⟨hle, this⟩
theorem length_subL (xs ys : List Int) : (subL xs ys).length = tlen xs := by unfold subL; rw [length_subF, length_trimL]

/-! ### products -/
theorem mulR_val {us ys : List Int} (o : Nat) (l : Int) (k N : Nat) (h : o + k ≤ N) (hl : o + k ≤ us.length) : (mulR us o ys l k).1.length = us.length ∧ vS (mulR us o ys l k).1 N + (mulR us o ys l k).2 * pw (o + k) = vS us N + pw o * (vS ys k * l) := by
  induction k with
  | zero => simp [mulR, vS]
  | succ k ih =>
    obtain ⟨hlen, ih⟩ := ih (by omega) (by omega)
    simp only [mulR, vS]
    generalize (mulR us o ys l k).1 = U at *
    generalize (mulR us o ys l k).2 = C at *
    refine ⟨by simp [hlen], ?_⟩
    rw [vS_set _ (by omega) (by omega), show o + (k + 1) = (o + k) + 1 by omega, pw_succ, Int.add_mul (vS ys k), Int.mul_add]
    have e1 := mod_mul (lm U (o + k) + lm ys k * l + C) (pw (o + k))
    have e2 : pw o * (lm ys k * pw k * l) = lm ys k * l * pw (o + k) := by
      rw [pw_add, Int.mul_right_comm (lm ys k), Int.mul_left_comm]
    rw [e2, Int.sub_mul]
    rw [Int.add_mul, Int.add_mul] at e1
    generalize (lm U (o + k) + lm ys k * l + C) % 18446744073709551616 * pw (o + k) = A at *
    generalize (lm U (o + k) + lm ys k * l + C) / 18446744073709551616 * (pw (o + k) * 18446744073709551616) = D at *
    omega
/-- Beyond what it looks at addTimes changes nothing. -/
theorem mulR_far {us ys : List Int} (o : Nat) (l : Int) (k i : Nat) (h : o + k ≤ i) : lm (mulR us o ys l k).1 i = lm us i := by
  induction k with
  | zero => rfl
  | succ k ih => simp only [mulR]; rw [lm_set, if_neg (by omega), ih (by omega)]
theorem mulO_val {xs ys : List Int} (hx : AllW xs) (hy : AllW ys) (N k : Nat) (h : k + ys.length ≤ N) : (∀ i, k + ys.length ≤ i → lm (mulO xs ys N k) i = 0) ∧ vS (mulO xs ys N k) N = vS xs k * val ys := by
  induction k with
  | zero =>
    refine ⟨fun i _ => by simp only [mulO]; rw [lm_replicate], ?_⟩
    simp only [mulO, vS, Int.zero_mul]
    have := vS_tail (us := List.replicate N 0) (m := 0) (n := N) (by omega) (fun i _ _ => lm_replicate N i)
    rw [this]; rfl
  | succ k ih =>
    obtain ⟨ih1, ih2⟩ := ih (by omega)
    obtain ⟨ok1, ok2⟩ := mulO_ok N hx hy k
    obtain ⟨hlen, hv⟩ := mulR_val (us := mulO xs ys N k) (ys := ys) k (lm xs k) ys.length N (by omega) (by omega)
    have hfar := mulR_far (us := mulO xs ys N k) (ys := ys) k (lm xs k) ys.length
    simp only [mulO, vS]
    generalize mulO xs ys N k = U at *
    generalize (mulR U k ys (lm xs k) ys.length).1 = V at *
    generalize (mulR U k ys (lm xs k) ys.length).2 = C at *
    constructor
    · intro i hi
      rw [lm_set, if_neg (by omega), hfar i (by omega), ih1 i (by omega)]
    · rw [vS_set _ (by omega) (by omega), hfar (k + ys.length) (Nat.le_refl _), ih1 (k + ys.length) (Nat.le_refl _), Int.add_mul]
      have e : pw k * (vS ys ys.length * lm xs k) = lm xs k * pw k * val ys := by
        show pw k * (val ys * lm xs k) = _
        rw [Int.mul_comm (val ys), ← Int.mul_assoc, Int.mul_comm (pw k)]
      rw [e, ih2] at hv
      rw [show C - 0 = C by omega]
      omega
theorem mulL_val {xs ys : List Int} (hx : AllW xs) (hy : AllW ys) : AllW (mulL xs ys) ∧ val (mulL xs ys) = val xs * val ys := by
  obtain ⟨h1, h2⟩ := mulO_ok (xs := trimL xs) (ys := trimL ys) (tlen xs + tlen ys) hx.trim hy.trim (tlen xs)
  refine ⟨h1, ?_⟩
  have := (mulO_val hx.trim hy.trim (tlen xs + tlen ys) (tlen xs) (by rw [length_trimL]; omega)).2
  have e1 : vS (trimL xs) (tlen xs) = val xs := by
    rw [← vS_trim xs]; exact vS_congr fun i hi => lm_trimL hi
  rw [e1, val_trimL] at this
  rw [← this]
  exact (vS_long (by show (mulO _ _ _ _).length ≤ _; omega)).symm
theorem length_mulL (xs ys : List Int) (hx : AllW xs) (hy : AllW ys) : (mulL xs ys).length = tlen xs + tlen ys := (mulO_ok (xs := trimL xs) (ys := trimL ys) (tlen xs + tlen ys) hx.trim hy.trim (tlen xs)).2
end Go.Proofs.YtfelogbfijomiabGreatDoor

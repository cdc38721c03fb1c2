import Derived.Test.YtogdpgfccbohnaaDoorVal
namespace Go.Proofs.YtogdpgfccbohnaaDoor

/-! ### differences -/
theorem bor_mul (x y T : Int) (hx : 0 ≤ x) (hx' : x < 18446744073709551616) (hy : 0 ≤ y) (hy' : y ≤ 18446744073709551616) : (x - y) % 18446744073709551616 * T - bor x y * (T * 18446744073709551616) = (x - y) * T := by
  unfold bor
  split
  · have h : (x - y) % 18446744073709551616 = x - y + 18446744073709551616 := by omega
    rw [h, Int.add_mul, Int.one_mul, Int.mul_comm T]; omega
  · have h : (x - y) % 18446744073709551616 = x - y := by omega
    rw [h]; omega
theorem subR_val {us ys : List Int} (hu : AllW us) (hy : AllW ys) (o : Nat) (k N : Nat) (h : o + k ≤ N) (hl : o + k ≤ us.length) : vS (subR us o ys k).1 N - (subR us o ys k).2 * pw (o + k) = vS us N - pw o * vS ys k := by
  induction k with
  | zero => simp [subR, vS]
  | succ k ih =>
    have ih := ih (by omega) (by omega)
    obtain ⟨h1, h2, h3, h4⟩ := subR_ok (us := us) (ys := ys) o hu k
    simp only [subR, vS]
    generalize (subR us o ys k).1 = U at *
    generalize (subR us o ys k).2 = C at *
    rw [vS_set _ (by omega) (by omega), show o + (k + 1) = (o + k) + 1 by omega, pw_succ, Int.mul_add]
    have a := h1.at (o + k)
    have b := hy.at k
    have e1 := bor_mul (lm U (o + k)) (lm ys k + C) (pw (o + k)) a.1 a.2 (by omega) (by omega)
    have e2 : pw o * (lm ys k * pw k) = lm ys k * pw (o + k) := by rw [pw_add, Int.mul_left_comm]
    rw [e2, Int.sub_mul]
    rw [show lm U (o + k) - (lm ys k + C) = lm U (o + k) - lm ys k - C by omega, Int.sub_mul, Int.sub_mul] at e1
    generalize (lm U (o + k) - lm ys k - C) % 18446744073709551616 * pw (o + k) = A at *
    generalize bor (lm U (o + k)) (lm ys k + C) * (pw (o + k) * 18446744073709551616) = D at *
    omega
theorem sip_val (o n N : Nat) : ∀ (f : Nat) (u : List Int) (c : Int), f ≤ n → AllW u → 0 ≤ c → c ≤ 1 → o + n ≤ N → o + n ≤ u.length → AllW (sip o n f u c).1 ∧ 0 ≤ (sip o n f u c).2 ∧ (sip o n f u c).2 ≤ 1 ∧ vS (sip o n f u c).1 N - (sip o n f u c).2 * pw (o + n) = vS u N - c * pw (o + (n - f))
  | 0, u, c, _, hu, h0, h1, _, _ => ⟨hu, h0, h1, by simp [sip]⟩
  | f + 1, u, c, hf, hu, h0, h1, hN, hl => by
    unfold sip
    split
    · have a := hu.at (o + (n - (f + 1)))
      have hb := bor_01 (lm u (o + (n - (f + 1)))) c
      obtain ⟨h2, h3, h4, h5⟩ := sip_val o n N f (u.set (o + (n - (f + 1))) ((lm u (o + (n - (f + 1))) - c) % 18446744073709551616)) (bor (lm u (o + (n - (f + 1)))) c) (by omega) (hu.set _ _ (word_mod _)) hb.1 hb.2 hN (by simpa using hl)
      refine ⟨h2, h3, h4, ?_⟩
      rw [h5, vS_set _ (by omega) (by omega), show o + (n - f) = (o + (n - (f + 1))) + 1 by omega, pw_succ]
      have e1 := bor_mul (lm u (o + (n - (f + 1)))) c (pw (o + (n - (f + 1)))) a.1 a.2 h0 (by omega)
      rw [Int.sub_mul] at e1
      rw [Int.sub_mul]
      omega
    · have : c = 0 := by omega
      subst this
      exact ⟨hu, h0, h1, by simp⟩
theorem subF_val {us ys : List Int} {n : Nat} (hu : AllW us) (hy : AllW ys) (hn : n = us.length) (hle : ys.length ≤ n) (hb : val ys ≤ val us) : (subF us 0 n ys).2 = 0 ∧ AllW (subF us 0 n ys).1 ∧ val (subF us 0 n ys).1 = val us - val ys := by
  obtain ⟨a1, a2, a3, a4⟩ := subR_ok (us := us) (ys := ys) 0 hu ys.length
  have e := subR_val hu hy 0 ys.length n (by omega) (by omega)
  have hlen : (subF us 0 n ys).1.length = n := by rw [length_subF, hn]
  obtain ⟨h2, h3, h4, h5⟩ := sip_val 0 n n (n - ys.length) (subR us 0 ys ys.length).1 (subR us 0 ys ys.length).2 (by omega) a1 a3 a4 (by omega) (by omega)
  have hF : sip 0 n (n - ys.length) (subR us 0 ys ys.length).1 (subR us 0 ys ys.length).2 = subF us 0 n ys := rfl
  rw [hF] at h2 h3 h4 h5
  rw [show 0 + (n - (n - ys.length)) = 0 + ys.length by omega, e, pw_zero] at h5
  have e6 : vS us n = val us := by rw [hn]; rfl
  have e7 : vS ys ys.length = val ys := rfl
  have e8 : vS (subF us 0 n ys).1 n = val (subF us 0 n ys).1 := vS_long (by omega)
  rw [e6, e7, e8] at h5
  have hlt := val_lt h2
  rw [hlen] at hlt
  have hc : (subF us 0 n ys).2 = 0 := by
    rcases Int.lt_or_le 0 (subF us 0 n ys).2 with h | h
    · have : (subF us 0 n ys).2 = 1 := by omega
      rw [this, Nat.zero_add] at h5
      omega
    · omega
  rw [hc] at h5
  exact ⟨hc, h2, by omega⟩
theorem subL_val {xs ys : List Int} (hx : AllW xs) (hy : AllW ys) (h : val ys ≤ val xs) : tlen ys ≤ tlen xs ∧ (subF (trimL xs) 0 (tlen xs) (trimL ys)).2 = 0 ∧ AllW (subL xs ys) ∧ val (subL xs ys) = val xs - val ys := by
  have hle := tlen_mono hy hx h
  have := subF_val (us := trimL xs) (ys := trimL ys) (n := tlen xs) hx.trim hy.trim (length_trimL xs).symm (by rw [length_trimL]; exact hle) (by rw [val_trimL, val_trimL]; exact h)
  rw [val_trimL, val_trimL] at this
  exact ⟨hle, this⟩
theorem length_subL (xs ys : List Int) : (subL xs ys).length = tlen xs := by unfold subL; rw [length_subF, length_trimL]

/-! ### products -/
theorem mulR_val {us ys : List Int} (o : Nat) (l : Int) (k N : Nat) (h : o + k ≤ N) (hl : o + k ≤ us.length) : (mulR us o ys l k).1.length = us.length ∧ vS (mulR us o ys l k).1 N + (mulR us o ys l k).2 * pw (o + k) = vS us N + pw o * (vS ys k * l) := by
  induction k with
  | zero => simp [mulR, vS]
  | succ k ih =>
    obtain ⟨hlen, ih⟩ := ih (by omega) (by omega)
    simp only [mulR, vS]
    generalize (mulR us o ys l k).1 = U at *
    generalize (mulR us o ys l k).2 = C at *
    refine ⟨by simp [hlen], ?_⟩
    rw [vS_set _ (by omega) (by omega), show o + (k + 1) = (o + k) + 1 by omega, pw_succ, Int.add_mul (vS ys k), Int.mul_add]
    have e1 := mod_mul (lm U (o + k) + lm ys k * l + C) (pw (o + k))
    have e2 : pw o * (lm ys k * pw k * l) = lm ys k * l * pw (o + k) := by
      rw [pw_add, Int.mul_right_comm (lm ys k), Int.mul_left_comm]
    rw [e2, Int.sub_mul]
    rw [Int.add_mul, Int.add_mul] at e1
    generalize (lm U (o + k) + lm ys k * l + C) % 18446744073709551616 * pw (o + k) = A at *
    generalize (lm U (o + k) + lm ys k * l + C) / 18446744073709551616 * (pw (o + k) * 18446744073709551616) = D at *
    omega
/-- Beyond what it looks at addTimes changes nothing. -/
theorem mulR_far {us ys : List Int} (o : Nat) (l : Int) (k i : Nat) (h : o + k ≤ i) : lm (mulR us o ys l k).1 i = lm us i := by
  induction k with
  | zero => rfl
  | succ k ih => simp only [mulR]; rw [lm_set, if_neg (by omega), ih (by omega)]
theorem mulO_val {xs ys : List Int} (hx : AllW xs) (hy : AllW ys) (N k : Nat) (h : k + ys.length ≤ N) : (∀ i, k + ys.length ≤ i → lm (mulO xs ys N k) i = 0) ∧ vS (mulO xs ys N k) N = vS xs k * val ys := by
  induction k with
  | zero =>
    refine ⟨fun i _ => by simp only [mulO]; rw [lm_replicate], ?_⟩
    simp only [mulO, vS, Int.zero_mul]
    have := vS_tail (us := List.replicate N 0) (m := 0) (n := N) (by omega) (fun i _ _ => lm_replicate N i)
    rw [this]; rfl
  | succ k ih =>
    obtain ⟨ih1, ih2⟩ := ih (by omega)
    obtain ⟨ok1, ok2⟩ := mulO_ok N hx hy k
    obtain ⟨hlen, hv⟩ := mulR_val (us := mulO xs ys N k) (ys := ys) k (lm xs k) ys.length N (by omega) (by omega)
    have hfar := mulR_far (us := mulO xs ys N k) (ys := ys) k (lm xs k) ys.length
    simp only [mulO, vS]
    generalize mulO xs ys N k = U at *
    generalize (mulR U k ys (lm xs k) ys.length).1 = V at *
    generalize (mulR U k ys (lm xs k) ys.length).2 = C at *
    constructor
    · intro i hi
      rw [lm_set, if_neg (by omega), hfar i (by omega), ih1 i (by omega)]
    · rw [vS_set _ (by omega) (by omega), hfar (k + ys.length) (Nat.le_refl _), ih1 (k + ys.length) (Nat.le_refl _), Int.add_mul]
      have e : pw k * (vS ys ys.length * lm xs k) = lm xs k * pw k * val ys := by
        show pw k * (val ys * lm xs k) = _
        rw [Int.mul_comm (val ys), ← Int.mul_assoc, Int.mul_comm (pw k)]
      rw [e, ih2] at hv
      rw [show C - 0 = C by omega]
      omega
theorem mulL_val {xs ys : List Int} (hx : AllW xs) (hy : AllW ys) : AllW (mulL xs ys) ∧ val (mulL xs ys) = val xs * val ys := by
  obtain ⟨h1, h2⟩ := mulO_ok (xs := trimL xs) (ys := trimL ys) (tlen xs + tlen ys) hx.trim hy.trim (tlen xs)
  refine ⟨h1, ?_⟩
  have := (mulO_val hx.trim hy.trim (tlen xs + tlen ys) (tlen xs) (by rw [length_trimL]; omega)).2
  have e1 : vS (trimL xs) (tlen xs) = val xs := by
    rw [← vS_trim xs]; exact vS_congr fun i hi => lm_trimL hi
  rw [e1, val_trimL] at this
  rw [← this]
  exact (vS_long (by show (mulO _ _ _ _).length ≤ _; omega)).symm
theorem length_mulL (xs ys : List Int) (hx : AllW xs) (hy : AllW ys) : (mulL xs ys).length = tlen xs + tlen ys := (mulO_ok (xs := trimL xs) (ys := trimL ys) (tlen xs + tlen ys) hx.trim hy.trim (tlen xs)).2
end Go.Proofs.YtogdpgfccbohnaaDoor

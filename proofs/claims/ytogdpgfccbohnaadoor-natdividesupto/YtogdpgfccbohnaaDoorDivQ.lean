import Derived.Test.YtogdpgfccbohnaaDoorDivP
import Derived.Test.YtogdpgfccbohnaaDoorGot
import Derived.Test.YtogdpgfccbohnaaDoorGotN
namespace Go.Proofs.YtogdpgfccbohnaaDoor
open Go.RowKit

set_option maxHeartbeats 400000 in
/-- How many bits of nought a word has ahead. -/
theorem lead_any (x : Int) (w : World) (h0 : 0 < x) (h1 : x < 18446744073709551616) :
    Calls Tryd.prog 62 #[.int .u64 x] w fun e w' => ∃ s : Nat, e = .returned (.int .i64 s) ∧ s < 64 ∧ 9223372036854775808 ≤ x * 2 ^ s ∧ x * 2 ^ s < 18446744073709551616 ∧ w = w' := by
  obtain ⟨X, rfl⟩ := Int.eq_ofNat_of_zero_le (by omega : 0 ≤ x)
  obtain ⟨b1, b2, b3, b4⟩ := bitLen_spec X (by omega) (by omega)
  have hc := len64_any (X : Int) w (by omega) h1
  rw [Int.toNat_natCast] at hc
  generalize Lib.bitLen X = L at *
  obtain ⟨s, hs⟩ : ∃ s : Nat, s = 64 - L := ⟨_, rfl⟩
  have E : (64 : Int) - (L : Int) = (s : Int) := by omega
  have e1 : (2 : Nat) ^ (L - 1) * 2 ^ s = 9223372036854775808 := by rw [← Nat.pow_add, show L - 1 + s = 63 by omega]
  have e2 : (2 : Nat) ^ L * 2 ^ s = 18446744073709551616 := by rw [← Nat.pow_add, show L + s = 64 by omega]
  have f1 := Nat.mul_le_mul_right (2 ^ s) b3
  have f2 := Nat.mul_lt_mul_of_pos_right b1 (Nat.pow_pos (n := s) (by decide : 0 < 2))
  have HA : Hid (9223372036854775808 ≤ (X : Int) * 2 ^ s) := by
    have : (2 : Int) ^ s = ((2 ^ s : Nat) : Int) := by rw [Int.natCast_pow]; rfl
    show _ ≤ _
    rw [this, ← Int.natCast_mul]; omega
  have HB : Hid ((X : Int) * 2 ^ s < 18446744073709551616) := by
    have : (2 : Int) ^ s = ((2 ^ s : Nat) : Int) := by rw [Int.natCast_pow]; rfl
    show _ < _
    rw [this, ← Int.natCast_mul]; omega
  have hs64 : s < 64 := by omega
  clear e1 e2 f1 f2 b1 b3 hs
  go_enter Tryd.func62, Tryd.ntmps62
  go_wp2_with fail
  refine hc.mono ?_
  rintro e w1 ⟨rfl, rfl⟩
  go_wp2
  go_ret
  exact ⟨s, rfl, hs64, HA.out, HB.out, rfl⟩

/-! ### the long division's mathematics -/
theorem top_ge {ys zs : List Int} {m : Nat} {P : Int} (hy : AllW ys) (hz : AllW zs) (hyl : ys.length = m + 2) (hzl : zs.length = m + 2) (hP : 0 < P) (ht : 9223372036854775808 ≤ lm ys (m + 1) * P) (hv : val zs = val ys * P) : 9223372036854775808 ≤ lm zs (m + 1) := by
  have e1 : val ys = vS ys (m + 1) + lm ys (m + 1) * pw (m + 1) := by unfold val; rw [hyl]; rfl
  have e2 : val zs = vS zs (m + 1) + lm zs (m + 1) * pw (m + 1) := by unfold val; rw [hzl]; rfl
  have h1 := (vS_nn hy (m + 1)).1
  have h2 := (vS_nn hz (m + 1)).2
  have hp := pw_pos (m + 1)
  have h3 : lm ys (m + 1) * P * pw (m + 1) ≤ val zs := by
    rw [hv, e1, Int.add_mul, Int.mul_right_comm]
    have := Int.mul_nonneg h1 (Int.le_of_lt hP)
    omega
  have h4 : 9223372036854775808 * pw (m + 1) ≤ lm ys (m + 1) * P * pw (m + 1) := Int.mul_le_mul_of_nonneg_right ht (by omega)
  have h5 : 9223372036854775808 * pw (m + 1) < (lm zs (m + 1) + 1) * pw (m + 1) := by rw [Int.add_mul (lm zs (m + 1)), Int.one_mul]; omega
  have := Int.lt_of_mul_lt_mul_right h5 (by omega)
  omega
/-- A list whose value is small: the limbs from there on are noughts. -/
theorem lm_small {us : List Int} (hu : AllW us) {k : Nat} (h : val us < pw k) {i : Nat} (hi : k ≤ i) : lm us i = 0 := by
  rcases Nat.lt_or_ge i us.length with hl | hl
  · have h1 := val_lt_tlen hu
    have h2 : tlen us ≤ k := by
      rcases Nat.lt_or_ge k (tlen us) with g | g
      · have := val_ge hu (by omega)
        have := pw_mono (a := k) (b := tlen us - 1) (by omega)
        omega
      · exact g
    exact (tl_spec us us.length).1 i (by unfold tlen at h2; omega) hl
  · exact lm_ge hl
theorem val_take {us : List Int} (hu : AllW us) {k : Nat} (hk : k ≤ us.length) (h : val us < pw k) : val (us.take k) = val us := by
  have e : vS us k = val us := by
    rw [← vS_long (us := us) (n := us.length) (Nat.le_refl _)]
    exact (vS_tail hk (fun i h1 _ => lm_small hu h h1)).symm
  rw [← e]
  unfold val
  rw [List.length_take, Nat.min_eq_left hk]
  exact vS_congr fun i hi => lm_take hi
/-- One limb of the quotient. -/
theorem div_step {us U : List Int} {m j : Nat} {D : Int} (hu : AllW us) (hD : D < pw (m + 2)) (hD0 : 0 < D) (hl : U.length = us.length) (hlt : val us < D * pw (j + 1)) (hfar : ∀ i, i < j ∨ j + (m + 3) ≤ i → lm U i = lm us i) (hsg : sg U j (m + 3) = sg us j (m + 3) % D) (hfit : j + (m + 3) ≤ us.length) :
    val us = sg us j (m + 3) / D * pw j * D + val U ∧ val U < D * pw j := by
  have hz : ∀ i, j + (m + 3) ≤ i → lm us i = 0 := fun i hi => by
    refine lm_small hu (k := j + (m + 3)) ?_ hi
    have h1 : D * pw (j + 1) < pw (m + 2) * pw (j + 1) := Int.mul_lt_mul_of_pos_right hD (pw_pos _)
    rw [← pw_add] at h1
    have h2 := pw_mono (a := m + 2 + (j + 1)) (b := j + (m + 3)) (by omega)
    omega
  have e1 : val us = vS us j + pw j * sg us j (m + 3) := by
    rw [← sg_split, ← vS_long (us := us) (n := us.length) (Nat.le_refl _)]
    exact vS_tail hfit (fun i h1 _ => hz i h1)
  have e2 : val U = vS us j + pw j * sg U j (m + 3) := by
    have e3 : vS U j = vS us j := vS_congr fun i hi => hfar i (.inl hi)
    rw [← e3, ← sg_split, ← vS_long (us := U) (n := U.length) (Nat.le_refl _)]
    exact vS_tail (by omega) (fun i h1 _ => by rw [hfar i (.inr h1)]; exact hz i h1)
  have hd := Int.mul_ediv_add_emod (sg us j (m + 3)) D
  have hm := Int.emod_lt_of_pos (sg us j (m + 3)) hD0
  have hn := vS_nn hu j
  have hp := pw_pos j
  rw [hsg] at e2
  generalize sg us j (m + 3) / D = q at *
  generalize sg us j (m + 3) % D = r at *
  constructor
  · rw [e1, e2, ← hd, Int.mul_add]
    have : pw j * (D * q) = q * pw j * D := by ac_rfl
    omega
  · rw [e2]
    have h1 : pw j * (r + 1) ≤ pw j * D := Int.mul_le_mul_of_nonneg_left (by omega) (by omega)
    rw [Int.mul_add, Int.mul_one] at h1
    rw [Int.mul_comm D]
    omega
theorem allW_drop2 {xs : List Int} (hx : AllW xs) (q : Nat) : AllW (xs.drop q) := fun x h => hx x (List.mem_of_mem_drop h)
theorem sg_lt {us : List Int} {m j : Nat} {D : Int} (hu : AllW us) (hlt : val us < D * pw (j + 1)) (hfit : j + (m + 3) ≤ us.length) : sg us j (m + 3) < D * 18446744073709551616 := by
  have h1 : vS us (j + (m + 3)) ≤ val us := by
    have e := vS_split2 us (j + (m + 3)) (us.length - (j + (m + 3)))
    rw [show j + (m + 3) + (us.length - (j + (m + 3))) = us.length by omega] at e
    have e3 : vS us us.length = val us := rfl
    have h2 := (vS_nn (allW_drop2 hu (j + (m + 3))) (us.length - (j + (m + 3)))).1
    have h3 := Int.mul_nonneg (Int.le_of_lt (pw_pos (j + (m + 3)))) h2
    omega
  rw [sg_split] at h1
  have hn := (vS_nn hu j).1
  have hp := pw_pos j
  have h2 : sg us j (m + 3) * pw j < D * 18446744073709551616 * pw j := by
    rw [Int.mul_comm, Int.mul_assoc, Int.mul_comm 18446744073709551616 (pw j), ← pw_succ]
    omega
  exact Int.lt_of_mul_lt_mul_right h2 (by omega)
end Go.Proofs.YtogdpgfccbohnaaDoor

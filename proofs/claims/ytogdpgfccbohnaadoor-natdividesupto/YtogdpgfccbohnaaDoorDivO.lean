import Derived.Test.YtogdpgfccbohnaaDoorDivN
namespace Go.Proofs.YtogdpgfccbohnaaDoor
open Go.RowKit

theorem tryLimb_le (a0 a1 a2 b0 b1 : Int) (w : World) (ha0 : 0 ≤ a0) (ha1 : Word a1) (ha2 : Word a2) (hb0 : 0 < b0) (hb0' : b0 < 18446744073709551616) (hb1 : Word b1) (hab : a0 ≤ b0) :
    Calls Tryd.prog 69 #[.agg #[.int .u64 a0, .int .u64 a1, .int .u64 a2], .agg #[.int .u64 b0, .int .u64 b1]] w fun e w' => ∃ t, e = .returned (.int .u64 t) ∧ TryOk (a0 * 18446744073709551616 + a1) a2 b0 b1 t ∧ Below w.heap.size w w' := by
  rcases Int.lt_or_eq_of_le hab with h | h
  · exact tryLimb_lt a0 a1 a2 b0 b1 w ha0 ha1 ha2 hb0 hb0' hb1 h
  · exact tryLimb_eq a0 a1 a2 b0 b1 w ha0 ha1 ha2 hb0 hb0' hb1 h
theorem keepB {w w' : World} {p : Addr} {v : Value} (hb : Below w.heap.size w w') (h : w.cell? p = some v) : w'.cell? p = some v := by
  rw [hb.cell (World.block_lt_of_cell? _ _ h)]; exact h

/-- The topmost limbs: the first is not above the divisor's, and the trial is right or one too great. -/
theorem take_math (o m : Nat) (us ys : List Int) (hu : AllW us) (hnb : ys.length = m + 2) (hy : AllW ys) (htop : 9223372036854775808 ≤ lm ys (m + 1)) (hlt : sg us o (m + 3) < val ys * 18446744073709551616) :
    0 < val ys ∧ lm us (o + (m + 2)) ≤ lm ys (m + 1) ∧ ∀ t, TryOk (lm us (o + (m + 2)) * 18446744073709551616 + lm us (o + (m + 1))) (lm us (o + m)) (lm ys (m + 1)) (lm ys m) t → sg us o (m + 3) / val ys ≤ t ∧ t ≤ sg us o (m + 3) / val ys + 1 := by
  obtain ⟨A00, A01⟩ := hu.at (o + (m + 2))
  obtain ⟨A10, A11⟩ := hu.at (o + (m + 1))
  obtain ⟨A20, A21⟩ := hu.at (o + m)
  obtain ⟨B00, B01⟩ := hy.at (m + 1)
  obtain ⟨B10, B11⟩ := hy.at m
  have hV0 := (sg_nn hu o (m + 3)).1
  have hyv : val ys = vS ys m + lm ys m * pw m + lm ys (m + 1) * pw (m + 1) := by unfold val; rw [hnb]; rfl
  have hd := vS_nn hy m
  have hW := pw_pos m
  have hsv : sg us o (m + 3) = sg us o m + lm us (o + m) * pw m + lm us (o + (m + 1)) * pw (m + 1) + lm us (o + (m + 2)) * pw (m + 2) := by rw [sg_top, sg_top, sg_top]
  have hsn := sg_nn hu o m
  have hD0 : 0 < val ys := by
    have h1 := pw_pos (m + 1)
    have h2 := Int.mul_pos (by omega : 0 < lm ys (m + 1)) h1
    have h3 := Int.mul_nonneg B10 (Int.le_of_lt hW)
    omega
  obtain ⟨A0, hA0⟩ : ∃ x, lm us (o + (m + 2)) = x := ⟨_, rfl⟩
  obtain ⟨A1, hA1⟩ : ∃ x, lm us (o + (m + 1)) = x := ⟨_, rfl⟩
  obtain ⟨A2, hA2⟩ : ∃ x, lm us (o + m) = x := ⟨_, rfl⟩
  obtain ⟨B0, hB0⟩ : ∃ x, lm ys (m + 1) = x := ⟨_, rfl⟩
  obtain ⟨B1, hB1⟩ : ∃ x, lm ys m = x := ⟨_, rfl⟩
  rw [hA0] at A00 A01 hsv
  rw [hA1] at A10 A11 hsv
  rw [hA2] at A20 A21 hsv
  rw [hB0] at B00 B01 hyv htop
  rw [hB1] at B10 B11 hyv
  rw [hA0, hA1, hA2, hB0, hB1]
  clear hA0 hA1 hA2 hB0 hB1
  have p2 : pw (m + 2) = pw m * 18446744073709551616 * 18446744073709551616 := by rw [pw_succ, pw_succ]
  have p1 : pw (m + 1) = pw m * 18446744073709551616 := pw_succ m
  have HVE : Hid (sg us o (m + 3) = ((A0 * 18446744073709551616 + A1) * 18446744073709551616 + A2) * pw m + sg us o m) := by
    show _ = _
    rw [hsv, p2, p1, Int.add_mul, Int.add_mul, Int.add_mul]
    have e1 : A0 * 18446744073709551616 * 18446744073709551616 * pw m = A0 * (pw m * 18446744073709551616 * 18446744073709551616) := by ac_rfl
    have e2 : A1 * 18446744073709551616 * pw m = A1 * (pw m * 18446744073709551616) := by ac_rfl
    omega
  have HDE : Hid (val ys = (B0 * 18446744073709551616 + B1) * pw m + vS ys m) := by
    show _ = _
    rw [hyv, p1, Int.add_mul]
    have e2 : B0 * 18446744073709551616 * pw m = B0 * (pw m * 18446744073709551616) := by ac_rfl
    omega
  have hAB : A0 ≤ B0 := by
    rcases (by omega : A0 ≤ B0 ∨ B0 + 1 ≤ A0) with h | h
    · exact h
    · exfalso
      have h1 := Int.mul_le_mul_of_nonneg_right (c := pw m * 18446744073709551616 * 18446744073709551616) h (by omega)
      rw [Int.add_mul, Int.one_mul] at h1
      have h2 := HDE.out
      have h3 := HVE.out
      have e1 : ((A0 * 18446744073709551616 + A1) * 18446744073709551616 + A2) * pw m = A0 * (pw m * 18446744073709551616 * 18446744073709551616) + (A1 * 18446744073709551616 + A2) * pw m := by
        have e3 : (A0 * 18446744073709551616 + A1) * 18446744073709551616 + A2 = A0 * 340282366920938463463374607431768211456 + (A1 * 18446744073709551616 + A2) := by omega
        rw [e3, Int.add_mul]
        congr 1
        rw [Int.mul_assoc, Int.mul_comm 340282366920938463463374607431768211456 (pw m), Int.mul_assoc (pw m)]
        rfl
      have h4 := Int.mul_nonneg (by omega : 0 ≤ A1 * 18446744073709551616 + A2) (Int.le_of_lt hW)
      have h5 : (B0 * 18446744073709551616 + B1) * pw m ≤ (B0 * 18446744073709551616 + 18446744073709551615) * pw m := Int.mul_le_mul_of_nonneg_right (by omega) (by omega)
      have h6 : (B0 * 18446744073709551616 + 18446744073709551615) * pw m = B0 * (pw m * 18446744073709551616) + 18446744073709551615 * pw m := by rw [Int.add_mul, Int.mul_assoc, Int.mul_comm 18446744073709551616 (pw m)]
      have h7 : B0 * (pw m * 18446744073709551616) * 18446744073709551616 = B0 * (pw m * 18446744073709551616 * 18446744073709551616) := Int.mul_assoc _ _ _
      have h8 : B0 * (pw m * 18446744073709551616) * 18446744073709551616 + pw m * 18446744073709551616 * 18446744073709551616 ≤ val ys * 18446744073709551616 → False := by
        intro h
        omega
      omega
  exact ⟨hD0, hAB, fun t ht => try_near hW HVE.out HDE.out hsn.1 hsn.2 hd.1 hd.2 htop B10 hlt hV0 hD0 ht⟩

end Go.Proofs.YtogdpgfccbohnaaDoor

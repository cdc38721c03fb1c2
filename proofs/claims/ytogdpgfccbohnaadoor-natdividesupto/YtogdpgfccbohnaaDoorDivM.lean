import Derived.Test.YtogdpgfccbohnaaDoorDivL
namespace Go.Proofs.YtogdpgfccbohnaaDoor
open Go.RowKit

/-! ### the mathematics of one step -/
/-- Quotient and trial: the trial by the topmost limbs is right or one too great. -/
theorem try_near {V D W A v d a2 b0 b1 t : Int} (hW : 0 < W) (hV : V = (A * 18446744073709551616 + a2) * W + v) (hD : D = (b0 * 18446744073709551616 + b1) * W + d) (v0 : 0 ≤ v) (v1 : v < W) (d0 : 0 ≤ d) (d1 : d < W)
    (hb0 : 9223372036854775808 ≤ b0) (hb1 : 0 ≤ b1) (hVD : V < D * 18446744073709551616) (hV0 : 0 ≤ V) (hD0 : 0 < D) (ht : TryOk A a2 b0 b1 t) : V / D ≤ t ∧ t ≤ V / D + 1 := by
  obtain ⟨t0, t1, t2, t3⟩ := ht
  have e1 := Int.mul_ediv_add_emod V D
  have m0 := Int.emod_nonneg V (by omega : D ≠ 0)
  have m1 := Int.emod_lt_of_pos V hD0
  have q0 : 0 ≤ V / D := Int.ediv_nonneg hV0 (by omega)
  have q1 : V / D < 18446744073709551616 := Int.ediv_lt_of_lt_mul hD0 (by rw [Int.mul_comm]; exact hVD)
  generalize V / D = q at *
  generalize V % D = m at *
  obtain ⟨Z, hZ⟩ : ∃ Z, Z = b0 * 18446744073709551616 + b1 := ⟨_, rfl⟩
  obtain ⟨T, hT⟩ : ∃ T, T = A * 18446744073709551616 + a2 := ⟨_, rfl⟩
  rw [← hZ] at hD
  rw [← hT] at hV
  have conv : ∀ Q, (Q * b1 ≤ (A - Q * b0) * 18446744073709551616 + a2) ↔ Q * Z ≤ T := fun Q => by
    have e : Q * Z = Q * b0 * 18446744073709551616 + Q * b1 := by rw [hZ, Int.mul_add, Int.mul_assoc]
    rw [e, hT, Int.sub_mul]
    constructor <;> intro h <;> omega
  rw [conv] at t2
  have hZ0 : 9223372036854775808 * 18446744073709551616 ≤ Z := by omega
  constructor
  · refine t3 q q0 q1 ((conv q).2 ?_)
    have h1 : q * Z * W ≤ q * D := by
      rw [hD, Int.mul_add, Int.mul_assoc]
      have := Int.mul_nonneg q0 d0
      omega
    have h2 : q * Z * W < (T + 1) * W := by
      rw [Int.add_mul, Int.one_mul]
      rw [Int.mul_comm] at e1
      omega
    have := Int.lt_of_mul_lt_mul_right h2 (by omega)
    omega
  · rcases (by omega : t ≤ q + 1 ∨ q + 2 ≤ t) with h | h
    · exact h
    · exfalso
      have h1 : t * Z * W ≤ T * W := Int.mul_le_mul_of_nonneg_right t2 (by omega)
      have h2 : V < (q + 1) * D := by rw [Int.add_mul, Int.one_mul]; rw [Int.mul_comm] at e1; omega
      have h3 : (q + 1) * D < (q + 1) * (Z + 1) * W := by
        rw [hD, Int.mul_add, Int.mul_assoc (q + 1) (Z + 1) W, Int.add_mul Z, Int.one_mul, Int.mul_add]
        have := Int.mul_lt_mul_of_pos_left d1 (by omega : 0 < q + 1)
        omega
      have h4 : t * Z * W < (q + 1) * (Z + 1) * W := by omega
      have h5 := Int.lt_of_mul_lt_mul_right h4 (by omega)
      rw [Int.mul_add, Int.mul_one] at h5
      have h6 : (q + 2) * Z ≤ t * Z := Int.mul_le_mul_of_nonneg_right h (by omega)
      have h7 : (q + 2) * Z = (q + 1) * Z + Z := by rw [show q + 2 = (q + 1) + 1 by omega, Int.add_mul (q + 1), Int.one_mul]
      omega
/-- A segment's value. -/
def sg (us : List Int) (o m : Nat) : Int := vS (us.drop o) m
theorem vS_split2 (xs : List Int) (q k : Nat) : vS xs (q + k) = vS xs q + pw q * vS (xs.drop q) k := by
  induction k with
  | zero => simp [vS]
  | succ k ih =>
    show vS xs (q + k) + lm xs (q + k) * pw (q + k) = _ + pw q * (vS (xs.drop q) k + lm (xs.drop q) k * pw k)
    rw [ih, lm_drop, pw_add, Int.mul_add, Int.add_assoc]
    congr 2
    ac_rfl
theorem sg_split (us : List Int) (o m : Nat) : vS us (o + m) = vS us o + pw o * sg us o m := vS_split2 us o m
theorem sg_nn {us : List Int} (hu : AllW us) (o m : Nat) : 0 ≤ sg us o m ∧ sg us o m < pw m := vS_nn (fun x h => hu x (List.mem_of_mem_drop h)) m
end Go.Proofs.YtogdpgfccbohnaaDoor

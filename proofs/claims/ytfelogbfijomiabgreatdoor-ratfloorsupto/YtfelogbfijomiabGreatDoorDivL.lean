import Derived.Test.YtfelogbfijomiabGreatDoorDivA
import Derived.WalkMore
namespace Go.Proofs.YtfelogbfijomiabGreatDoor
open Go.RowKit

/-- What a trial's limb is: the greatest that goes. -/
def TryOk (A a2 b0 b1 t : Int) : Prop := 0 ≤ t ∧ t < 18446744073709551616 ∧ t * b1 ≤ (A - t * b0) * 18446744073709551616 + a2 ∧ ∀ Q, 0 ≤ Q → Q < 18446744073709551616 → Q * b1 ≤ (A - Q * b0) * 18446744073709551616 + a2 → Q ≤ t
/-- What holds at each round of a trial: the guess, the rest, and what is beyond a limb of it. -/
def TryInv (A a2 b0 b1 G R O : Int) : Prop := 0 ≤ G ∧ G < 18446744073709551616 ∧ 0 ≤ R ∧ R < 18446744073709551616 ∧ 0 ≤ O ∧ O ≤ 1 ∧ A - G * b0 = O * 18446744073709551616 + R ∧ ∀ Q, 0 ≤ Q → Q < 18446744073709551616 → Q * b1 ≤ (A - Q * b0) * 18446744073709551616 + a2 → Q ≤ G
theorem TryInv.over {A a2 b0 b1 G R : Int} (h : TryInv A a2 b0 b1 G R 1) (hb1 : Word b1) (ha2 : Word a2) : TryOk A a2 b0 b1 G := by
  obtain ⟨h1, h2, h3, h4, h5, h6, h7, h8⟩ := h
  have m := mul_bd h1 h2 hb1.1 hb1.2
  have := ha2.1
  exact ⟨h1, h2, by rw [h7]; omega, h8⟩
theorem TryInv.stop {A a2 b0 b1 G R p : Int} (h : TryInv A a2 b0 b1 G R 0) (hp : G * b1 = p) (hs : p ≤ R * 18446744073709551616 + a2) : TryOk A a2 b0 b1 G := by
  obtain ⟨h1, h2, h3, h4, h5, h6, h7, h8⟩ := h
  exact ⟨h1, h2, by rw [h7, hp]; omega, h8⟩
theorem TryInv.go {A a2 b0 b1 G R p : Int} (h : TryInv A a2 b0 b1 G R 0) (hb0 : 0 ≤ b0) (hb0' : b0 < 18446744073709551616) (hp : G * b1 = p) (hs : R * 18446744073709551616 + a2 < p) (ha2 : Word a2) : 1 ≤ G ∧ TryInv A a2 b0 b1 (G - 1) ((R + b0) % 18446744073709551616) ((R + b0) / 18446744073709551616) := by
  obtain ⟨h1, h2, h3, h4, h5, h6, h7, h8⟩ := h
  have ha := ha2.1
  have hG : 1 ≤ G := by
    rcases (by omega : G = 0 ∨ 1 ≤ G) with h | h
    · subst h; simp at hp; omega
    · exact h
  refine ⟨hG, by omega, by omega, by omega, by omega, by omega, by omega, ?_, ?_⟩
  · rw [Int.sub_mul]; omega
  · intro Q q0 q1 q2
    have q3 := h8 Q q0 q1 q2
    rcases (by omega : Q = G ∨ Q ≤ G - 1) with h | h
    · subst h; rw [h7, hp] at q2; omega
    · exact h
theorem TryInv.start {A a2 b0 b1 : Int} (hA : 0 ≤ A) (hb0 : 0 < b0) (hb0' : b0 < 18446744073709551616) (hA2 : A < b0 * 18446744073709551616) (hb1 : Word b1) (ha2 : Word a2) : TryInv A a2 b0 b1 (A / b0) (A % b0) 0 := by
  have e := Int.mul_ediv_add_emod A b0
  rw [Int.mul_comm] at e
  have m0 := Int.emod_nonneg A (by omega : b0 ≠ 0)
  have m1 := Int.emod_lt_of_pos A hb0
  refine ⟨Int.ediv_nonneg hA (by omega), Int.ediv_lt_of_lt_mul hb0 (by rw [Int.mul_comm]; exact hA2), m0, by omega, by omega, by omega, by omega, ?_⟩
  intro Q q0 q1 q2
  refine (Int.le_ediv_iff_mul_le hb0).2 ?_
  have q3 := Int.mul_nonneg q0 hb1.1
  have := ha2.2
  rcases (by omega : Q * b0 ≤ A ∨ A - Q * b0 ≤ -1) with h | h
  · exact h
  · have := Int.mul_le_mul_of_nonneg_right (c := 18446744073709551616) h (by omega)
    omega
theorem TryInv.start2 {A a1 a2 b0 b1 : Int} (hA : A = b0 * 18446744073709551616 + a1) (ha1 : Word a1) (hb0 : 0 ≤ b0) (hb0' : b0 < 18446744073709551616) : TryInv A a2 b0 b1 18446744073709551615 ((a1 + b0) % 18446744073709551616) ((a1 + b0) / 18446744073709551616) := by
  have := ha1.1
  have := ha1.2
  refine ⟨by omega, by omega, by omega, by omega, by omega, by omega, by omega, fun Q _ _ _ => by omega⟩
theorem mul_hi {p R a2 : Int} (h : p / 18446744073709551616 < R ∨ (p / 18446744073709551616 = R ∧ p % 18446744073709551616 ≤ a2)) (ha : 0 ≤ a2) : p ≤ R * 18446744073709551616 + a2 := by omega

set_option maxRecDepth 100000 in
set_option maxHeartbeats 1000000 in
theorem tryLimb_lt (a0 a1 a2 b0 b1 : Int) (w : World) (ha0 : 0 ≤ a0) (ha1 : Word a1) (ha2 : Word a2) (hb0 : 0 < b0) (hb0' : b0 < 18446744073709551616) (hb1 : Word b1) (hab : a0 < b0) :
    Calls Tryz.prog 152 #[.agg #[.int .u64 a0, .int .u64 a1, .int .u64 a2], .agg #[.int .u64 b0, .int .u64 b1]] w fun e w' => ∃ t, e = .returned (.int .u64 t) ∧ TryOk (a0 * 18446744073709551616 + a1) a2 b0 b1 t ∧ Below w.heap.size w w' := by
  obtain ⟨a10, a11⟩ := ha1
  obtain ⟨a20, a21⟩ := ha2
  obtain ⟨b10, b11⟩ := hb1
  go_enter Tryz.func152, Tryz.ntmps152
  go_wp2
  go_step3
  go_wp2_with fail
  refine (div64_any a0 a1 b0 _ ha0 a10 a11 hab hb0').mono ?_
  rintro e W ⟨rfl, m, hW⟩
  obtain ⟨W0, hW0⟩ : ∃ W0, ((w.alloc (.cells #[Value.int .u64 a0, Value.int .u64 a1, Value.int .u64 a2] 152)).alloc (.cells #[Value.int .u64 b0, Value.int .u64 b1] 153)) = W0 := ⟨_, rfl⟩
  have hca : W0.cell? ⟨w.heap.size, 2, none⟩ = some (.int .u64 a2) := by rw [← hW0]; simp
  have hcb0 : W0.cell? ⟨w.heap.size + 1, 0, none⟩ = some (.int .u64 b0) := by rw [← hW0]; simp
  have hcb1 : W0.cell? ⟨w.heap.size + 1, 1, none⟩ = some (.int .u64 b1) := by rw [← hW0]; simp
  have hbel0 : Below w.heap.size w W0 := by rw [← hW0]; exact ((Below.refl _ _).alloc (Nat.le_refl _) _).alloc (by simp) _
  rw [hW0] at hW
  have hca' : W.cell? ⟨w.heap.size, 2, none⟩ = some (.int .u64 a2) := by rw [hW]; exact hca
  have hcb0' : W.cell? ⟨w.heap.size + 1, 0, none⟩ = some (.int .u64 b0) := by rw [hW]; exact hcb0
  have hcb1' : W.cell? ⟨w.heap.size + 1, 1, none⟩ = some (.int .u64 b1) := by rw [hW]; exact hcb1
  have hbel : Below w.heap.size w W := by rw [hW]; exact belN hbel0 m
  clear hca hcb0 hcb1 hbel0 hW0 hW
  have HINV : Hid (TryInv (a0 * 18446744073709551616 + a1) a2 b0 b1 ((a0 * 18446744073709551616 + a1) / b0) ((a0 * 18446744073709551616 + a1) % b0) 0) := TryInv.start (by omega) hb0 hb0' (by omega) ⟨b10, b11⟩ ⟨a20, a21⟩
  go_wp2
  go_step3
  go_wp2
  go_loopw [5, 6, 7] (fun g r o wr => wr = W ∧ ∃ G R O : Int, g = .int .u64 G ∧ r = .int .u64 R ∧ o = .int .u64 O ∧ TryInv (a0 * 18446744073709551616 + a1) a2 b0 b1 G R O) (fun g _ _ _ => (intOf g).toNat)
  case atStart => exact ⟨rfl, _, _, _, rfl, rfl, rfl, HINV.out⟩
  case round =>
    clear HINV
    obtain ⟨rfl, G, R, O, rfl, rfl, rfl, hinv⟩ := hrel
    have HINV : Hid (TryInv (a0 * 18446744073709551616 + a1) a2 b0 b1 G R O) := hinv
    obtain ⟨g0, g1, r0, r1, o0, o1, _, _⟩ := hinv
    by_cases hO : O = 0
    · subst hO
      obtain ⟨p, hp⟩ : ∃ p, G * b1 = p := ⟨_, rfl⟩
      have HP : Hid (G * b1 = p) := hp
      have hpb := mul_bd g0 g1 b10 b11
      rw [hp] at hpb
      obtain ⟨p0, p1⟩ := hpb
      clear hp
      have h0 : ((0 : Int) == 0) = true := rfl
      by_cases c1 : p / 18446744073709551616 < R
      · have HOK := HINV.out.stop HP.out (mul_hi (.inl c1) a20)
        go_wp2_with fail
        refine (mul64_any _ _ p HP g0 g1 b10 b11 _).mono ?_
        rintro e w' ⟨rfl, rfl⟩
        go_wp2
        rw [Exit.noGoto_ret]
        go_ret
        exact ⟨G, rfl, HOK, hbel⟩
      · by_cases c2 : p / 18446744073709551616 = R
        · by_cases c3 : p % 18446744073709551616 ≤ a2
          · have HOK := HINV.out.stop HP.out (mul_hi (.inr ⟨c2, c3⟩) a20)
            go_wp2_with fail
            refine (mul64_any _ _ p HP g0 g1 b10 b11 _).mono ?_
            rintro e w' ⟨rfl, rfl⟩
            go_wp2
            rw [Exit.noGoto_ret]
            go_ret
            exact ⟨G, rfl, HOK, hbel⟩
          · have hGO := HINV.out.go (by omega) hb0' HP.out (by omega) ⟨a20, a21⟩
            have HGO : Hid (TryInv (a0 * 18446744073709551616 + a1) a2 b0 b1 (G - 1) ((R + b0) % 18446744073709551616) ((R + b0) / 18446744073709551616)) := hGO.2
            have hG1 := hGO.1
            clear hGO
            go_wp2_with fail
            refine (mul64_any _ _ p HP g0 g1 b10 b11 _).mono ?_
            rintro e w' ⟨rfl, rfl⟩
            go_wp2_with (simp only [add64_0 R b0 r0 (by omega)])
            go_roundw
            case rel => exact ⟨trivial, G - 1, _, _, by go_num, rfl, rfl, HGO.out⟩
            case measure => simp [intOf]; omega
        · have hGO := HINV.out.go (by omega) hb0' HP.out (by omega) ⟨a20, a21⟩
          have HGO : Hid (TryInv (a0 * 18446744073709551616 + a1) a2 b0 b1 (G - 1) ((R + b0) % 18446744073709551616) ((R + b0) / 18446744073709551616)) := hGO.2
          have hG1 := hGO.1
          clear hGO
          have c2' : (p / 18446744073709551616 == R) = false := beq_eq_false_iff_ne.2 c2
          clear c2
          go_wp2_with fail
          refine (mul64_any _ _ p HP g0 g1 b10 b11 _).mono ?_
          rintro e w' ⟨rfl, rfl⟩
          go_wp2_with (simp only [add64_0 R b0 r0 (by omega)])
          go_roundw
          case rel => exact ⟨trivial, G - 1, _, _, by go_num, rfl, rfl, HGO.out⟩
          case measure => simp [intOf]; omega
    · obtain rfl : O = 1 := by omega
      have HOK := HINV.out.over ⟨b10, b11⟩ ⟨a20, a21⟩
      clear hO
      go_wp2
      rw [Exit.noGoto_ret]
      go_ret
      exact ⟨G, rfl, HOK, hbel⟩

set_option maxRecDepth 100000 in
set_option maxHeartbeats 1000000 in
theorem tryLimb_eq (a0 a1 a2 b0 b1 : Int) (w : World) (ha0 : 0 ≤ a0) (ha1 : Word a1) (ha2 : Word a2) (hb0 : 0 < b0) (hb0' : b0 < 18446744073709551616) (hb1 : Word b1) (hab : a0 = b0) :
    Calls Tryz.prog 152 #[.agg #[.int .u64 a0, .int .u64 a1, .int .u64 a2], .agg #[.int .u64 b0, .int .u64 b1]] w fun e w' => ∃ t, e = .returned (.int .u64 t) ∧ TryOk (a0 * 18446744073709551616 + a1) a2 b0 b1 t ∧ Below w.heap.size w w' := by
  obtain ⟨a10, a11⟩ := ha1
  obtain ⟨a20, a21⟩ := ha2
  obtain ⟨b10, b11⟩ := hb1
  go_enter Tryz.func152, Tryz.ntmps152
  go_wp2
  go_step3
  subst hab
  have HINV : Hid (TryInv (a0 * 18446744073709551616 + a1) a2 a0 b1 18446744073709551615 ((a1 + a0) % 18446744073709551616) ((a1 + a0) / 18446744073709551616)) := TryInv.start2 rfl ⟨a10, a11⟩ ha0 hb0'
  have hlt : ¬ a0 < a0 := by omega
  go_wp2_with (simp only [add64_0 a1 a0 a10 ha0])
  obtain ⟨W, hW0⟩ : ∃ W, ((w.alloc (.cells #[Value.int .u64 a0, Value.int .u64 a1, Value.int .u64 a2] 152)).alloc (.cells #[Value.int .u64 a0, Value.int .u64 b1] 153)) = W := ⟨_, rfl⟩
  have hca : W.cell? ⟨w.heap.size, 2, none⟩ = some (.int .u64 a2) := by rw [← hW0]; simp
  have hcb0 : W.cell? ⟨w.heap.size + 1, 0, none⟩ = some (.int .u64 a0) := by rw [← hW0]; simp
  have hcb1 : W.cell? ⟨w.heap.size + 1, 1, none⟩ = some (.int .u64 b1) := by rw [← hW0]; simp
  have hbel : Below w.heap.size w W := by rw [← hW0]; exact ((Below.refl _ _).alloc (Nat.le_refl _) _).alloc (by simp) _
  rw [hW0]
  clear hW0
  go_step3
  go_wp2
  go_loopw [5, 6, 7] (fun g r o wr => wr = W ∧ ∃ G R O : Int, g = .int .u64 G ∧ r = .int .u64 R ∧ o = .int .u64 O ∧ TryInv (a0 * 18446744073709551616 + a1) a2 a0 b1 G R O) (fun g _ _ _ => (intOf g).toNat)
  case atStart => exact ⟨rfl, _, _, _, rfl, rfl, rfl, HINV.out⟩
  case round =>
    clear HINV
    obtain ⟨rfl, G, R, O, rfl, rfl, rfl, hinv⟩ := hrel
    have HINV : Hid (TryInv (a0 * 18446744073709551616 + a1) a2 a0 b1 G R O) := hinv
    obtain ⟨g0, g1, r0, r1, o0, o1, _, _⟩ := hinv
    by_cases hO : O = 0
    · subst hO
      obtain ⟨p, hp⟩ : ∃ p, G * b1 = p := ⟨_, rfl⟩
      have HP : Hid (G * b1 = p) := hp
      have hpb := mul_bd g0 g1 b10 b11
      rw [hp] at hpb
      obtain ⟨p0, p1⟩ := hpb
      clear hp
      have h0 : ((0 : Int) == 0) = true := rfl
      by_cases c1 : p / 18446744073709551616 < R
      · have HOK := HINV.out.stop HP.out (mul_hi (.inl c1) a20)
        go_wp2_with fail
        refine (mul64_any _ _ p HP g0 g1 b10 b11 _).mono ?_
        rintro e w' ⟨rfl, rfl⟩
        go_wp2
        rw [Exit.noGoto_ret]
        go_ret
        exact ⟨G, rfl, HOK, hbel⟩
      · by_cases c2 : p / 18446744073709551616 = R
        · by_cases c3 : p % 18446744073709551616 ≤ a2
          · have HOK := HINV.out.stop HP.out (mul_hi (.inr ⟨c2, c3⟩) a20)
            go_wp2_with fail
            refine (mul64_any _ _ p HP g0 g1 b10 b11 _).mono ?_
            rintro e w' ⟨rfl, rfl⟩
            go_wp2
            rw [Exit.noGoto_ret]
            go_ret
            exact ⟨G, rfl, HOK, hbel⟩
          · have hGO := HINV.out.go (by omega) hb0' HP.out (by omega) ⟨a20, a21⟩
            have HGO : Hid (TryInv (a0 * 18446744073709551616 + a1) a2 a0 b1 (G - 1) ((R + a0) % 18446744073709551616) ((R + a0) / 18446744073709551616)) := hGO.2
            have hG1 := hGO.1
            clear hGO
            go_wp2_with fail
            refine (mul64_any _ _ p HP g0 g1 b10 b11 _).mono ?_
            rintro e w' ⟨rfl, rfl⟩
            go_wp2_with (simp only [add64_0 R a0 r0 (by omega)])
            go_roundw
            case rel => exact ⟨trivial, G - 1, _, _, by go_num, rfl, rfl, HGO.out⟩
            case measure => simp [intOf]; omega
        · have hGO := HINV.out.go (by omega) hb0' HP.out (by omega) ⟨a20, a21⟩
          have HGO : Hid (TryInv (a0 * 18446744073709551616 + a1) a2 a0 b1 (G - 1) ((R + a0) % 18446744073709551616) ((R + a0) / 18446744073709551616)) := hGO.2
          have hG1 := hGO.1
          clear hGO
          have c2' : (p / 18446744073709551616 == R) = false := beq_eq_false_iff_ne.2 c2
          clear c2
          go_wp2_with fail
          refine (mul64_any _ _ p HP g0 g1 b10 b11 _).mono ?_
          rintro e w' ⟨rfl, rfl⟩
          go_wp2_with (simp only [add64_0 R a0 r0 (by omega)])
          go_roundw
          case rel => exact ⟨trivial, G - 1, _, _, by go_num, rfl, rfl, HGO.out⟩
          case measure => simp [intOf]; omega
    · obtain rfl : O = 1 := by omega
      have HOK := HINV.out.over ⟨b10, b11⟩ ⟨a20, a21⟩
      clear hO
      go_wp2
      rw [Exit.noGoto_ret]
      go_ret
      exact ⟨G, rfl, HOK, hbel⟩

end Go.Proofs.YtfelogbfijomiabGreatDoor

import Derived.Test.YtbagfdlmedljjaaGreatDoorRatAll
namespace Go.Proofs.YtbagfdlmedljjaaGreatDoor
open Go.RowKit

/-- p / q is what the walk over the continued fractions of a / b and c / d answers: whatever is closed under its three ways holds of it. -/
def Simp (a b c d p q : Nat) : Prop := ∀ Q : Nat → Nat → Nat → Nat → Nat → Nat → Prop,
  (∀ a b c d, a % b = 0 → Q a b c d (a / b) 1) → (∀ a b c d, a % b ≠ 0 → a / b < c / d → Q a b c d (a / b + 1) 1) →
  (∀ a b c d p q, a % b ≠ 0 → ¬ a / b < c / d → Q d (c % d) b (a % b) p q → Q a b c d (a / b * p + q) p) → Q a b c d p q
theorem Simp.whole {a b c d : Nat} (h : a % b = 0) : Simp a b c d (a / b) 1 := fun _ h1 _ _ => h1 _ _ _ _ h
theorem Simp.up {a b c d : Nat} (h : a % b ≠ 0) (h1 : a / b < c / d) : Simp a b c d (a / b + 1) 1 := fun _ _ h2 _ => h2 _ _ _ _ h h1
theorem Simp.more {a b c d p q : Nat} (h : a % b ≠ 0) (h1 : ¬ a / b < c / d) (h2 : Simp d (c % d) b (a % b) p q) : Simp a b c d (a / b * p + q) p := fun Q h3 h4 h5 => h5 _ _ _ _ _ _ h h1 (h2 Q h3 h4 h5)

/-- What is asked of the two ends. -/
def Ends (a b c d : Nat) : Prop := 0 < a ∧ 0 < b ∧ 0 < d ∧ a * d ≤ c * b
theorem Ends.parts {a b c d : Nat} (h : Ends a b c d) (h0 : a % b ≠ 0) (h1 : ¬ a / b < c / d) : c / d = a / b ∧ 0 < a % b ∧ 0 < c % d ∧ (a % b) * d ≤ (c % d) * b := by
  obtain ⟨ha, hb, hd, hle⟩ := h
  have ea := Nat.div_add_mod a b
  have ec := Nat.div_add_mod c d
  have hge : a / b ≤ c / d := by
    rw [Nat.le_div_iff_mul_le hd]
    have h3 : a / b * b ≤ a := Nat.div_mul_le_self a b
    have h4 : a / b * d * b ≤ c * b := by
      have := Nat.mul_le_mul_right d h3
      rw [Nat.mul_right_comm] at this
      exact Nat.le_trans this hle
    exact Nat.le_of_mul_le_mul_right h4 hb
  have heq : c / d = a / b := by omega
  have hlr : 0 < a % b := by omega
  have hle2 : (a % b) * d ≤ (c % d) * b := by
    rw [heq] at ec
    have e1 : a * d = a / b * (b * d) + (a % b) * d := by
      calc a * d = (b * (a / b) + a % b) * d := by rw [ea]
        _ = a / b * (b * d) + (a % b) * d := by rw [Nat.add_mul, Nat.mul_comm b (a / b), Nat.mul_assoc]
    have e2 : c * b = a / b * (b * d) + (c % d) * b := by
      calc c * b = (d * (a / b) + c % d) * b := by rw [ec]
        _ = a / b * (b * d) + (c % d) * b := by rw [Nat.add_mul, Nat.mul_comm d (a / b), Nat.mul_assoc, Nat.mul_comm d b]
    omega
  refine ⟨heq, hlr, ?_, hle2⟩
  rcases Nat.eq_zero_or_pos (c % d) with h5 | h5
  · rw [h5, Nat.zero_mul] at hle2
    have := Nat.mul_pos hlr hd
    omega
  · exact h5
theorem Ends.next {a b c d : Nat} (h : Ends a b c d) (h0 : a % b ≠ 0) (h1 : ¬ a / b < c / d) : Ends d (c % d) b (a % b) := by
  obtain ⟨_, h3, h4, h5⟩ := h.parts h0 h1
  exact ⟨h.2.2.1, h4, h3, by rw [Nat.mul_comm d, Nat.mul_comm b]; exact h5⟩
theorem Simp.there : ∀ (N a b c d : Nat), b + d ≤ N → Ends a b c d → ∃ p q, Simp a b c d p q
  | 0, a, b, c, d, hN, h => by have := h.2.1; omega
  | N + 1, a, b, c, d, hN, h => by
    by_cases h0 : a % b = 0
    · exact ⟨_, _, Simp.whole h0⟩
    by_cases h1 : a / b < c / d
    · exact ⟨_, _, Simp.up h0 h1⟩
    have h2 := Nat.mod_lt a h.2.1
    have h3 := Nat.mod_lt c h.2.2.1
    obtain ⟨p, q, h4⟩ := Simp.there N d (c % d) b (a % b) (by omega) (h.next h0 h1)
    exact ⟨_, _, Simp.more h0 h1 h4⟩
/-- It lies between the ends, in lowest terms, and whatever lies there has no lesser part. -/
theorem Simp.good {a b c d p q : Nat} (h : Simp a b c d p q) : Ends a b c d →
    (0 < p ∧ 0 < q ∧ Nat.gcd p q = 1) ∧ (a * q ≤ p * b ∧ p * d ≤ c * q) ∧ ∀ x y, 0 < y → a * y ≤ x * b → x * d ≤ c * y → p ≤ x ∧ q ≤ y := by
  refine h (fun a b c d p q => Ends a b c d → (0 < p ∧ 0 < q ∧ Nat.gcd p q = 1) ∧ (a * q ≤ p * b ∧ p * d ≤ c * q) ∧ ∀ x y, 0 < y → a * y ≤ x * b → x * d ≤ c * y → p ≤ x ∧ q ≤ y) ?_ ?_ ?_
  · intro a b c d h ⟨ha, hb, hd, hle⟩
    have ea : a / b * b = a := Nat.div_mul_cancel (Nat.dvd_of_mod_eq_zero h)
    have hp : 0 < a / b := by
      rcases Nat.eq_zero_or_pos (a / b) with h1 | h1
      · rw [h1] at ea; omega
      · exact h1
    refine ⟨⟨hp, by decide, Nat.gcd_one_right _⟩, ⟨by rw [ea]; omega, ?_⟩, fun x y hy h1 h2 => ⟨?_, hy⟩⟩
    · have hle' : a / b * d * b ≤ c * b := by rw [Nat.mul_right_comm, ea]; exact hle
      have := Nat.le_of_mul_le_mul_right hle' hb
      omega
    · have h1' : a / b * y * b ≤ x * b := by rw [Nat.mul_right_comm, ea]; exact h1
      have h3 := Nat.le_of_mul_le_mul_right h1' hb
      have h4 := Nat.le_mul_of_pos_right (a / b) hy
      omega
  · intro a b c d h h1 ⟨ha, hb, hd, hle⟩
    have ea := Nat.div_add_mod a b
    have hm := Nat.mod_lt a hb
    refine ⟨⟨Nat.succ_pos _, by decide, Nat.gcd_one_right _⟩, ⟨?_, ?_⟩, fun x y hy h2 h3 => ⟨?_, hy⟩⟩
    · rw [Nat.add_mul, Nat.one_mul, Nat.mul_comm (a / b)]; omega
    · have : a / b + 1 ≤ c / d := h1
      rw [Nat.le_div_iff_mul_le hd] at this
      omega
    · have h4 : a / b * y < x := by
        rcases Nat.lt_or_ge (a / b * y) x with h5 | h5
        · exact h5
        · exfalso
          have h6 := Nat.mul_le_mul_right b h5
          have e : a * y = a / b * y * b + a % b * y := by
            calc a * y = (b * (a / b) + a % b) * y := by rw [ea]
              _ = a / b * y * b + a % b * y := by rw [Nat.add_mul, Nat.mul_assoc, Nat.mul_comm b]
          have h7 := Nat.mul_pos (show 0 < a % b by omega) hy
          omega
      have h8 := Nat.le_mul_of_pos_right (a / b) hy
      omega
  · intro a b c d p q h h1 ih hE
    obtain ⟨heq, hlr, hhr, hle2⟩ := hE.parts h h1
    obtain ⟨⟨hp, hq, hg⟩, ⟨h3, h4⟩, h5⟩ := ih (hE.next h h1)
    obtain ⟨ha, hb, hd, hle⟩ := hE
    have ea := Nat.div_add_mod a b
    have ec := Nat.div_add_mod c d
    rw [heq] at ec
    refine ⟨⟨Nat.lt_of_lt_of_le hq (Nat.le_add_left _ _), hp, ?_⟩, ⟨?_, ?_⟩, fun x y hy h6 h7 => ?_⟩
    · rw [Nat.gcd_comm, Nat.add_comm, Nat.gcd_add_mul_right_right]; exact hg
    · have e1 : a * p = a / b * p * b + a % b * p := by
        calc a * p = (b * (a / b) + a % b) * p := by rw [ea]
          _ = a / b * p * b + a % b * p := by rw [Nat.add_mul, Nat.mul_assoc, Nat.mul_comm b]
      rw [e1, Nat.add_mul, Nat.mul_comm (a % b)]
      have := Nat.mul_comm q b
      omega
    · have e1 : c * p = a / b * p * d + c % d * p := by
        calc c * p = (d * (a / b) + c % d) * p := by rw [ec]
          _ = a / b * p * d + c % d * p := by rw [Nat.add_mul, Nat.mul_assoc, Nat.mul_comm d]
      rw [e1, Nat.add_mul, Nat.mul_comm (c % d)]
      have := Nat.mul_comm q d
      omega
    · have e1 : a * y = a / b * y * b + a % b * y := by
        calc a * y = (b * (a / b) + a % b) * y := by rw [ea]
          _ = a / b * y * b + a % b * y := by rw [Nat.add_mul, Nat.mul_assoc, Nat.mul_comm b]
      have e2 : c * y = a / b * y * d + c % d * y := by
        calc c * y = (d * (a / b) + c % d) * y := by rw [ec]
          _ = a / b * y * d + c % d * y := by rw [Nat.add_mul, Nat.mul_assoc, Nat.mul_comm d]
      have h8 : a / b * y < x := by
        rcases Nat.lt_or_ge (a / b * y) x with h9 | h9
        · exact h9
        · exfalso
          have h10 := Nat.mul_le_mul_right b h9
          have h11 := Nat.mul_pos hlr hy
          omega
      obtain ⟨z, rfl⟩ : ∃ z, x = a / b * y + z := ⟨x - a / b * y, by omega⟩
      rw [Nat.add_mul] at h6 h7
      obtain ⟨h12, h13⟩ := h5 y z (by omega) (by rw [Nat.mul_comm d, Nat.mul_comm y]; omega) (by rw [Nat.mul_comm y, Nat.mul_comm b]; omega)
      exact ⟨by have := Nat.mul_le_mul_left (a / b) h12; omega, h12⟩
end Go.Proofs.YtbagfdlmedljjaaGreatDoor

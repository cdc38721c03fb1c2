import Derived.Test.YtjbcjapgammbhabDoorVal
namespace Go.Proofs.YtjbcjapgammbhabDoor
open Go.RowKit

/-- The decimal digits of a number, the least first. -/
def decsF : Nat → Nat → List Int
  | 0, _ => []
  | f + 1, v => if v = 0 then [] else ((v % 10 : Nat) : Int) :: decsF f (v / 10)
theorem decsF_eq (f : Nat) : ∀ (g v : Nat), v ≤ f → v ≤ g → decsF f v = decsF g v := by
  induction f with
  | zero =>
    intro g v h1 h2
    have h0 : v = 0 := by omega
    subst h0
    cases g <;> simp [decsF]
  | succ f ih =>
    intro g v h1 h2
    by_cases hv : v = 0
    · subst hv
      cases g <;> simp [decsF]
    · cases g with
      | zero => omega
      | succ g =>
        simp only [decsF, if_neg hv]
        rw [ih g (v / 10) (by omega) (by omega)]
/-- .. as many as there are. -/
def decs (v : Nat) : List Int := decsF v v
theorem decs_zero : decs 0 = [] := rfl
theorem decs_pos {v : Nat} (h : v ≠ 0) : decs v = ((v % 10 : Nat) : Int) :: decs (v / 10) := by
  obtain ⟨u, rfl⟩ : ∃ u, v = u + 1 := ⟨v - 1, by omega⟩
  unfold decs
  simp only [decsF, if_neg h]
  rw [decsF_eq u ((u + 1) / 10) ((u + 1) / 10) (by omega) (Nat.le_refl _)]
/-- So many of its digits, noughts at the end among them. -/
def padD : Nat → Nat → List Int
  | 0, _ => []
  | k + 1, v => ((v % 10 : Nat) : Int) :: padD k (v / 10)
theorem padD_len (k v : Nat) : (padD k v).length = k := by induction k generalizing v with | zero => rfl | succ k ih => simp [padD, ih]
theorem decs_split (k v : Nat) (h : v / 10 ^ k ≠ 0) : decs v = padD k v ++ decs (v / 10 ^ k) := by
  induction k generalizing v with
  | zero => simp [padD]
  | succ k ih =>
    have e : v / 10 ^ (k + 1) = v / 10 / 10 ^ k := by rw [Nat.pow_succ, Nat.mul_comm, Nat.div_div_eq_div_mul]
    rw [e] at h ⊢
    have hv : v ≠ 0 := by rintro rfl; simp at h
    rw [decs_pos hv, padD, ih _ h]; rfl
theorem padD_mod (k v : Nat) : padD k (v % 10 ^ k) = padD k v := by
  induction k generalizing v with
  | zero => rfl
  | succ k ih =>
    have e1 : v % 10 ^ (k + 1) % 10 = v % 10 := by rw [Nat.pow_succ]; exact Nat.mod_mul_left_mod v (10 ^ k) 10
    have e2 : v % 10 ^ (k + 1) / 10 = v / 10 % 10 ^ k := by rw [Nat.pow_succ, Nat.mul_comm]; exact Nat.mod_mul_right_div_self v 10 (10 ^ k)
    simp only [padD]; rw [e1, e2, ih]
theorem decs_le (k v : Nat) (h : v < 10 ^ k) : (decs v).length ≤ k := by
  induction k generalizing v with
  | zero => have : v = 0 := by simp at h; exact h
            subst this; simp [decs_zero]
  | succ k ih =>
    by_cases hv : v = 0
    · subst hv; simp [decs_zero]
    · rw [decs_pos hv]
      have := ih (v / 10) (by rw [Nat.pow_succ] at h; omega)
      simp only [List.length_cons]; omega
theorem pw_ten (L : Nat) : pw L ≤ ((10 ^ (20 * L) : Nat) : Int) := by
  induction L with
  | zero => decide
  | succ L ih =>
    have e : (10 : Nat) ^ (20 * (L + 1)) = 10 ^ (20 * L) * 100000000000000000000 := by rw [show 20 * (L + 1) = 20 * L + 20 from rfl, Nat.pow_add]
    rw [e, pw_succ, Int.natCast_mul]
    have := pw_pos L
    generalize ((10 ^ (20 * L) : Nat) : Int) = T at *
    generalize pw L = Q at *
    have e2 : ((100000000000000000000 : Nat) : Int) = 100000000000000000000 := rfl
    rw [e2]; omega
theorem decs_val {xs : List Int} (h : AllW xs) : (decs (val xs).toNat).length ≤ 20 * xs.length := by
  refine decs_le _ _ ?_
  have h1 := val_lt h
  have h2 := pw_ten xs.length
  generalize 10 ^ (20 * xs.length) = T at *
  generalize pw xs.length = Q at *
  have := val_nn h
  omega
theorem decs_bd (v : Nat) : ∀ d ∈ decs v, 0 ≤ d ∧ d ≤ 9 := by
  induction v using Nat.strongRecOn with
  | ind v ih =>
    by_cases hv : v = 0
    · subst hv; simp [decs_zero]
    · rw [decs_pos hv]
      intro d hd
      rcases List.mem_cons.1 hd with rfl | hd
      · omega
      · exact ih (v / 10) (by omega) d hd
theorem decs_nil {v : Nat} (h : decs v = []) : v = 0 := by
  by_cases hv : v = 0
  · exact hv
  · rw [decs_pos hv] at h; cases h
/-- What is still to come of a piece: k places are left of it, if it is told whole. -/
def restD (whole : Bool) (k p : Nat) : List Int := if whole = true then padD k p else decs p
theorem restD_end {whole : Bool} {k : Nat} (h : whole = false ∨ k = 0) : restD whole k 0 = [] := by
  unfold restD
  cases whole with
  | false => simp [decs_zero]
  | true => rcases h with h | h
            · cases h
            · subst h; rfl
theorem restD_next {whole : Bool} {k p : Nat} (hp : p < 10 ^ k) (h : p ≠ 0 ∨ (whole = true ∧ k ≠ 0)) : ∃ k', k = k' + 1 ∧ p / 10 < 10 ^ k' ∧ restD whole k p = ((p % 10 : Nat) : Int) :: restD whole k' (p / 10) := by
  have hk : k ≠ 0 := by
    rintro rfl
    simp at hp
    rcases h with h | h
    · exact h hp
    · exact h.2 rfl
  obtain ⟨k', rfl⟩ := Nat.exists_eq_succ_of_ne_zero hk
  refine ⟨k', rfl, by rw [Nat.pow_succ] at hp; omega, ?_⟩
  unfold restD
  cases whole with
  | true => rfl
  | false =>
    have : p ≠ 0 := by rcases h with h | h
                       · exact h
                       · cases h.1
    simp [decs_pos this]
/-- A piece of a number, and what is left of it. -/
theorem decs_piece (v : Nat) : decs v = restD (decide (v / 10 ^ 19 ≠ 0)) 19 (v % 10 ^ 19) ++ decs (v / 10 ^ 19) := by
  by_cases h : v / 10 ^ 19 = 0
  · have hl : v < 10 ^ 19 := (Nat.div_eq_zero_iff_lt (by decide)).1 h
    rw [h, decs_zero, List.append_nil, Nat.mod_eq_of_lt hl]
    simp [restD]
  · rw [decs_split 19 v h]
    have e := padD_mod 19 v
    unfold restD
    rw [if_pos (by simpa using h), e]
end Go.Proofs.YtjbcjapgammbhabDoor

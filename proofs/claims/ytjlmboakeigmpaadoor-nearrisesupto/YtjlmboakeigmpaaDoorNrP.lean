import Derived.Test.YtjlmboakeigmpaaDoorNrN
namespace Go.Proofs.YtjlmboakeigmpaaDoor
open Go.RowKit

theorem bnd_zero : bnd 0 = 0 := by decide
theorem Ps.pos {x y : Int} {t : Nat} (h : Ps x y t) (hx : 0 < x) : 0 < t := by
  rcases Nat.eq_zero_or_pos t with rfl | h0
  · obtain ⟨_, ⟨_, h⟩ | ⟨h, _⟩⟩ := h
    · rw [show 0 / 2 = 0 from rfl, bnd_zero, Int.zero_mul] at h
      have := Int.mul_pos hx E4_pos
      omega
    · simp at h
  · exact h0
theorem Ps.ex1 {y Z : Int} (hZ : 0 ≤ Z) (n : Nat) : (∃ i, i ≤ n ∧ bnd i * y ≤ Z ∧ Z < bnd (i + 1) * y) ∨ bnd (n + 1) * y ≤ Z := by
  induction n with
  | zero =>
    rcases Int.lt_or_le Z (bnd (0 + 1) * y) with h | h
    · exact .inl ⟨0, Nat.le_refl _, by rw [bnd_zero, Int.zero_mul]; exact hZ, h⟩
    · exact .inr h
  | succ n ih =>
    rcases ih with ⟨i, h1, h2⟩ | h
    · exact .inl ⟨i, by omega, h2⟩
    · rcases Int.lt_or_le Z (bnd (n + 1 + 1) * y) with h' | h'
      · exact .inl ⟨n + 1, Nat.le_refl _, h, h'⟩
      · exact .inr h'
theorem Ps.ex {x y : Int} (hx : 0 ≤ x) (hy : 0 < y) : ∃ t, Ps x y t := by
  have hZ : 0 ≤ 2 * (x * E4) := by have := Int.mul_nonneg hx (Int.le_of_lt E4_pos); omega
  rcases Ps.ex1 (y := y) hZ 18437736874454810623 with ⟨i, h1, h2, h3⟩ | h
  · by_cases e : bnd i * y = 2 * (x * E4)
    · exact ⟨2 * i, by omega, .inl ⟨by omega, by rw [Nat.mul_div_cancel_left _ (by decide)]; exact e⟩⟩
    · refine ⟨2 * i + 1, by omega, .inr ⟨by omega, ?_, .inr ?_⟩⟩
      · rw [show (2 * i + 1) / 2 = i by omega]; omega
      · rw [show (2 * i + 1) / 2 = i by omega]; exact h3
  · exact ⟨_, Ps.last hy (Nat.le_refl _) h⟩
/-- A fraction's place among floats and middles. -/
def Pz (r : Rat) (z : Int) : Prop := (r.num = 0 ∧ z = 0) ∨ (0 < r.num ∧ 0 < z ∧ Ps r.num r.den z.toNat) ∨ (r.num < 0 ∧ z < 0 ∧ Ps (-r.num) r.den (-z).toNat)
theorem den_pos (r : Rat) : (0 : Int) < r.den := by have := r.den_pos; omega
theorem Pz.ex (r : Rat) : ∃ z, Pz r z := by
  rcases Int.lt_trichotomy r.num 0 with h | h | h
  · obtain ⟨t, ht⟩ := Ps.ex (x := -r.num) (by omega) (den_pos r)
    have := ht.pos (by omega)
    exact ⟨-(t : Int), .inr (.inr ⟨h, by omega, by rw [Int.neg_neg, Int.toNat_natCast]; exact ht⟩)⟩
  · exact ⟨0, .inl ⟨h, rfl⟩⟩
  · obtain ⟨t, ht⟩ := Ps.ex (x := r.num) (by omega) (den_pos r)
    have := ht.pos (by omega)
    exact ⟨(t : Int), .inr (.inl ⟨h, by omega, by rw [Int.toNat_natCast]; exact ht⟩)⟩
theorem Pz.mono {r s : Rat} {y z : Int} (h : Pz r y) (k : Pz s z) (hrs : r.num * s.den ≤ s.num * r.den) : y ≤ z := by
  have d1 := den_pos r
  have d2 := den_pos s
  rcases h with ⟨h1, rfl⟩ | ⟨h1, h2, h3⟩ | ⟨h1, h2, h3⟩ <;> rcases k with ⟨k1, rfl⟩ | ⟨k1, k2, k3⟩ | ⟨k1, k2, k3⟩
  · omega
  · omega
  · rw [h1, Int.zero_mul] at hrs; have := Int.mul_neg_of_neg_of_pos k1 d1; omega
  · rw [k1, Int.zero_mul] at hrs; have := Int.mul_pos h1 d2; omega
  · have := h3.mono k3 d1 d2 hrs; omega
  · have := Int.mul_pos h1 d2; have := Int.mul_neg_of_neg_of_pos k1 d1; omega
  · omega
  · omega
  · have := k3.mono h3 d2 d1 (by rw [Int.neg_mul, Int.neg_mul]; omega); omega
theorem Pz.uniq {r : Rat} {y z : Int} (h : Pz r y) (k : Pz r z) : y = z := Int.le_antisymm (h.mono k (Int.le_refl _)) (k.mono h (Int.le_refl _))
theorem Pz.bnd {r : Rat} {z : Int} (h : Pz r z) : -36875473748909621247 ≤ z ∧ z ≤ 36875473748909621247 := by
  rcases h with ⟨_, rfl⟩ | ⟨_, _, h, _⟩ | ⟨_, _, h, _⟩ <;> omega
def dnz (z : Int) : Int := z / 4
def upz (z : Int) : Int := -((-z) / 4)
def nrz (t : Nat) : Nat := (t + 1 + t / 4 % 2) / 4
def flz (z : Int) : Int := if z < 0 then -((nrz (-z).toNat : Nat) : Int) else ((nrz z.toNat : Nat) : Int)
def sdz (z : Int) : Int := if z % 4 = 0 then 0 else if flz z = upz z then 1 else -1
theorem dnz_mono {y z : Int} (h : y ≤ z) : dnz y ≤ dnz z := by unfold dnz; omega
theorem upz_mono {y z : Int} (h : y ≤ z) : upz y ≤ upz z := by unfold upz; omega
theorem nrz_mono {y z : Nat} (h : y ≤ z) : nrz y ≤ nrz z := by
  rcases (by omega : y / 4 = z / 4 ∨ y / 4 + 1 ≤ z / 4) with e | e
  · unfold nrz; rw [e]; omega
  · have : nrz y ≤ y / 4 + 1 := by unfold nrz; omega
    have : z / 4 ≤ nrz z := by unfold nrz; omega
    omega
theorem flz_mono {y z : Int} (h : y ≤ z) : flz y ≤ flz z := by
  unfold flz
  split <;> split
  · have := nrz_mono (show (-z).toNat ≤ (-y).toNat by omega); omega
  · omega
  · omega
  · have := nrz_mono (show y.toNat ≤ z.toNat by omega); omega
theorem Pz.dn {r : Rat} {z : Int} (h : Pz r z) : -9218868437227405312 ≤ dnz z ∧ dnz z ≤ 9218868437227405312 := by have := h.bnd; unfold dnz; omega
theorem Pz.up {r : Rat} {z : Int} (h : Pz r z) : -9218868437227405312 ≤ upz z ∧ upz z ≤ 9218868437227405312 := by have := h.bnd; unfold upz; omega
theorem flz_or (z : Int) : flz z = dnz z ∨ flz z = upz z := by unfold flz dnz upz nrz; split <;> omega
theorem Pz.fl {r : Rat} {z : Int} (h : Pz r z) : -9218868437227405312 ≤ flz z ∧ flz z ≤ 9218868437227405312 := by
  rcases flz_or z with e | e <;> rw [e]
  · exact h.dn
  · exact h.up
end Go.Proofs.YtjlmboakeigmpaaDoor

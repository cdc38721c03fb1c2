import Derived.Test.YtfaccnmiopcneaaGreatDoorR3Ta
namespace Go.Proofs.YtfaccnmiopcneaaGreatDoor
open Go.RowKit

theorem ceil_small {r : Rat} (h0 : 0 < r) {A : Nat} (hA : r.num = (A : Int)) : (-((-r).num / (-r).den)).natAbs ≤ A := by
  obtain ⟨h1, h2⟩ := ceil_is r hA
  have hB := r.den_pos
  have hA0 : 0 < A := by have := num_pos_iff.2 h0; omega
  generalize -((-r).num / (-r).den) = c at *
  have hc0 : 0 ≤ c := by
    rcases Int.lt_or_le c 0 with h | h
    · exfalso
      have : c * (r.den : Int) ≤ 0 * (r.den : Int) := Int.mul_le_mul_of_nonneg_right (by omega) (by omega)
      omega
    · exact h
  have hcA : c ≤ (A : Int) := by
    rcases Int.lt_or_le (A : Int) c with h | h
    · exfalso
      have h3 : (A : Int) * (r.den : Int) ≤ (c - 1) * (r.den : Int) := Int.mul_le_mul_of_nonneg_right (by omega) (by omega)
      have h4 : (A : Int) * 1 ≤ (A : Int) * (r.den : Int) := Int.mul_le_mul_of_nonneg_left (by omega) (by omega)
      omega
    · exact h
  omega
theorem rest_eq (A B : Nat) (hB : 0 < B) {r : Rat} (e : Rat.divInt (A : Int) (B : Int) = r) : r - (((A / B : Nat) : Int) : Rat) = Rat.divInt ((A % B : Nat) : Int) (B : Int) := by
  rw [← Rat.inv_inv (r - _), rest_inv A B hB e, Rat.inv_divInt]
theorem den_le {x y : Nat} (hy : 0 < y) : (Rat.divInt (x : Int) (y : Int)).den ≤ y := by
  rw [Rat.den_divInt, if_neg (by omega)]
  have := Nat.div_le_self (y : Int).natAbs (Int.gcd (y : Int) (x : Int))
  simpa using this
/-- All that the round below asks. -/
structure Step (r s f : Rat) (S : Nat) : Prop where
  pa : 0 < r - f
  pb : 0 < s - f
  za : SzR (r - f)⁻¹ S
  zb : SzR (s - f)⁻¹ S
  px : 0 < (s - f)⁻¹
  le : (s - f)⁻¹ ≤ (r - f)⁻¹
  less : (s - f)⁻¹.den + (r - f)⁻¹.den < r.den + s.den
  best : ∀ z, Best (s - f)⁻¹ (r - f)⁻¹ z → Best r s (f + z⁻¹)
theorem step_of {r s : Rat} {A S : Nat} (hA : r.num = (A : Int)) (h0 : 0 < r) (hle : r ≤ s) (hc : ¬ ((-((-r).num / (-r).den) : Int) : Rat) ≤ s) (zr : SzR r S) (zs : SzR s S) (hS : 1 ≤ S) : Step r s (((A / r.den : Nat) : Int) : Rat) S := by
  have hs0 : 0 < s := by
    rcases Decidable.em (0 < s) with h7 | h7
    · exact h7
    · exact absurd (Rat.le_trans hle (Rat.not_lt.1 h7)) (Rat.not_le.2 h0)
  obtain ⟨A', hA', hA0, e1⟩ := parts_nat h0
  obtain rfl : A' = A := by omega
  obtain ⟨C, hC, hC0, e2⟩ := parts_nat hs0
  have hE := Ends.of hA0 e1 e2 hle
  obtain ⟨b1, b2⟩ := beyond hA e1 e2 hle hc
  obtain ⟨heq, hlr, hhr, _⟩ := hE.parts b1 b2
  have hN := hE.next b1 b2
  have hB := r.den_pos
  have hD := s.den_pos
  have ra := rest_eq A' r.den hB e1
  have rb := rest_eq C s.den hD e2
  have ia := rest_inv A' r.den hB e1
  have ib := rest_inv C s.den hD e2
  rw [heq] at rb ib
  have ma := Nat.mod_lt A' hB
  have mb := Nat.mod_lt C hD
  have q1 := zr.2
  have q2 := zs.2
  refine ⟨?_, ?_, ?_, ?_, ?_, ?_, ?_, fun z hz => ?_⟩
  · exact (div_pos (by omega) ra.symm).2 (by omega)
  · exact (div_pos (by omega) rb.symm).2 (by omega)
  · rw [ia]; exact divInt_sz (by simpa using q1) (by simp only [Int.natAbs_natCast]; omega) hS
  · rw [ib]; exact divInt_sz (by simpa using q2) (by simp only [Int.natAbs_natCast]; omega) hS
  · exact (div_pos (by omega) ib.symm).2 (by omega)
  · rw [div_le (by omega) (by omega) ib.symm ia.symm]; exact_mod_cast hN.2.2.2
  · rw [ia, ib]
    have d1 := den_le (x := r.den) (y := A' % r.den) hlr
    have d2 := den_le (x := s.den) (y := C % s.den) hhr
    omega
  · obtain ⟨p, q, hp⟩ := Simp.there _ _ _ _ _ (Nat.le_refl _) hN
    have hz2 := hp.best hN ib.symm ia.symm
    have ez := hz.uniqP hz2 ((div_pos (by omega) ib.symm).2 (by omega))
    obtain ⟨⟨hp0, hq0, _⟩, _⟩ := hp.good hN
    have hm := (Simp.more b1 b2 hp).best hE e1 e2
    rw [ez, Rat.inv_divInt, ← div_one, Rat.divInt_add_divInt _ _ (by decide) (by omega)]
    have e3 : ((A' / r.den : Nat) : Int) * (p : Int) + (q : Int) * 1 = ((A' / r.den * p + q : Nat) : Int) := by
      rw [Int.mul_one]; rfl
    have e4 : (1 : Int) * (p : Int) = (p : Int) := Int.one_mul _
    rw [e3, e4]
    exact hm
theorem Best.sz {r s z : Rat} {S : Nat} (h : Best r s z) (hrs : r ≤ s) (zr : SzR r S) : SzR z S := by
  have h1 := h.2.2 r (Rat.le_refl) hrs
  obtain ⟨h2, h3⟩ := zr
  exact ⟨by omega, by omega⟩
end Go.Proofs.YtfaccnmiopcneaaGreatDoor

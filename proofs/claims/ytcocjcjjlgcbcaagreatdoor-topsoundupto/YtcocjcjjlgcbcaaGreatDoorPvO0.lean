import Derived.Test.YtcocjcjjlgcbcaaGreatDoorPvN
import Derived.Test.YtcocjcjjlgcbcaaGreatDoorQAll
namespace Go.Proofs.YtcocjcjjlgcbcaaGreatDoor
open Go.RowKit

/-- A point along a ray, over one number. -/
theorem far_wd {X Z : Nat → Rat} {ZX ZZ : Nat → Nat} {n K Kt : Nat} {t : Rat} (hx : ∀ i, i < n → SzR (X i) (ZX i)) (hz : ∀ i, i < n → SzR (Z i) (ZZ i)) (hK : tot ZX n + tot ZZ n ≤ K) (ht : SzR t Kt) : ∃ D, 0 < D ∧ D < pw (K + Kt + 1) ∧ ∀ i, i < n → Wd (K + Kt + 1) D (X i + t * Z i) := by
  obtain ⟨Dx, x1, x2, x3⟩ := Wd.list hx (Nat.le_refl _)
  obtain ⟨Dz, z1, z2, z3⟩ := Wd.list hz (Nat.le_refl _)
  have h := Wd.self ht
  have q := mul_pw (Int.le_of_lt h.1) h.2.1 (Int.le_of_lt z1) z2
  have q0 : 0 < (t.den : Int) * Dz := Int.mul_pos h.1 z1
  have q2 := mul_pw (Int.le_of_lt x1) x2 q.2 q.1
  refine ⟨Dx * ((t.den : Int) * Dz), Int.mul_pos x1 q0, Int.lt_of_lt_of_le q2.1 (pw_mono (by omega)), fun i hi => ?_⟩
  have h1 := (x3 i hi).lift q0 q.1
  have h2 := (h.mul (z3 i hi)).lift' x1 x2
  exact (h1.add h2).up (by omega)
end Go.Proofs.YtcocjcjjlgcbcaaGreatDoor

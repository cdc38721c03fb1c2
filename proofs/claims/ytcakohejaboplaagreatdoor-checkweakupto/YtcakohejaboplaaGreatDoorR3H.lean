import Derived.Test.YtcakohejaboplaaGreatDoorRatAll
import Derived.Test.YtcakohejaboplaaGreatDoorLentAll
namespace Go.Proofs.YtcakohejaboplaaGreatDoor
open Go.RowKit

theorem num_off {w w' : World} {R : Nat} {z : Int} (h0 : 0 ≤ z) (h1 : z < 18446744073709551616) (ho : Off R (w.alloc (.cells #[.int .u64 z] 94)) w') (hR : w.heap.size ≠ R) : Num w' (some ⟨w.heap.size, 0, none⟩) 1 1 z 1 := by
  obtain ⟨xs, k1, k2, k3, k4, k5, k6⟩ := (reads_one (w := w) (z := z)).2 ⟨h0, h1⟩
  refine ⟨xs, k1, k2, ?_, k4, k5, k6⟩
  rcases k3 with e | ⟨b, o, e, hc⟩
  · exact .inl e
  · refine .inr ⟨b, o, e, fun i hi => ?_⟩
    simp only [Option.some.injEq, Addr.mk.injEq] at e
    obtain ⟨rfl, rfl, -⟩ := e
    exact (World.cell?_of_block (w := w.alloc _) (a := ⟨w.heap.size, 0 + i, none⟩) (ho.block _ hR)).trans (hc i hi)
theorem den_one {p q : Bool} {m k : Int} {r : Rat} (hm : 0 ≤ m) (hk : 0 < k) (h : Rat.divInt (ws p m) (ws q k) = r) : m % k = 0 ↔ r.den = 1 := by
  have hd := low_den p q hm hk
  rw [h] at hd
  obtain ⟨M, rfl⟩ := Int.eq_ofNat_of_zero_le hm
  obtain ⟨K, rfl⟩ := Int.eq_ofNat_of_zero_le (Int.le_of_lt hk)
  simp only [Int.toNat_natCast] at hd
  have hK : 0 < K := by omega
  have hg : 0 < Nat.gcd M K := Nat.gcd_pos_of_pos_right _ hK
  have hdn : r.den = K / Nat.gcd M K := by
    rw [← Int.natCast_ediv] at hd
    exact Int.ofNat.inj hd
  have hmod : ((M : Int) % (K : Int) = 0) ↔ M % K = 0 := by
    rw [← Int.natCast_emod]
    exact Int.natCast_eq_zero
  rw [hmod, hdn]
  constructor
  · intro h0
    have : Nat.gcd M K = K := Nat.gcd_eq_right (Nat.dvd_of_mod_eq_zero h0)
    rw [this, Nat.div_self hK]
  · intro h1
    have h2 : K = Nat.gcd M K := by
      have h3 := Nat.div_mul_cancel (Nat.gcd_dvd_right M K)
      rw [h1, Nat.one_mul] at h3
      exact h3.symm
    exact Nat.mod_eq_zero_of_dvd (h2 ▸ Nat.gcd_dvd_left M K)
end Go.Proofs.YtcakohejaboplaaGreatDoor

import Derived.Test.YtcocjcjjlgcbcaaGreatDoorPvN
import Derived.Test.YtcocjcjjlgcbcaaGreatDoorQAll
namespace Go.Proofs.YtcocjcjjlgcbcaaGreatDoor
open Go.RowKit

/-- The document's Holds at a list over one number. -/
theorem holdD3 (P : Prob) {xa : Option Addr} {nx xc : Nat} {X : Nat → Rat} {Zx : Nat → Nat} {Kx U : Nat} {Dx : Int} (w : World) (hP : PQ w P) (hx : LQ w xa nx X Zx) (hz : ∀ j, j < nx → 1 ≤ Zx j ∧ Zx j ≤ U) (hU : 1 ≤ U ∧ U ≤ 3200000) (dx1 : 0 < Dx) (dx2 : Dx < pw Kx) (dx3 : ∀ j, j < nx → Wd Kx Dx (X j)) (hK : P.K ≤ 1048576) (hKx : P.K + Kx ≤ 1100000) :
    Calls Tryz.prog 8 #[P.val, .slice xa nx xc] w fun e w' => ∃ b, e = .returned (.bool b) ∧ (b = true ↔ Hlds P nx X) ∧ Below w.heap.size w w' := by
  have hZR : ∀ i, i < P.rn → P.ZR i ≤ P.K := fun i hi => by have := tot_le (Z := P.ZR) hi; have := hP.all; omega
  exact holdsD P (T := P.K + Kx + 1) (S := P.K + U) (U := U) w hP hx hz ⟨by omega, by omega⟩ (fun i hi => by have := hZR i hi; omega) (by omega) ⟨by omega, by omega⟩ hK (fun i k hi hk => hP.row_sz3 dx1 dx2 dx3 hK i k hi hk)
theorem valD3 (P : Prob) {xa : Option Addr} {nx xc : Nat} {X : Nat → Rat} {Zx : Nat → Nat} {Kx U : Nat} {Dx : Int} (w : World) (hP : PQ w P) (hx : LQ w xa nx X Zx) (hz : ∀ j, j < nx → 1 ≤ Zx j ∧ Zx j ≤ U) (hU : 1 ≤ U ∧ U ≤ 3200000) (dx1 : 0 < Dx) (dx2 : Dx < pw Kx) (dx3 : ∀ j, j < nx → Wd Kx Dx (X j)) (hK : P.K ≤ 1048576) (hKx : P.K + Kx ≤ 1100000) (hn : nx = P.vn) :
    Calls Tryz.prog 10 #[P.val, .slice xa nx xc] w fun e w' => ∃ f c n1 k1 c' n' k', e = .returned (.agg #[.bool f, .slice c n1 k1, .slice c' n' k']) ∧ GR w' w.heap.size f c n1 k1 c' n' k' (vlu P X) 1100008 ∧ Below w.heap.size w w' := by
  have hall := hP.all
  have hl := tot_len P.ZV P.vn
  have hZV : ∀ i, i < P.vn → P.ZV i ≤ P.K := fun i hi => by have := tot_le (Z := P.ZV) hi; omega
  refine (valueD P (T := P.K + Kx + 1) (S := P.K + U) (U := U) w hP hx hz ⟨by omega, by omega⟩ (fun j hj => by have := hZV j hj; omega) (by omega) (by omega) (by omega) (by omega) (fun q hq => hP.val_sz3 dx1 dx2 dx3 hK q hq)).mono ?_
  rintro e w' ⟨f, c, n1, k1, d, m, l, h1, G, hb⟩
  exact ⟨f, c, n1, k1, d, m, l, h1, (G.val (vlu_xn P X (by omega))).le (by omega), hb⟩
theorem absR_nn (r : Rat) : 0 ≤ absR r := by
  have h : r < 0 ↔ r.num < 0 := by
    rw [Rat.lt_iff]
    show r.num * ((1 : Nat) : Int) < 0 * (r.den : Int) ↔ _
    omega
  unfold absR
  split
  · have := h.2 (by assumption)
    grind
  · rename_i h2
    have : ¬ r < 0 := fun k => h2 (h.1 k)
    grind
/-- A point along a ray, over one number. -/
theorem far_wd {X Z : Nat → Rat} {ZX ZZ : Nat → Nat} {n K Kt : Nat} {t : Rat} (hx : ∀ i, i < n → SzR (X i) (ZX i)) (hz : ∀ i, i < n → SzR (Z i) (ZZ i)) (hK : tot ZX n + tot ZZ n ≤ K) (ht : SzR t Kt) : ∃ D, 0 < D ∧ D < pw (K + Kt + 1) ∧ ∀ i, i < n → Wd (K + Kt + 1) D (X i + t * Z i) := by
  obtain ⟨Dx, x1, x2, x3⟩ := Wd.list hx (Nat.le_refl _)
  obtain ⟨Dz, z1, z2, z3⟩ := Wd.list hz (Nat.le_refl _)
  have h := Wd.self ht
  have q := mul_pw (Int.le_of_lt h.1) h.2.1 (Int.le_of_lt z1) z2
  have q0 : 0 < (t.den : Int) * Dz := Int.mul_pos h.1 z1
  have q2 := mul_pw (Int.le_of_lt x1) x2 q.2 q.1
  refine ⟨Dx * ((t.den : Int) * Dz), Int.mul_pos x1 q0, Int.lt_of_lt_of_le q2.1 (pw_mono (by omega)), fun i hi => ?_⟩
  have h1 := (x3 i hi).lift q0 q.1
  have h2 := (h.mul (z3 i hi)).lift' x1 x2
  exact (h1.add h2).up (by omega)
theorem imp_btr {P : Prob} {X Z : Nat → Rat} {t : Rat} (h : imp P Z) : btr P (vlu P (fun j => X j + (t + 1) * Z j)) (vlu P (fun j => X j + t * Z j)) := by
  unfold imp at h
  unfold btr
  rw [vlu_ray, vlu_ray]
  split
  · rename_i hm
    rw [if_pos hm] at h
    grind
  · rename_i hm
    rw [if_neg hm] at h
    grind
end Go.Proofs.YtcocjcjjlgcbcaaGreatDoor

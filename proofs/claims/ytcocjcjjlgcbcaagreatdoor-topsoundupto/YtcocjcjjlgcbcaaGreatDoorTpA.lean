import Derived.Test.YtcocjcjjlgcbcaaGreatDoorPvO0
namespace Go.Proofs.YtcocjcjjlgcbcaaGreatDoor
open Go.RowKit

/-- Quotients of numbers over one number are over one number. -/
theorem Wd.quo {d : Nat} {D : Int} {r : Rat} (k : Wd d D r) (h0 : r ≠ 0) : ∃ E, 0 < E ∧ E < pw d ∧ ∀ b, Wd d D b → Wd d E (b / r) := by
  obtain ⟨k1, k2, m, hm, hm'⟩ := k
  have hD0 : (D : Rat) ≠ 0 := by
    intro e
    have : D = 0 := by exact_mod_cast e
    omega
  have m0 : m ≠ 0 := by
    rintro rfl
    have h2 : r * (D : Rat) = 0 := hm
    rcases Rat.mul_eq_zero.1 h2 with h | h
    · exact h0 h
    · exact hD0 h
  refine ⟨(m.natAbs : Int), by omega, hm', fun b hb => ?_⟩
  obtain ⟨_, _, n, hn, hn'⟩ := hb
  have e : b / r * (m : Rat) = (n : Rat) := by
    rw [← hm, ← hn, Rat.div_def, Rat.mul_assoc, ← Rat.mul_assoc (r⁻¹), Rat.inv_mul_cancel _ h0, Rat.one_mul]
  by_cases hp : 0 ≤ m
  · exact ⟨by omega, hm', n, by rw [Int.natAbs_of_nonneg hp]; exact e, hn'⟩
  · refine ⟨by omega, hm', -n, ?_, by omega⟩
    have e1 : ((m.natAbs : Int)) = -m := by omega
    rw [e1, Rat.intCast_neg, Rat.intCast_neg, Rat.mul_neg, e]
/-- How far a value is off, and the rate along a ray, over one number. -/
theorem PQ.rate_wd {w : World} {P : Prob} (hP : PQ w P) {X Z : Nat → Rat} {ZX ZZ : Nat → Nat} {m : Rat} {Kx Km : Nat} (hx : ∀ i, i < P.vn → SzR (X i) (ZX i)) (hz : ∀ i, i < P.vn → SzR (Z i) (ZZ i)) (hK : tot ZX P.vn + tot ZZ P.vn ≤ Kx) (hm : SzR m Km) (hKK : P.K ≤ 1048576) : ∃ D, Wd (P.K + Kx + Km + 2) D (m - vlu P X) ∧ Wd (P.K + Kx + Km + 2) D (rte P Z) := by
  have hall := hP.all
  have hl := tot_len P.ZV P.vn
  obtain ⟨Do, o1, o2, o3⟩ := Wd.list (X := fun j => (P.V j).obj) (Z := P.ZV) (n := P.vn) (K := tot P.ZV P.vn) (fun j hj => by
    obtain ⟨b, o, hV⟩ := hP.var hj
    exact hV.sobj) (Nat.le_refl _)
  obtain ⟨Dx, x1, x2, x3⟩ := Wd.list hx (Nat.le_refl _)
  obtain ⟨Dz, z1, z2, z3⟩ := Wd.list hz (Nat.le_refl _)
  have hs := Wd.self hP.sk
  have k1 := hs.1
  have k2 := hs.2.1
  generalize (P.k.den : Int) = Dk at *
  have hm := Wd.self hm
  have m1 := hm.1
  have m2 := hm.2.1
  generalize (m.den : Int) = Dm at *
  have q := mul_pw (Int.le_of_lt o1) o2 (Int.le_of_lt x1) x2
  have q0 : 0 < Do * Dx := Int.mul_pos o1 x1
  have q2 := mul_pw (Int.le_of_lt k1) k2 q.2 q.1
  have q3 : 0 < Dk * (Do * Dx) := Int.mul_pos k1 q0
  have q4 := mul_pw q2.2 q2.1 (Int.le_of_lt z1) z2
  have q5 : 0 < Dk * (Do * Dx) * Dz := Int.mul_pos q3 z1
  have hv := Wd.sum (Y := prt P.k P.V X) (n := P.vn + 1) (D := Dk * (Do * Dx)) q3 q2.1 (fun j hj => by
    cases j with
    | zero => exact (hs.lift q0 q.1)
    | succ j => exact ((o3 j (by omega)).mul (x3 j (by omega))).lift' k1 k2) (by omega) (P.vn + 1) (Nat.le_refl _)
  have p := mul_pw (Int.le_of_lt o1) o2 (Int.le_of_lt z1) z2
  have p0 : 0 < Do * Dz := Int.mul_pos o1 z1
  have hr := Wd.sum (Y := fun j => (P.V j).obj * Z j) (n := P.vn) (D := Do * Dz) p0 p.1 (fun j hj => (o3 j hj).mul (z3 j hj)) (by omega) P.vn (Nat.le_refl _)
  have a1 : Wd (P.K + Kx + Km + 1) (Dm * (Dk * (Do * Dx) * Dz)) m := (hm.lift q5 q4.1).up (by omega)
  have a2 : Wd (P.K + Kx + Km + 1) (Dm * (Dk * (Do * Dx) * Dz)) (vlu P X) := ((hv.lift z1 z2).lift' m1 m2).up (by omega)
  have s1 := mul_pw (Int.le_of_lt k1) k2 (Int.le_of_lt x1) x2
  have s2 := mul_pw (Int.le_of_lt m1) m2 s1.2 s1.1
  have a3 := (hr.lift (Int.mul_pos m1 (Int.mul_pos k1 x1)) s2.1).up (show _ ≤ P.K + Kx + Km + 2 by omega)
  have e : Do * Dz * (Dm * (Dk * Dx)) = Dm * (Dk * (Do * Dx) * Dz) := by grind
  rw [e] at a3
  exact ⟨_, a1.sub a2, a3⟩
/-- The step to a value, and one more: their sizes. -/
theorem PQ.step_sz {w : World} {P : Prob} (hP : PQ w P) {X Z : Nat → Rat} {ZX ZZ : Nat → Nat} {m : Rat} {Kx Km : Nat} (hx : ∀ i, i < P.vn → SzR (X i) (ZX i)) (hz : ∀ i, i < P.vn → SzR (Z i) (ZZ i)) (hK : tot ZX P.vn + tot ZZ P.vn ≤ Kx) (hm : SzR m Km) (hKK : P.K ≤ 1048576) (h0 : rte P Z ≠ 0) : SzR ((m - vlu P X) / rte P Z) (P.K + Kx + Km + 2) ∧ SzR ((m - vlu P X) / rte P Z + 1) (P.K + Kx + Km + 3) := by
  obtain ⟨D, a1, a2⟩ := hP.rate_wd hx hz hK hm hKK
  obtain ⟨E, e1, e2, e3⟩ := a2.quo h0
  have h := e3 _ a1
  exact ⟨h.sz (by omega), (h.add (Wd.one e1 e2)).sz (by omega)⟩
/-- Beyond a value along a ray that makes it better. -/
theorem imp_far {P : Prob} {X Z : Nat → Rat} {m t : Rat} (h : imp P Z) (ht : (m - vlu P X) / rte P Z ≤ t) : btr P (vlu P (fun j => X j + (t + 1) * Z j)) m := by
  unfold imp at h
  unfold btr
  rw [vlu_ray]
  generalize vlu P X = v at *
  generalize rte P Z = r at *
  split
  · rename_i hm
    rw [if_pos hm] at h
    have h1 := Rat.mul_le_mul_of_nonneg_right ht (Rat.le_of_lt h)
    rw [Rat.div_mul_cancel (by grind)] at h1
    grind
  · rename_i hm
    rw [if_neg hm] at h
    have h2 : 0 ≤ -r := by grind
    have h1 := Rat.mul_le_mul_of_nonneg_right ht h2
    rw [Rat.mul_neg, Rat.mul_neg, Rat.div_mul_cancel (by grind)] at h1
    grind
theorem imp_ne {P : Prob} {Z : Nat → Rat} (h : imp P Z) : rte P Z ≠ 0 := by
  unfold imp at h
  intro e
  rw [e] at h
  split at h <;> exact absurd h (by decide)
/-- The document's Holds and Value, at a list over one greater number. -/
theorem holdD4 (P : Prob) {xa : Option Addr} {nx xc : Nat} {X : Nat → Rat} {Zx : Nat → Nat} {Kx U : Nat} {Dx : Int} (w : World) (hP : PQ w P) (hx : LQ w xa nx X Zx) (hz : ∀ j, j < nx → 1 ≤ Zx j ∧ Zx j ≤ U) (hU : 1 ≤ U ∧ U ≤ 2300000) (dx1 : 0 < Dx) (dx2 : Dx < pw Kx) (dx3 : ∀ j, j < nx → Wd Kx Dx (X j)) (hK : P.K ≤ 1048576) (hKx : P.K + Kx ≤ 2300000) :
    Calls Tryz.prog 8 #[P.val, .slice xa nx xc] w fun e w' => ∃ b, e = .returned (.bool b) ∧ (b = true ↔ Hlds P nx X) ∧ Below w.heap.size w w' := by
  have hZR : ∀ i, i < P.rn → P.ZR i ≤ P.K := fun i hi => by have := tot_le (Z := P.ZR) hi; have := hP.all; omega
  exact holdsD P (T := P.K + Kx + 1) (S := P.K + U) (U := U) w hP hx hz ⟨by omega, by omega⟩ (fun i hi => by have := hZR i hi; omega) (by omega) ⟨by omega, by omega⟩ hK (fun i k hi hk => hP.row_sz3 dx1 dx2 dx3 hK i k hi hk)
theorem valD4 (P : Prob) {xa : Option Addr} {nx xc : Nat} {X : Nat → Rat} {Zx : Nat → Nat} {Kx U : Nat} {Dx : Int} (w : World) (hP : PQ w P) (hx : LQ w xa nx X Zx) (hz : ∀ j, j < nx → 1 ≤ Zx j ∧ Zx j ≤ U) (hU : 1 ≤ U ∧ U ≤ 2300000) (dx1 : 0 < Dx) (dx2 : Dx < pw Kx) (dx3 : ∀ j, j < nx → Wd Kx Dx (X j)) (hK : P.K ≤ 1048576) (hKx : P.K + Kx ≤ 2300000) (hn : nx = P.vn) :
    Calls Tryz.prog 10 #[P.val, .slice xa nx xc] w fun e w' => ∃ f c n1 k1 c' n' k', e = .returned (.agg #[.bool f, .slice c n1 k1, .slice c' n' k']) ∧ GR w' w.heap.size f c n1 k1 c' n' k' (vlu P X) 2300008 ∧ Below w.heap.size w w' := by
  have hall := hP.all
  have hl := tot_len P.ZV P.vn
  have hZV : ∀ i, i < P.vn → P.ZV i ≤ P.K := fun i hi => by have := tot_le (Z := P.ZV) hi; omega
  refine (valueD P (T := P.K + Kx + 1) (S := P.K + U) (U := U) w hP hx hz ⟨by omega, by omega⟩ (fun j hj => by have := hZV j hj; omega) (by omega) (by omega) (by omega) (by omega) (fun q hq => hP.val_sz3 dx1 dx2 dx3 hK q hq)).mono ?_
  rintro e w' ⟨f, c, n1, k1, d, m, l, h1, G, hb⟩
  exact ⟨f, c, n1, k1, d, m, l, h1, (G.val (vlu_xn P X (by omega))).le (by omega), hb⟩
end Go.Proofs.YtcocjcjjlgcbcaaGreatDoor

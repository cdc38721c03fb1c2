import Derived.Test.YtkgnbcbcgnlodaaGreatDoorWdAll
import Derived.Test.YtkgnbcbcgnlodaaGreatDoorPuAAll
import Derived.Test.YtkgnbcbcgnlodaaGreatDoorPqF
namespace Go.Proofs.YtkgnbcbcgnlodaaGreatDoor
open Go.RowKit

/-- A list, nought beyond its end, over one number. -/
theorem Wd.xn {X : Nat → Rat} {n d : Nat} {D : Int} (hD : 0 < D) (hd : D < pw d) (h : ∀ j, j < n → Wd d D (X j)) (j : Nat) : Wd d D (xn X n j) := by
  unfold Go.Proofs.YtkgnbcbcgnlodaaGreatDoor.xn
  split
  · exact h j (by assumption)
  · exact Wd.zero hD hd
/-- A row's sum, term by term. -/
theorem PQ.row_sz3 {w : World} {P : Prob} (hP : PQ w P) {n Kx : Nat} {X : Nat → Rat} {Dx : Int} (dx1 : 0 < Dx) (dx2 : Dx < pw Kx) (dx3 : ∀ j, j < n → Wd Kx Dx (X j)) (hK : P.K ≤ 1048576) : ∀ i k, i < P.rn → k ≤ (P.R i).nt → SzR (rsum (tv (P.R i) (xn X n) P.vn) k) (P.K + Kx + 1) := by
  intro i k hi hk
  obtain ⟨b, o, hR⟩ := hP.row hi
  obtain ⟨a, cap, Z, _, h2, h3, _⟩ := hR.terms
  obtain ⟨D, d1, d2, d3⟩ := Wd.list (X := fun k => ((P.R i).t k).coef) h2.sz h3
  have hZi := tot_le (Z := P.ZR) hi
  have hall := hP.all
  have hl := tot_len Z (P.R i).nt
  have q := mul_pw (Int.le_of_lt d1) d2 (Int.le_of_lt dx1) dx2
  have h4 := Wd.sum (Y := tv (P.R i) (xn X n) P.vn) (n := (P.R i).nt) (Int.mul_pos d1 dx1) q.1 (fun j hj => by
    unfold tv
    split
    · exact (d3 j hj).mul (Wd.xn dx1 dx2 dx3 _)
    · exact Wd.zero (Int.mul_pos d1 dx1) q.1) (by omega) k hk
  exact (h4.up (show _ ≤ P.K + Kx + 1 by omega)).sz (by omega)
/-- A value, summand by summand. -/
theorem PQ.val_sz3 {w : World} {P : Prob} (hP : PQ w P) {n Kx : Nat} {X : Nat → Rat} {Dx : Int} (dx1 : 0 < Dx) (dx2 : Dx < pw Kx) (dx3 : ∀ j, j < n → Wd Kx Dx (X j)) (hK : P.K ≤ 1048576) : ∀ k, k ≤ P.vn + 1 → SzR (rsum (prt P.k P.V (xn X n)) k) (P.K + Kx + 1) := by
  intro k hk
  have hall := hP.all
  have hl := tot_len P.ZV P.vn
  obtain ⟨Do, o1, o2, o3⟩ := Wd.list (X := fun j => (P.V j).obj) (Z := P.ZV) (n := P.vn) (K := tot P.ZV P.vn) (fun j hj => by
    obtain ⟨b, o, hV⟩ := hP.var hj
    exact hV.sobj) (Nat.le_refl _)
  have hs := Wd.self hP.sk
  have k1 := hs.1
  have k2 := hs.2.1
  generalize (P.k.den : Int) = Dk at *
  have q := mul_pw (Int.le_of_lt o1) o2 (Int.le_of_lt dx1) dx2
  have q0 : 0 < Do * Dx := Int.mul_pos o1 dx1
  have q2 := mul_pw (Int.le_of_lt k1) k2 q.2 q.1
  have h4 := Wd.sum (Y := prt P.k P.V (xn X n)) (n := P.vn + 1) (D := Dk * (Do * Dx)) (Int.mul_pos k1 q0) q2.1 (fun j hj => by
    cases j with
    | zero => exact (hs.lift q0 q.1)
    | succ j => exact ((o3 j (by omega)).mul (Wd.xn dx1 dx2 dx3 _)).lift' k1 k2) (by omega) k hk
  exact (h4.up (show _ ≤ P.K + Kx + 1 by omega)).sz (by omega)
/-- The document's. -/
theorem holdD2 (P : Prob) {xa : Option Addr} {nx xc : Nat} {X : Nat → Rat} {Zx : Nat → Nat} {Kx : Nat} (w : World) (hP : PQ w P) (hx : LQ w xa nx X Zx) (hzx : ∀ i, i < nx → 1 ≤ Zx i ∧ SzR (X i) (Zx i)) (htx : tot Zx nx ≤ Kx) (hK : P.K + Kx ≤ 1048576) :
    Calls Tryz.prog 15 #[P.val, .slice xa nx xc] w fun e w' => ∃ b, e = .returned (.bool b) ∧ (b = true ↔ Hlds P nx X) ∧ Below w.heap.size w w' := by
  obtain ⟨Dx, dx1, dx2, dx3⟩ := Wd.list (fun i hi => (hzx i hi).2) htx
  have hZx : ∀ j, j < nx → Zx j ≤ Kx := fun j hj => by have := tot_le (Z := Zx) hj; omega
  have hZR : ∀ i, i < P.rn → P.ZR i ≤ P.K := fun i hi => by have := tot_le (Z := P.ZR) hi; have := hP.all; omega
  have hk1 := tot_pos Zx nx
  exact holdsD P (T := 2097160) (S := 2097152) (U := Kx) w hP hx (fun j hj => ⟨(hzx j hj).1, hZx j hj⟩) ⟨by omega, by omega⟩ (fun i hi => by have := hZR i hi; omega) (by omega) ⟨by omega, by omega⟩ (by omega) (fun i k hi hk => (hP.row_sz3 dx1 dx2 dx3 (by omega) i k hi hk).le (by omega))
theorem vlu_xn (P : Prob) (X : Nat → Rat) {n : Nat} (h : P.vn ≤ n) : vlu P (xn X n) = vlu P X := by
  rw [vlu_eq, vlu_eq]
  congr 1
  exact rsum_congr fun j hj => by unfold xn; rw [if_pos (by omega)]
/-- The document's, at any list. -/
theorem valD2 (P : Prob) {xa : Option Addr} {nx xc : Nat} {X : Nat → Rat} {Zx : Nat → Nat} {Kx : Nat} (w : World) (hP : PQ w P) (hx : LQ w xa nx X Zx) (hzx : ∀ i, i < nx → 1 ≤ Zx i ∧ SzR (X i) (Zx i)) (htx : tot Zx nx ≤ Kx) (hK : P.K + Kx ≤ 1048576) :
    Calls Tryz.prog 17 #[P.val, .slice xa nx xc] w fun e w' => ∃ f c n1 k1 c' n' k', e = .returned (.agg #[.bool f, .slice c n1 k1, .slice c' n' k']) ∧ GR w' w.heap.size f c n1 k1 c' n' k' (vlu P (xn X nx)) 2097160 ∧ Below w.heap.size w w' := by
  obtain ⟨Dx, dx1, dx2, dx3⟩ := Wd.list (fun i hi => (hzx i hi).2) htx
  have hall := hP.all
  have hl := tot_len P.ZV P.vn
  have hk1 := tot_pos Zx nx
  have hZV : ∀ i, i < P.vn → P.ZV i ≤ P.K := fun i hi => by have := tot_le (Z := P.ZV) hi; omega
  have hZx : ∀ j, j < nx → Zx j ≤ Kx := fun j hj => by have := tot_le (Z := Zx) hj; omega
  exact valueD P (T := 2097160) (S := P.K + Kx) (U := Kx) w hP hx (fun j hj => ⟨(hzx j hj).1, hZx j hj⟩) ⟨by omega, by omega⟩ (fun j hj => by have := hZV j hj; omega) (by omega) (by omega) (by omega) (by omega) (fun q hq => (hP.val_sz3 dx1 dx2 dx3 (by omega) q hq).le (by omega))
end Go.Proofs.YtkgnbcbcgnlodaaGreatDoor

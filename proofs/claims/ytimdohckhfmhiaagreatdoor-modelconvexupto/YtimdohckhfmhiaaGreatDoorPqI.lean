import Derived.Test.YtimdohckhfmhiaaGreatDoorPqH
namespace Go.Proofs.YtimdohckhfmhiaaGreatDoor
open Go.RowKit

/-- Over a whole number below pw d, and not beyond pw a: what stays with sums and products. -/
def Fv (d a : Nat) (D : Int) (r : Rat) : Prop := 0 < D ∧ D < pw d ∧ ∃ A, 0 ≤ A ∧ A < pw a ∧ Ov D A r
theorem Fv.sz {d a T : Nat} {D : Int} {r : Rat} (h : Fv d a D r) (hT : a + d ≤ T) (h1 : 1 ≤ a + d) : SzR r T := by
  obtain ⟨h1, h2, A, h3, h4, h5⟩ := h
  exact (h5.sz h1 h2 h4 (by omega)).le hT
theorem pw_lt1 (K : Nat) : pw K < pw (K + 1) := by have := pw_succ K; have := pw_pos K; omega
theorem Fv.mul {d a e b : Nat} {D E : Int} {r s : Rat} (h : Fv d a D r) (k : Fv e b E s) : Fv (d + e) (a + b) (D * E) (r * s) := by
  obtain ⟨h1, h2, A, h3, h4, h5⟩ := h
  obtain ⟨k1, k2, B, k3, k4, k5⟩ := k
  have q1 := mul_pw (Int.le_of_lt h1) h2 (Int.le_of_lt k1) k2
  have q2 := mul_pw h3 h4 k3 k4
  exact ⟨Int.mul_pos h1 k1, q1.1, A * B, q2.2, q2.1, h5.mul k5⟩
/-- Two over one number. -/
theorem Fv.add {d a b : Nat} {D : Int} {r s : Rat} (h : Fv d a D r) (k : Fv d b D s) (c : Nat) (ha : a ≤ c) (hb : b ≤ c) : Fv d (c + 1) D (r + s) := by
  obtain ⟨h1, h2, A, h3, h4, h5⟩ := h
  obtain ⟨k1, k2, B, k3, k4, k5⟩ := k
  have := pw_mono ha
  have := pw_mono hb
  have := pw_succ c
  have := pw_pos c
  exact ⟨h1, h2, A + B, by omega, by omega, h5.add k5⟩
theorem Fv.neg {d a : Nat} {D : Int} {r : Rat} (h : Fv d a D r) : Fv d a D (-r) := by
  obtain ⟨h1, h2, A, h3, h4, h5⟩ := h
  exact ⟨h1, h2, A, h3, h4, h5.neg⟩
theorem Fv.sub {d a b : Nat} {D : Int} {r s : Rat} (h : Fv d a D r) (k : Fv d b D s) (c : Nat) (ha : a ≤ c) (hb : b ≤ c) : Fv d (c + 1) D (r - s) := by
  rw [Rat.sub_eq_add_neg]; exact h.add k.neg c ha hb
theorem Fv.lift {d a e : Nat} {D E : Int} {r : Rat} (h : Fv d a D r) (hE : 0 < E) (he : E < pw e) : Fv (d + e) a (D * E) r := by
  obtain ⟨h1, h2, A, h3, h4, h5⟩ := h
  have q1 := mul_pw (Int.le_of_lt h1) h2 (Int.le_of_lt hE) he
  exact ⟨Int.mul_pos h1 hE, q1.1, A, h3, h4, h5.lift (Int.le_of_lt hE)⟩
theorem Fv.up {d a e b : Nat} {D : Int} {r : Rat} (h : Fv d a D r) (hd : d ≤ e) (ha : a ≤ b) : Fv e b D r := by
  obtain ⟨h1, h2, A, h3, h4, h5⟩ := h
  have := pw_mono hd
  have := pw_mono ha
  exact ⟨h1, by omega, A, h3, by omega, h5⟩
theorem Fv.zero {d a : Nat} {D : Int} (h : 0 < D) (hd : D < pw d) : Fv d a D 0 := ⟨h, hd, 0, Int.le_refl _, pw_pos a, Ov.zero⟩
theorem Fv.self {r : Rat} {T : Nat} (h : SzR r T) : Fv T (T + 1) (r.den : Int) r := ⟨by have := r.den_pos; omega, h.2, pw T, Int.le_of_lt (pw_pos T), pw_lt1 T, Ov.self h⟩
/-- All of a list over one number. -/
theorem Fv.list {X : Nat → Rat} {Z : Nat → Nat} {n K : Nat} (h : ∀ i, i < n → SzR (X i) (Z i)) (hK : tot Z n ≤ K) : ∃ D, 0 < D ∧ D < pw K ∧ ∀ i, i < n → Fv K (K + 1) D (X i) := by
  have p1 := dprod_pos X n
  have p2 : dprod X n < pw K := Int.lt_of_lt_of_le (dprod_lt (Z := Z) n h) (pw_mono hK)
  refine ⟨dprod X n, p1, p2, fun i hi => ⟨p1, p2, pw K, Int.le_of_lt (pw_pos K), pw_lt1 K, dprod_ov (Z := Z) n (fun j hj => ⟨h j hj, by have := tot_le (Z := Z) hj; omega⟩) i hi⟩⟩
/-- Sums over one number. -/
theorem Fv.sum {Y : Nat → Rat} {d a n : Nat} {D : Int} (hD : 0 < D) (hd : D < pw d) (h : ∀ i, i < n → Fv d a D (Y i)) (hn : n ≤ 18446744073709551615) : ∀ k, k ≤ n → Fv d (a + 1) D (rsum Y k) := by
  intro k hk
  have h2 : ∀ i, i < n → Ov D (pw a) (Y i) := fun i hi => by
    obtain ⟨h1, h2, A, h3, h4, h5⟩ := h i hi
    exact h5.le (Int.le_of_lt h1) (Int.le_of_lt h4)
  refine ⟨hD, hd, (k : Int) * pw a, Int.mul_nonneg (by omega) (Int.le_of_lt (pw_pos a)), ?_, rsum_ov h2 k hk⟩
  have e := pw_succ a
  have p := pw_pos a
  have h3 : (k : Int) * pw a ≤ 18446744073709551615 * pw a := Int.mul_le_mul_of_nonneg_right (by omega) (Int.le_of_lt p)
  omega
/-- A value. -/
theorem val_fv {k : Rat} {V : Nat → PV} {ZV : Nat → Nat} {m S K : Nat} (hk : SzR k S) (hV : ∀ j, j < m → SzR (V j).obj (ZV j)) (hK : S + tot ZV m ≤ K) (hm : m ≤ 18446744073709551614) :
    ∃ D, 0 < D ∧ D < pw K ∧ ∀ (X : Nat → Rat) (dx ax : Nat) (Dx : Int), 0 < Dx → Dx < pw dx → (∀ j, j < m → Fv dx ax Dx (X j)) → ∀ q, q ≤ m + 1 → Fv (K + dx) (K + 1 + ax + 1) (D * Dx) (rsum (prt k V X) q) := by
  obtain ⟨Do, o1, o2, o3⟩ := Fv.list (X := fun j => (V j).obj) (Z := ZV) (n := m) (K := tot ZV m) hV (Nat.le_refl _)
  have hs := Fv.self hk
  have q0 := mul_pw (Int.le_of_lt hs.1) hs.2.1 (Int.le_of_lt o1) o2
  have q1 : 0 < (k.den : Int) * Do := Int.mul_pos hs.1 o1
  have q2 : (k.den : Int) * Do < pw K := Int.lt_of_lt_of_le q0.1 (pw_mono hK)
  refine ⟨(k.den : Int) * Do, q1, q2, fun X dx ax Dx hDx hdx hX => ?_⟩
  have q3 := mul_pw (Int.le_of_lt q1) q2 (Int.le_of_lt hDx) hdx
  refine Fv.sum (Int.mul_pos q1 hDx) q3.1 (fun i hi => ?_) (by omega)
  cases i with
  | zero => exact ((hs.lift o1 o2).lift hDx hdx).up (by omega) (by have := tot_pos ZV m; omega)
  | succ i =>
    have h1 := (o3 i (by omega)).mul (hX i (by omega))
    have h2 := h1.lift hs.1 hs.2.1
    have e : Do * Dx * (k.den : Int) = (k.den : Int) * Do * Dx := by rw [Int.mul_comm, Int.mul_assoc]
    rw [e] at h2
    exact h2.up (by omega) (by omega)
/-- A row's sum. -/
theorem row_fv {r : PW} {Zt : Nat → Nat} {m K : Nat} (hC : ∀ q, q < r.nt → SzR (r.t q).coef (Zt q)) (htot : tot Zt r.nt ≤ K) (hn : r.nt ≤ 18446744073709551615) :
    ∃ D, 0 < D ∧ D < pw K ∧ ∀ (X : Nat → Rat) (dx ax : Nat) (Dx : Int), 0 < Dx → Dx < pw dx → (∀ j, j < m → Fv dx ax Dx (X j)) → Fv (K + dx) (K + 1 + ax + 1) (D * Dx) (cv r X m) := by
  obtain ⟨Do, o1, o2, o3⟩ := Fv.list (X := fun q => (r.t q).coef) (Z := Zt) (n := r.nt) (K := K) hC htot
  refine ⟨Do, o1, o2, fun X dx ax Dx hDx hdx hX => ?_⟩
  have q3 := mul_pw (Int.le_of_lt o1) o2 (Int.le_of_lt hDx) hdx
  refine Fv.sum (Int.mul_pos o1 hDx) q3.1 (fun q hq => ?_) hn r.nt (Nat.le_refl _)
  unfold tv
  split
  · rename_i h
    exact (o3 q hq).mul (hX _ (by omega))
  · exact Fv.zero (Int.mul_pos o1 hDx) q3.1
/-- Between two that stand over one number. -/
theorem fv_btw {d ax ay c dt at' : Nat} {E Dt : Int} {x y t : Rat} (hx : Fv d ax E x) (hy : Fv d ay E y) (ht : Fv dt at' Dt t) (h1 : ax ≤ c) (h2 : ay ≤ c) :
    Fv d (c + 1) E (y - x) ∧ Fv (d + dt) (c + 1 + at') (E * Dt) (t * (y - x)) ∧ Fv (d + dt) (c + 1 + at' + 1) (E * Dt) (btw t x y) := by
  have k1 := hy.sub hx c h2 h1
  have k2 := k1.mul ht
  rw [Rat.mul_comm] at k2
  exact ⟨k1, k2, (hx.lift ht.1 ht.2.1).add k2 (c + 1 + at') (by omega) (by omega)⟩
theorem Fv.ov {d a : Nat} {D : Int} {r : Rat} (h : Fv d a D r) : Ov D (pw a) r := by
  obtain ⟨h1, _, A, _, h4, h5⟩ := h
  exact h5.le (Int.le_of_lt h1) (Int.le_of_lt h4)
theorem RowAt.fv {w : World} {b o : Nat} {r : PW} {S : Nat} (h : RowAt w b o r S) (m : Nat) (hS : S ≤ 18446744073709551615) :
    ∃ D, 0 < D ∧ D < pw S ∧ ∀ (X : Nat → Rat) (dx ax : Nat) (Dx : Int), 0 < Dx → Dx < pw dx → (∀ j, j < m → Fv dx ax Dx (X j)) → Fv (S + dx) (S + 1 + ax + 1) (D * Dx) (cv r X m) := by
  obtain ⟨a, cap, Z, _, h2, h3, _⟩ := h.terms
  exact row_fv h2.sz h3 (by have := tot_len Z r.nt; omega)
/-- What the three points of ModelConvex, their values and sums take: all within T limbs. -/
structure Szs (P : Prob) (n : Nat) (X Y : Nat → Rat) (t : Rat) (T : Nat) : Prop where
  z : ∀ j, j < n → SzR (Y j - X j) T ∧ SzR (t * (Y j - X j)) T ∧ SzR (btw t (X j) (Y j)) T
  vx : ∀ q, q ≤ min n P.vn + 1 → SzR (rsum (prt P.k P.V X) q) T
  vy : ∀ q, q ≤ min n P.vn + 1 → SzR (rsum (prt P.k P.V Y) q) T
  vz : ∀ q, q ≤ min n P.vn + 1 → SzR (rsum (prt P.k P.V (fun j => btw t (X j) (Y j))) q) T
  v1 : SzR (rsum (prt P.k P.V Y) (min n P.vn + 1) - rsum (prt P.k P.V X) (min n P.vn + 1)) T
  v2 : SzR (t * (rsum (prt P.k P.V Y) (min n P.vn + 1) - rsum (prt P.k P.V X) (min n P.vn + 1))) T
  v3 : SzR (btw t (rsum (prt P.k P.V X) (min n P.vn + 1)) (rsum (prt P.k P.V Y) (min n P.vn + 1))) T
  s : ∀ i, i < P.rn → SzR (cv (P.R i) Y (min n P.vn) - cv (P.R i) X (min n P.vn)) T ∧ SzR (t * (cv (P.R i) Y (min n P.vn) - cv (P.R i) X (min n P.vn))) T ∧ SzR (btw t (cv (P.R i) X (min n P.vn)) (cv (P.R i) Y (min n P.vn))) T
/-- The points over one number each. -/
theorem szs {P : Prob} {w : World} (hP : PQ w P) {n Kx Ky Kt : Nat} {X Y : Nat → Rat} {Zx Zy : Nat → Nat} {t : Rat} (hx : ∀ i, i < n → SzR (X i) (Zx i)) (hy : ∀ i, i < n → SzR (Y i) (Zy i)) (htx : tot Zx n ≤ Kx) (hty : tot Zy n ≤ Ky) (ht : SzR t Kt) (hK : P.K + Kx + Ky + Kt ≤ 1048576) :
    Szs P n X Y t 2097160 ∧ (∃ D, 0 < D ∧ D < pw Kx ∧ ∀ j, j < n → Ov D (pw (Kx + 1)) (X j)) ∧ (∃ D, 0 < D ∧ D < pw Ky ∧ ∀ j, j < n → Ov D (pw (Ky + 1)) (Y j)) ∧ ∃ D, 0 < D ∧ D < pw (Kx + Ky + Kt) ∧ ∀ j, j < n → Ov D (pw (Kx + Ky + Kt + 5)) (btw t (X j) (Y j)) := by
  obtain ⟨Dx, x1, x2, x3⟩ := Fv.list hx htx
  obtain ⟨Dy, y1, y2, y3⟩ := Fv.list hy hty
  have t1 := Fv.self ht
  have hall := hP.all
  have hvn : P.vn ≤ 1048576 := by have := tot_len P.ZV P.vn; omega
  have hsv : ∀ j, j < P.vn → SzR (P.V j).obj (P.ZV j) := fun j hj => by
    rcases hP.v with h0 | ⟨b, o, _, h⟩
    · omega
    · exact (h j hj).sobj
  have zj : ∀ j, j < n → Fv (Kx + Ky) (Kx + Ky + 2) (Dx * Dy) (Y j - X j) ∧ Fv (Kx + Ky + Kt) (Kx + Ky + 2 + (Kt + 1)) (Dx * Dy * (t.den : Int)) (t * (Y j - X j)) ∧ Fv (Kx + Ky + Kt) (Kx + Ky + 2 + (Kt + 1) + 1) (Dx * Dy * (t.den : Int)) (btw t (X j) (Y j)) := fun j hj => by
    have h1 := (x3 j hj).lift y1 y2
    have h2 := (y3 j hj).lift x1 x2
    rw [Int.mul_comm, Nat.add_comm Ky Kx] at h2
    exact fv_btw h1 h2 t1 (c := Kx + Ky + 1) (by omega) (by omega)
  have pxy : 0 < Dx * Dy * (t.den : Int) ∧ Dx * Dy * (t.den : Int) < pw (Kx + Ky + Kt) := by
    have q1 := mul_pw (Int.le_of_lt x1) x2 (Int.le_of_lt y1) y2
    have q2 := mul_pw q1.2 q1.1 (Int.le_of_lt t1.1) t1.2.1
    exact ⟨Int.mul_pos (Int.mul_pos x1 y1) t1.1, q2.1⟩
  have hm : tot P.ZV (min n P.vn) ≤ tot P.ZV P.vn := tot_mono _ (by omega)
  obtain ⟨D, d1, d2, d3⟩ := val_fv (V := P.V) (ZV := P.ZV) (m := min n P.vn) (K := P.K) hP.sk (fun j hj => hsv j (by omega)) (by omega) (by omega)
  have vx := d3 X Kx (Kx + 1) Dx x1 x2 (fun j hj => x3 j (by omega))
  have vy := d3 Y Ky (Ky + 1) Dy y1 y2 (fun j hj => y3 j (by omega))
  have vz := d3 (fun j => btw t (X j) (Y j)) _ _ _ pxy.1 pxy.2 (fun j hj => (zj j (by omega)).2.2)
  have two : ∀ {D : Int} {K' : Nat} {x y : Rat}, K' ≤ P.K → Fv (K' + Kx) (K' + 1 + (Kx + 1) + 1) (D * Dx) x → Fv (K' + Ky) (K' + 1 + (Ky + 1) + 1) (D * Dy) y → SzR (y - x) 2097160 ∧ SzR (t * (y - x)) 2097160 ∧ SzR (btw t x y) 2097160 := fun {D K' x y} hK' hx' hy' => by
    have h1 := hx'.lift y1 y2
    have h2 := hy'.lift x1 x2
    have e : D * Dy * Dx = D * Dx * Dy := by rw [Int.mul_assoc, Int.mul_assoc, Int.mul_comm Dy]
    rw [e, show K' + Ky + Kx = K' + Kx + Ky by omega] at h2
    have h3 := fv_btw h1 h2 t1 (c := K' + Kx + Ky + 3) (by omega) (by omega)
    exact ⟨h3.1.sz (by omega) (by omega), h3.2.1.sz (by omega) (by omega), h3.2.2.sz (by omega) (by omega)⟩
  have v123 := two (Nat.le_refl _) (vx _ (Nat.le_refl _)) (vy _ (Nat.le_refl _))
  refine ⟨⟨fun j hj => ⟨(zj j hj).1.sz (by omega) (by omega), (zj j hj).2.1.sz (by omega) (by omega), (zj j hj).2.2.sz (by omega) (by omega)⟩, fun q hq => (vx q hq).sz (by omega) (by omega), fun q hq => (vy q hq).sz (by omega) (by omega), fun q hq => (vz q hq).sz (by omega) (by omega), v123.1, v123.2.1, v123.2.2, fun i hi => ?_⟩, ⟨Dx, x1, x2, fun j hj => (x3 j hj).ov⟩, ⟨Dy, y1, y2, fun j hj => (y3 j hj).ov⟩, ⟨_, pxy.1, pxy.2, fun j hj => ((zj j hj).2.2.up (Nat.le_refl _) (by omega)).ov⟩⟩
  have hR : ∃ b o, RowAt w b o (P.R i) (P.ZR i) := by
    rcases hP.r with h0 | ⟨b, o, _, h⟩
    · omega
    · exact ⟨_, _, h i hi⟩
  obtain ⟨b, o, hR⟩ := hR
  have hZi := tot_le (Z := P.ZR) hi
  obtain ⟨D, d1, d2, d3⟩ := hR.fv (min n P.vn) (by omega)
  exact two (by omega) (d3 X Kx (Kx + 1) Dx x1 x2 (fun j hj => x3 j (by omega))) (d3 Y Ky (Ky + 1) Dy y1 y2 (fun j hj => y3 j (by omega)))
end Go.Proofs.YtimdohckhfmhiaaGreatDoor

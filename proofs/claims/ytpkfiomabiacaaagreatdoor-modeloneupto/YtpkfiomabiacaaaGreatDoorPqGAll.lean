import Derived.Test.YtpkfiomabiacaaaGreatDoorPqF
namespace Go.Proofs.YtpkfiomabiacaaaGreatDoor
open Go.RowKit

theorem cs_same {r s : Rat} (h : r = s) : 0 = cs r s := by
  subst h
  unfold cs
  rw [Int.sub_self]
  rfl
set_option maxRecDepth 100000 in
set_option maxHeartbeats 8000000 in
/-- Lists that are alike. -/
theorem alikeQ {xa : Option Addr} {n xc : Nat} {X : Nat → Rat} {Zx : Nat → Nat} {ya : Option Addr} {yc : Nat} {Y : Nat → Rat} {Zy : Nat → Nat} (w : World) (hx : LQ w xa n X Zx) (hy : LQ w ya n Y Zy) (hz : ∀ j, j < n → 1 ≤ Zx j ∧ 1 ≤ Zy j ∧ Zx j + Zy j ≤ 9000000) (hxy : ∀ j, j < n → X j = Y j) (hn : n ≤ 1100000) :
    Calls Tryz.prog 29 #[.slice xa n xc, .slice ya n yc] w fun e w' => e = .returned (.bool true) ∧ Below w.heap.size w w' := by
  have HE : Hid (∀ j, j < n → X j = Y j) := hxy
  clear hxy
  go_enter Tryz.func29, Tryz.ntmps29
  go_wp2
  go_loopw [5] (fun s5 wr => ∃ (i : Nat), i ≤ n ∧ s5 = .int .i64 i ∧ Below w.heap.size w wr) (fun s5 _ => n - (intOf s5).toNat)
  case atStart => exact ⟨0, Nat.zero_le _, rfl, Below.refl _ _⟩
  case round =>
    obtain ⟨i, hi, rfl, hbel⟩ := hrel
    by_cases hlt : i < n
    · have hkX : (i : Int) < (n : Int) := by omega
      obtain ⟨hz1, hz2, hz3⟩ := hz i hlt
      rcases (hx.below hbel) with h0 | ⟨bx, ox, rfl, helx⟩
      · omega
      rcases (hy.below hbel) with h0 | ⟨bY, oY, rfl, hely⟩
      · omega
      obtain ⟨pA, aA, nA, cA, dA, mA, lA, a0, a1, a2, hA⟩ := helx i (by omega)
      obtain ⟨pB, aB, nB, cB, dB, mB, lB, b0, b1, b2, hB⟩ := hely i (by omega)
      have hkI3 : (i : Int) * 3 = ((i * 3 : Nat) : Int) := by omega
      have HE1 : Hid (X i = Y i) := HE.out i hlt
      have HB : ∀ w', Below wr.heap.size wr w' → (w'.cell? ⟨bx, ox + i * 3, none⟩ = some (.bool pA) ∧ w'.cell? ⟨bx, ox + i * 3 + 1, none⟩ = some (.slice aA nA cA) ∧ w'.cell? ⟨bx, ox + i * 3 + 2, none⟩ = some (.slice dA mA lA) ∧ w'.cell? ⟨bY, oY + i * 3, none⟩ = some (.bool pB) ∧ w'.cell? ⟨bY, oY + i * 3 + 1, none⟩ = some (.slice aB nB cB) ∧ w'.cell? ⟨bY, oY + i * 3 + 2, none⟩ = some (.slice dB mB lB)) := fun w' h => ⟨kept_c h a0, kept_c h a1, kept_c h a2, kept_c h b0, kept_c h b1, kept_c h b2⟩
      clear helx hely
      go_wp2_with fail
      go_region_held3 (fun w' => w'.cell? ⟨bx, ox + i * 3, none⟩ = some (.bool pA) ∧ w'.cell? ⟨bx, ox + i * 3 + 1, none⟩ = some (.slice aA nA cA) ∧ w'.cell? ⟨bx, ox + i * 3 + 2, none⟩ = some (.slice dA mA lA) ∧ w'.cell? ⟨bY, oY + i * 3, none⟩ = some (.bool pB) ∧ w'.cell? ⟨bY, oY + i * 3 + 1, none⟩ = some (.slice aB nB cB) ∧ w'.cell? ⟨bY, oY + i * 3 + 2, none⟩ = some (.slice dB mB lB))
        (with_reducible refine HB _ ?_; repeat' (first | with_reducible exact hc3 | with_reducible exact hc2 | with_reducible exact hc1 | with_reducible exact Below.refl _ _ | with_reducible refine bel_dr ?_ | with_reducible refine bel_a ?_))
        ((first
          | (go_at_call 28; go_fit (cmpB 0 _ (hA.below (by first | exact bel_d1 _ | exact bel_d2 _ _)) (hB.below (by first | exact bel_d1 _ | exact bel_d2 _ _)) (by omega) (by omega) (by omega) (cs_same HE1.out)); rintro e v1 ⟨rfl, hb1⟩; have hc1 : Below wr.heap.size wr v1 := (by first | exact bel_tr (bel_d1 _) hb1 | exact bel_tr (bel_d2 _ _) hb1))))
      have hbel' := bel_tr hbel hc1
      clear HB hbel hc1
      go_wp2
      go_roundw
      case rel => first | exact ⟨i + 1, by omega, by go_num, hbel'⟩ | ((repeat apply Exists.intro); refine ⟨?_, rfl⟩; exact ⟨i + 1, by omega, by go_num, hbel'⟩)
      case measure => simp [intOf]; omega
    · have hkX : ¬ (i : Int) < (n : Int) := by omega
      go_wp2
      go_ret
      exact ⟨rfl, hbel⟩
end Go.Proofs.YtpkfiomabiacaaaGreatDoor

namespace Go.Proofs.YtpkfiomabiacaaaGreatDoor
open Go.RowKit

end Go.Proofs.YtpkfiomabiacaaaGreatDoor

namespace Go.Proofs.YtpkfiomabiacaaaGreatDoor
open Go.RowKit

/-- Over a whole number below pw d, and not beyond pw a: what stays with sums and products. -/
def Fv (d a : Nat) (D : Int) (r : Rat) : Prop := 0 < D ∧ D < pw d ∧ ∃ A, 0 ≤ A ∧ A < pw a ∧ Ov D A r
theorem Fv.sz {d a T : Nat} {D : Int} {r : Rat} (h : Fv d a D r) (hT : a + d ≤ T) (h1 : 1 ≤ a + d) : SzR r T := by
  obtain ⟨h1, h2, A, h3, h4, h5⟩ := h
  exact (h5.sz h1 h2 h4 (by omega)).le hT
theorem pw_lt1 (K : Nat) : pw K < pw (K + 1) := by have := pw_succ K; have := pw_pos K; omega
theorem Fv.mul {d a e b : Nat} {D E : Int} {r s : Rat} (h : Fv d a D r) (k : Fv e b E s) : Fv (d + e) (a + b) (D * E) (r * s) := by
  obtain ⟨h1, h2, A, h3, h4, h5⟩ := h
  obtain ⟨k1, k2, B, k3, k4, k5⟩ := k
  have q1 := mul_pw (Int.le_of_lt h1) h2 (Int.le_of_lt k1) k2
  have q2 := mul_pw h3 h4 k3 k4
  exact ⟨Int.mul_pos h1 k1, q1.1, A * B, q2.2, q2.1, h5.mul k5⟩
/-- Two over one number. -/
theorem Fv.add {d a b : Nat} {D : Int} {r s : Rat} (h : Fv d a D r) (k : Fv d b D s) (c : Nat) (ha : a ≤ c) (hb : b ≤ c) : Fv d (c + 1) D (r + s) := by
  obtain ⟨h1, h2, A, h3, h4, h5⟩ := h
  obtain ⟨k1, k2, B, k3, k4, k5⟩ := k
  have := pw_mono ha
  have := pw_mono hb
  have := pw_succ c
  have := pw_pos c
  exact ⟨h1, h2, A + B, by omega, by omega, h5.add k5⟩
theorem Fv.neg {d a : Nat} {D : Int} {r : Rat} (h : Fv d a D r) : Fv d a D (-r) := by
  obtain ⟨h1, h2, A, h3, h4, h5⟩ := h
  exact ⟨h1, h2, A, h3, h4, h5.neg⟩
theorem Fv.lift {d a e : Nat} {D E : Int} {r : Rat} (h : Fv d a D r) (hE : 0 < E) (he : E < pw e) : Fv (d + e) a (D * E) r := by
  obtain ⟨h1, h2, A, h3, h4, h5⟩ := h
  have q1 := mul_pw (Int.le_of_lt h1) h2 (Int.le_of_lt hE) he
  exact ⟨Int.mul_pos h1 hE, q1.1, A, h3, h4, h5.lift (Int.le_of_lt hE)⟩
theorem Fv.up {d a e b : Nat} {D : Int} {r : Rat} (h : Fv d a D r) (hd : d ≤ e) (ha : a ≤ b) : Fv e b D r := by
  obtain ⟨h1, h2, A, h3, h4, h5⟩ := h
  have := pw_mono hd
  have := pw_mono ha
  exact ⟨h1, by omega, A, h3, by omega, h5⟩
theorem Fv.zero {d a : Nat} {D : Int} (h : 0 < D) (hd : D < pw d) : Fv d a D 0 := ⟨h, hd, 0, Int.le_refl _, pw_pos a, Ov.zero⟩
theorem Fv.self {r : Rat} {T : Nat} (h : SzR r T) : Fv T (T + 1) (r.den : Int) r := ⟨by have := r.den_pos; omega, h.2, pw T, Int.le_of_lt (pw_pos T), pw_lt1 T, Ov.self h⟩
/-- All of a list over one number. -/
theorem Fv.list {X : Nat → Rat} {Z : Nat → Nat} {n K : Nat} (h : ∀ i, i < n → SzR (X i) (Z i)) (hK : tot Z n ≤ K) : ∃ D, 0 < D ∧ D < pw K ∧ ∀ i, i < n → Fv K (K + 1) D (X i) := by
  have p1 := dprod_pos X n
  have p2 : dprod X n < pw K := Int.lt_of_lt_of_le (dprod_lt (Z := Z) n h) (pw_mono hK)
  refine ⟨dprod X n, p1, p2, fun i hi => ⟨p1, p2, pw K, Int.le_of_lt (pw_pos K), pw_lt1 K, dprod_ov (Z := Z) n (fun j hj => ⟨h j hj, by have := tot_le (Z := Z) hj; omega⟩) i hi⟩⟩
/-- Sums over one number. -/
theorem Fv.sum {Y : Nat → Rat} {d a n : Nat} {D : Int} (hD : 0 < D) (hd : D < pw d) (h : ∀ i, i < n → Fv d a D (Y i)) (hn : n ≤ 18446744073709551615) : ∀ k, k ≤ n → Fv d (a + 1) D (rsum Y k) := by
  intro k hk
  have h2 : ∀ i, i < n → Ov D (pw a) (Y i) := fun i hi => by
    obtain ⟨h1, h2, A, h3, h4, h5⟩ := h i hi
    exact h5.le (Int.le_of_lt h1) (Int.le_of_lt h4)
  refine ⟨hD, hd, (k : Int) * pw a, Int.mul_nonneg (by omega) (Int.le_of_lt (pw_pos a)), ?_, rsum_ov h2 k hk⟩
  have e := pw_succ a
  have p := pw_pos a
  have h3 : (k : Int) * pw a ≤ 18446744073709551615 * pw a := Int.mul_le_mul_of_nonneg_right (by omega) (Int.le_of_lt p)
  omega
/-- A value. -/
theorem val_fv {k : Rat} {V : Nat → PV} {ZV : Nat → Nat} {m S K : Nat} (hk : SzR k S) (hV : ∀ j, j < m → SzR (V j).obj (ZV j)) (hK : S + tot ZV m ≤ K) (hm : m ≤ 18446744073709551614) :
    ∃ D, 0 < D ∧ D < pw K ∧ ∀ (X : Nat → Rat) (dx ax : Nat) (Dx : Int), 0 < Dx → Dx < pw dx → (∀ j, j < m → Fv dx ax Dx (X j)) → ∀ q, q ≤ m + 1 → Fv (K + dx) (K + 1 + ax + 1) (D * Dx) (rsum (prt k V X) q) := by
  obtain ⟨Do, o1, o2, o3⟩ := Fv.list (X := fun j => (V j).obj) (Z := ZV) (n := m) (K := tot ZV m) hV (Nat.le_refl _)
  have hs := Fv.self hk
  have q0 := mul_pw (Int.le_of_lt hs.1) hs.2.1 (Int.le_of_lt o1) o2
  have q1 : 0 < (k.den : Int) * Do := Int.mul_pos hs.1 o1
  have q2 : (k.den : Int) * Do < pw K := Int.lt_of_lt_of_le q0.1 (pw_mono hK)
  refine ⟨(k.den : Int) * Do, q1, q2, fun X dx ax Dx hDx hdx hX => ?_⟩
  have q3 := mul_pw (Int.le_of_lt q1) q2 (Int.le_of_lt hDx) hdx
  refine Fv.sum (Int.mul_pos q1 hDx) q3.1 (fun i hi => ?_) (by omega)
  cases i with
  | zero => exact ((hs.lift o1 o2).lift hDx hdx).up (by omega) (by have := tot_pos ZV m; omega)
  | succ i =>
    have h1 := (o3 i (by omega)).mul (hX i (by omega))
    have h2 := h1.lift hs.1 hs.2.1
    have e : Do * Dx * (k.den : Int) = (k.den : Int) * Do * Dx := by rw [Int.mul_comm, Int.mul_assoc]
    rw [e] at h2
    exact h2.up (by omega) (by omega)
theorem Fv.ov {d a : Nat} {D : Int} {r : Rat} (h : Fv d a D r) : Ov D (pw a) r := by
  obtain ⟨h1, _, A, _, h4, h5⟩ := h
  exact h5.le (Int.le_of_lt h1) (Int.le_of_lt h4)
end Go.Proofs.YtpkfiomabiacaaaGreatDoor

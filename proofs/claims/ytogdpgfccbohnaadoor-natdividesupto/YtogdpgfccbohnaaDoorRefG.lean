import Derived.Test.YtogdpgfccbohnaaDoorRefT
namespace Go.Proofs.YtogdpgfccbohnaaDoor
open Go.RowKit

theorem div_spec {a b : Int} (hb : 0 < b) : a / b * b ≤ a ∧ a < (a / b + 1) * b := by
  have h1 := Int.mul_ediv_add_emod a b
  have h2 := Int.emod_nonneg a (by omega : b ≠ 0)
  have h3 := Int.emod_lt_of_pos a hb
  rw [Int.mul_comm] at h1
  rw [Int.add_mul]
  omega
theorem le_div {q a b : Int} (hb : 0 < b) (h : q * b ≤ a) : q ≤ a / b := (Int.le_ediv_iff_mul_le hb).2 h
theorem lt_of_mul {a b c : Int} (hc : 0 < c) (h : a * c < b * c) : a < b := Int.lt_of_mul_lt_mul_right h (by omega)
/-- How the guess by the topmost half limbs stands to the quotient. -/
theorem guess_ge {rs ys : List Int} {k : Nat} {r y Q : Int} (hr : AllH rs) (hy : AllH ys) (tr : tlen rs = rs.length) (ty : ys.length = k + 1) (er : valH rs = r) (ey : valH ys = y) (hT : 0 < lm ys k) (hb : r < y * 4294967296) (hQ : Q * y ≤ r) (hQ0 : 0 ≤ Q) :
    Q ≤ (lm rs (k + 1) * 4294967296 + lm rs k) / lm ys k := by
  refine le_div hT ?_
  have hyk : y = vH ys k + lm ys k * pwH k := by rw [← ey]; unfold valH; rw [ty]; rfl
  have hyl : y < pwH (k + 1) := by rw [← ey, ← ty]; exact valH_lt hy
  have hlen : rs.length ≤ k + 2 := by
    rcases Nat.lt_or_ge (k + 2) rs.length with h | h
    · have h1 := valH_ge hr (by omega)
      rw [er] at h1
      have h2 := pwH_mono (a := k + 2) (b := tlen rs - 1) (by omega)
      have h3 : pwH (k + 2) = pwH (k + 1) * 4294967296 := pwH_succ (k + 1)
      omega
    · exact h
  have e1 : r = vH rs k + lm rs k * pwH k + lm rs (k + 1) * pwH (k + 1) := by rw [← er, ← vH_long (n := k + 2) hlen]; rfl
  rw [pwH_succ] at e1
  have h1 := (vH_nn hr k).2
  have h2 := (vH_nn hy k).1
  have hP := pwH_pos k
  have h3 : Q * lm ys k * pwH k ≤ Q * y := by
    rw [hyk, Int.mul_add, Int.mul_assoc]
    have := Int.mul_nonneg hQ0 h2
    omega
  have h4 : Q * lm ys k * pwH k < (lm rs (k + 1) * 4294967296 + lm rs k + 1) * pwH k := by
    have e2 : (lm rs (k + 1) * 4294967296 + lm rs k + 1) * pwH k = lm rs (k + 1) * (pwH k * 4294967296) + lm rs k * pwH k + pwH k := by
      rw [Int.add_mul, Int.add_mul, Int.one_mul, Int.mul_assoc, Int.mul_comm 4294967296]
    omega
  have := lt_of_mul hP h4
  omega

theorem mul_eq_of {r y d Q : Int} (h2 : r < (Q + 1) * y) (hy : 0 < y) (hQ : Q ≤ d) (hc : y * d ≤ r) : Q = d := by
  have := lt_of_mul (a := d) (b := Q + 1) hy (by rw [Int.mul_comm d]; omega)
  omega
theorem mul_gt_of {r y d Q : Int} (h1 : Q * y ≤ r) (hy : 0 < y) (hc : r < y * d) : Q + 1 ≤ d := by
  have := lt_of_mul (a := Q) (b := d) hy (by rw [Int.mul_comm d]; omega)
  omega
theorem atI (a : Option Addr) (n cap : Nat) (hs : List Int) (i : Nat) (z : Int) (w : World) (hz : z = (i : Int)) (hn : n = hs.length) (hm : n ≤ 1099511627776) (hr : Reads w a hs) :
    Calls Tryd.prog 48 #[.slice a n cap, .int .i64 z] w fun e w' => e = .returned (.int .u64 (lm hs i)) ∧ w = w' := by
  subst hz; exact at_any a n cap hs i w hn hm hr

set_option maxRecDepth 100000 in
set_option maxHeartbeats 400000 in
theorem rguessV {a b : Option Addr} {na nb ca cb : Nat} {r y : Int} {S R : Nat} (w : World) (ha : HNum w a na ca r S) (hb : HNum w b nb cb y R) (hS : S ≤ 100000000) (hR : R ≤ 100000000) (hy0 : 0 < y) (hry : r < y * 4294967296) :
    Calls Tryd.prog 55 #[.slice a na ca, .slice b nb cb] w fun e w' => ∃ d : Int, e = .returned (.int .u64 d) ∧ 0 ≤ d ∧ d < 4294967296 ∧ d * y ≤ r ∧ r < (d + 1) * y ∧ Below w.heap.size w w' := by
  have HA : Hid (HNum w a na ca r S) := ha
  have HBN : Hid (HNum w b nb cb y R) := hb
  obtain ⟨rs, a1, a2, hra, hr, a5, a6, a7⟩ := ha
  obtain ⟨ys, b1, b2, hrb, hy, b5, b6, b7⟩ := hb
  have hpos : 0 < nb := by
    rcases Nat.eq_zero_or_pos nb with h | h
    · have : ys = [] := List.eq_nil_of_length_eq_zero (by omega)
      subst this; simp [valH, vH] at b5; omega
    · exact h
  obtain ⟨k, hk⟩ : ∃ k, nb = k + 1 := ⟨nb - 1, by omega⟩
  subst hk
  have hT : 0 < lm ys k := by
    have h0 := (hy.at k).1
    rcases Int.lt_or_eq_of_le h0 with h | h
    · exact h
    · exfalso
      unfold tlen at b7
      rw [← b1] at b7
      unfold tl at b7
      rw [if_pos h.symm] at b7
      have := tl_le ys k
      omega
  have hr0 : 0 ≤ r := by rw [← a5]; exact valH_nn hr
  obtain ⟨Q, hQ⟩ : ∃ Q, Q = r / y := ⟨_, rfl⟩
  have hQs := div_spec (a := r) hy0
  rw [← hQ] at hQs
  have hQ0 : 0 ≤ Q := by rw [hQ]; exact Int.ediv_nonneg hr0 (by omega)
  have hQH : Q < 4294967296 := lt_of_mul hy0 (by rw [Int.mul_comm 4294967296]; omega)
  have HG := guess_ge hr hy a7 b1.symm a5 b5 hT hry hQs.1 hQ0
  obtain ⟨t0, t1⟩ := hy.at k
  obtain ⟨h0, h1⟩ := hr.at (k + 1)
  obtain ⟨l0, l1⟩ := hr.at k
  obtain ⟨by1, o1, rfl, hc1⟩ := hrb.at (by omega)
  have hcy := hc1 k (by omega)
  have st1 := fun (z : Int) (hz : z = ((k + 1 : Nat) : Int)) => atI a na ca rs (k + 1) z w hz a1 (by omega) hra
  have st2 := fun (z : Int) (hz : z = (k : Int)) => atI a na ca rs k z w hz a1 (by omega) hra
  have HQ1 : Hid (Q * y ≤ r) := hQs.1
  have HQ2 : Hid (r < (Q + 1) * y) := hQs.2
  have hkb : k ≤ 100000000 := by omega
  clear a1 a2 a5 a6 a7 b1 b2 b5 b6 b7 hr hy hra hrb hc1 hQs hQ
  generalize lm rs (k + 1) = hi at *
  generalize lm rs k = lo at *
  generalize lm ys k = T at *
  have hTz : (T == 0) = false := by simp; omega
  obtain ⟨D, hD⟩ : ∃ D, D = (hi * 4294967296 + lo) / T := ⟨_, rfl⟩
  have hDs := Int.ediv_nonneg (a := hi * 4294967296 + lo) (b := T) (by omega) (by omega)
  have hDl := Int.ediv_le_self (b := T) (show (0 : Int) ≤ hi * 4294967296 + lo by omega)
  rw [← hD] at HG hDs hDl
  have HD : Hid (D = (hi * 4294967296 + lo) / T) := hD
  clear hD
  have T1 : IntKind.u64.wrap ((hi * 4294967296 + lo).tdiv T) = D := by rw [Int.tdiv_eq_ediv_of_nonneg (by omega), ← HD.out, IntKind.wrap_u64]; omega
  go_enter Tryd.func55, Tryd.ntmps55
  go_wp2_with fail
  refine (st1 _ (by omega)).mono ?_
  rintro e w1 ⟨rfl, rfl⟩
  go_wp2_with fail
  refine (st2 _ (by omega)).mono ?_
  rintro e w1 ⟨rfl, rfl⟩
  clear st1 st2
  clear hry
  by_cases hD4 : 4294967296 ≤ D
  · skip
    go_wp2
    go_loopw [8] (fun s wr => ∃ d : Int, s = .int .u64 d ∧ Q ≤ d ∧ d < 4294967296 ∧ Below w.heap.size w wr) (fun s _ => (intOf s).toNat)
    case atStart => exact ⟨4294967295, rfl, by omega, by omega, Below.refl _ _⟩
    case round =>
      obtain ⟨d, rfl, hd0, hd1, hbel⟩ := hrel
      have HAr := HA.out.below hbel
      have HBr := HBN.out.below hbel
      clear hcy
      go_wp2_with fail
      refine (rtimesV _ HBr (by omega) hd1 hR).mono ?_
      rintro e w1 ⟨c2, n2, cc2, rfl, H2, hb2⟩
      replace HAr := HAr.below hb2
      have hbel2 := bel_tr hbel hb2
      clear HBr hbel hb2
      go_wp2_with fail
      refine (rcmpV _ H2 HAr (by omega) (by omega)).mono ?_
      rintro e w2 ⟨c, rfl, hc, hb3⟩
      have hbel3 := bel_tr hbel2 hb3
      clear H2 HAr hbel2 hb3
      rcases hc with ⟨rfl, hc⟩ | ⟨rfl, hc⟩ | ⟨rfl, hc⟩
      · have HE := mul_eq_of HQ2.out (by omega : 0 < y) hd0 (by omega)
        have HQ3 := HQ1.out
        have HQ4 := HQ2.out
        clear hc
        subst HE
        go_wp2
        go_ret
        exact ⟨Q, rfl, by omega, hd1, HQ3, HQ4, hbel3⟩
      · have HE := mul_eq_of HQ2.out (by omega : 0 < y) hd0 (by omega)
        have HQ3 := HQ1.out
        have HQ4 := HQ2.out
        clear hc
        subst HE
        go_wp2
        go_ret
        exact ⟨Q, rfl, by omega, hd1, HQ3, HQ4, hbel3⟩
      · have HE := mul_gt_of HQ1.out (by omega : 0 < y) hc
        clear hc
        go_wp2
        go_roundw
        case rel => exact ⟨d - 1, by go_num, by omega, by omega, hbel3⟩
        case measure => simp [intOf]; omega
  · skip
    go_wp2
    go_loopw [8] (fun s wr => ∃ d : Int, s = .int .u64 d ∧ Q ≤ d ∧ d < 4294967296 ∧ Below w.heap.size w wr) (fun s _ => (intOf s).toNat)
    case atStart => exact ⟨D, rfl, by omega, by omega, Below.refl _ _⟩
    case round =>
      obtain ⟨d, rfl, hd0, hd1, hbel⟩ := hrel
      have HAr := HA.out.below hbel
      have HBr := HBN.out.below hbel
      clear hcy
      go_wp2_with fail
      refine (rtimesV _ HBr (by omega) hd1 hR).mono ?_
      rintro e w1 ⟨c2, n2, cc2, rfl, H2, hb2⟩
      replace HAr := HAr.below hb2
      have hbel2 := bel_tr hbel hb2
      clear HBr hbel hb2
      go_wp2_with fail
      refine (rcmpV _ H2 HAr (by omega) (by omega)).mono ?_
      rintro e w2 ⟨c, rfl, hc, hb3⟩
      have hbel3 := bel_tr hbel2 hb3
      clear H2 HAr hbel2 hb3
      rcases hc with ⟨rfl, hc⟩ | ⟨rfl, hc⟩ | ⟨rfl, hc⟩
      · have HE := mul_eq_of HQ2.out (by omega : 0 < y) hd0 (by omega)
        have HQ3 := HQ1.out
        have HQ4 := HQ2.out
        clear hc
        subst HE
        go_wp2
        go_ret
        exact ⟨Q, rfl, by omega, hd1, HQ3, HQ4, hbel3⟩
      · have HE := mul_eq_of HQ2.out (by omega : 0 < y) hd0 (by omega)
        have HQ3 := HQ1.out
        have HQ4 := HQ2.out
        clear hc
        subst HE
        go_wp2
        go_ret
        exact ⟨Q, rfl, by omega, hd1, HQ3, HQ4, hbel3⟩
      · have HE := mul_gt_of HQ1.out (by omega : 0 < y) hc
        clear hc
        go_wp2
        go_roundw
        case rel => exact ⟨d - 1, by go_num, by omega, by omega, hbel3⟩
        case measure => simp [intOf]; omega
end Go.Proofs.YtogdpgfccbohnaaDoor

import Derived.Test.YtbkkepbmaadomaaGreatDoorNrNAll
import Derived.Test.YtbkkepbmaadomaaGreatDoorNrGAll
namespace Go.Proofs.YtbkkepbmaadomaaGreatDoor
open Go.RowKit

theorem Ps.eqB {x y : Int} {t i : Nat} (h : Ps x y t) (e : 2 * i = t) : bnd i * y = 2 * (x * E4) := by
  subst e
  obtain ⟨_, ⟨_, h⟩ | ⟨h, _⟩⟩ := h
  · rwa [Nat.mul_div_cancel_left _ (by decide)] at h
  · omega
theorem Ps.ltB {x y : Int} {t i : Nat} (h : Ps x y t) (hy : 0 < y) (e : 2 * i < t) : bnd i * y < 2 * (x * E4) := by
  obtain ⟨_, ⟨h0, h⟩ | ⟨h0, h, _⟩⟩ := h
  · have := Int.mul_lt_mul_of_pos_right (bnd_lt (show i < t / 2 by omega)) hy; omega
  · have := Int.mul_le_mul_of_nonneg_right (bnd_le (show i ≤ t / 2 by omega)) (Int.le_of_lt hy); omega
theorem Ps.gtB {x y : Int} {t i : Nat} (h : Ps x y t) (hy : 0 < y) (hi : i < 18437736874454810624) (e : t < 2 * i) : 2 * (x * E4) < bnd i * y := by
  obtain ⟨_, ⟨h0, h⟩ | ⟨h0, _, h⟩⟩ := h
  · have := Int.mul_lt_mul_of_pos_right (bnd_lt (show t / 2 < i by omega)) hy; omega
  · have := Int.mul_le_mul_of_nonneg_right (bnd_le (show t / 2 + 1 ≤ i by omega)) (Int.le_of_lt hy); omega
/-- How the boundary i stands to what is at t. -/
def cB (i t : Nat) : Int := if 2 * i = t then 0 else if 2 * i < t then -1 else 1
/-- .. by a comparison of multiples. -/
theorem cB_of {x y A B d c : Int} {i t : Nat} (h : Ps x y t) (hy : 0 < y) (hi : i < 18437736874454810624) (hd : 0 < d) (hA : A * d = bnd i * y) (hB : B * d = 2 * (x * E4)) (hc : (c = 0 ∧ A = B) ∨ (c = -1 ∧ A < B) ∨ (c = 1 ∧ B < A)) : c = cB i t := by
  unfold cB
  by_cases e1 : 2 * i = t
  · rw [if_pos e1]
    have := h.eqB e1
    rw [← hA, ← hB] at this
    have := Int.eq_of_mul_eq_mul_right (by omega) this
    omega
  · rw [if_neg e1]
    by_cases e2 : 2 * i < t
    · rw [if_pos e2]
      have := h.ltB hy e2
      rw [← hA, ← hB] at this
      have := Int.lt_of_mul_lt_mul_right this (Int.le_of_lt hd)
      omega
    · rw [if_neg e2]
      have := h.gtB hy hi (by omega)
      rw [← hA, ← hB] at this
      have := Int.lt_of_mul_lt_mul_right this (Int.le_of_lt hd)
      omega
/-- The parts of a rank: m and s with the boundaries 2 k and 2 k + 1. -/
theorem rk (k : Nat) : ∃ m s : Nat, k = s * 4503599627370496 + m ∧ (s = 0 ∧ m < 9007199254740992 ∨ 4503599627370496 ≤ m ∧ m < 9007199254740992) ∧ bnd (2 * k) = 2 * (m : Int) * 2 ^ s ∧ bnd (2 * k + 1) = (2 * (m : Int) + 1) * 2 ^ s := by
  obtain ⟨m, s, e, h⟩ := NB_at (B := 4503599627370496) (by decide) k
  refine ⟨m, s, e, by omega, ?_, ?_⟩
  · have := (NB_of (B := 9007199254740992) (m := 2 * m) (s := s) (by omega)).2
    unfold bnd
    rw [show 2 * k = s * 9007199254740992 + 2 * m by omega, this, Int.natCast_mul, Int.natCast_pow]
    rfl
  · have := (NB_of (B := 9007199254740992) (m := 2 * m + 1) (s := s) (by omega)).2
    unfold bnd
    rw [show 2 * k + 1 = s * 9007199254740992 + (2 * m + 1) by omega, this, Int.natCast_mul, Int.natCast_pow]
    rfl
theorem mul_pw {m y : Int} {S : Nat} (h0 : 0 ≤ m) (h1 : m < 18446744073709551616) (hy : y < pw S) : m * y < pw (S + 1) := by
  have : pw (S + 1) = 18446744073709551616 * pw S := by rw [pwN, pwN, show 64 * (S + 1) = 64 + 64 * S by omega, Nat.pow_add, Int.natCast_mul]; rfl
  have h2 := pw_pos S
  have h3 := Int.mul_le_mul_of_nonneg_left (Int.le_of_lt hy) h0
  have h4 := Int.mul_lt_mul_of_pos_right h1 h2
  omega
/-- ref4.parts of a rank. -/
theorem partsQ {k m s : Nat} (w : World) (hk : k < 9218868437227405312) (e : k = s * 4503599627370496 + m) (h : s = 0 ∧ m < 9007199254740992 ∨ 4503599627370496 ≤ m ∧ m < 9007199254740992) : Calls Tryz.prog 48 #[.int .u64 (k : Int)] w fun e w' => e = .returned (.tuple #[.int .u64 (m : Int), .int .i64 ((s : Int) - 1074)]) ∧ w' = w := by
  by_cases h1 : k < 4503599627370496
  · have e1 : s = 0 := by omega
    have e2 : m = k := by omega
    rw [e1, e2]
    exact partsD0 k w h1
  · exact partsD1 k w (by omega) (by omega) (by omega) (by omega)
theorem num_1 (w : World) {z : Int} (h0 : 0 ≤ z) (h1 : z < 18446744073709551616) : Num (w.alloc (.cells #[.int .u64 z] 22)) (some ⟨w.heap.size, 0, none⟩) 1 1 z 1 := (reads_one (w := w) (z := z)).2 ⟨h0, h1⟩
set_option maxRecDepth 100000 in
set_option maxHeartbeats 1000000 in
/-- ref4.against -/
theorem againstQ {a b : Option Addr} {na nb ca cb : Nat} {x y : Int} {S : Nat} (k t : Nat) (w : World) (hk : k < 9218868437227405312) (ha : Num w a na ca x S) (hb : Num w b nb cb y S) (hS : S ≤ 6000000) (hS1 : 1 ≤ S) (hy : 0 < y) (hP : Ps x y t) :
    Calls Tryz.prog 60 #[.int .u64 (k : Int), .slice a na ca, .slice b nb cb] w fun e w' => e = .returned (.int .i64 (cB (2 * k) t)) ∧ Below w.heap.size w w' := by
  obtain ⟨m, s, ek, hms, eB0, -⟩ := rk k
  have hs : s ≤ 2046 := by omega
  have hm0 : m < 9007199254740992 := by omega
  have EB : Hid (bnd (2 * k) = 2 * (m : Int) * 2 ^ s) := eB0
  have HPQ := fun u => partsQ (m := m) (s := s) u hk ek hms
  obtain ⟨C, hC⟩ : ∃ C, cB (2 * k) t = C := ⟨_, rfl⟩
  have HC : Hid (cB (2 * k) t = C) := hC
  rw [hC]
  clear eB0 ek hms hC
  go_enter Tryz.func60, Tryz.ntmps60
  go_wp2_with fail
  refine (HPQ _).mono ?_
  rintro e w1 ⟨rfl, e1⟩
  subst e1
  clear HPQ
  go_wp2_with fail
  have n1 := num_1 w1 (z := (m : Int)) (by omega) (by omega)
  have hb0 := bel_d0 w1 (.cells #[.int .u64 (m : Int)] 22)
  replace ha := ha.below hb0
  replace hb := hb.below hb0
  generalize w1.alloc (.cells #[.int .u64 (m : Int)] 22) = W0 at *
  refine (rmulV _ (n1.upto hS1) hb (by omega)).mono ?_
  rintro e w2 ⟨c2, n2, k2, rfl, G2, hx⟩
  replace G2 := G2.shrink (mul_pw (by omega) (by omega) hb.below_pw)
  replace ha := ha.below hx
  replace hb0 := bel_tr hb0 hx
  clear hx n1 hb
  by_cases h : 1074 ≤ s
  · have h1 : 0 ≤ (s : Int) - 1074 := by omega
    obtain ⟨n, hn⟩ : ∃ n, s - 1074 = n := ⟨_, rfl⟩
    have HN : Hid (s - 1074 = n) := hn
    have hn2 : n ≤ 65536 := by omega
    have h2 : (s : Int) - 1074 = (n : Int) := by omega
    rw [h2] at h1 ⊢
    clear hn h2
    go_wp2_with fail
    refine (rshlG n _ G2.num (by omega) hn2).mono ?_
    rintro e w3 ⟨c3, n3, k3, rfl, G3, hx⟩
    replace ha := ha.below hx
    replace hb0 := bel_tr hb0 hx
    clear hx G2
    go_wp2_with fail
    refine (refcmpV _ G3.num ha (by omega) (by omega)).mono ?_
    rintro e w4 ⟨c, rfl, hc, hx⟩
    replace hb0 := bel_tr hb0 hx
    clear hx G3 ha
    obtain rfl : c = C := by
      rw [← HC.out]
      refine cB_of hP hy (by omega) (d := 2 * E4) (by have := E4_pos; omega) ?_ (by rw [← Int.mul_assoc, Int.mul_comm x 2, Int.mul_assoc]) hc
      rw [EB.out, ← HN.out, show (2 : Int) ^ s = 2 ^ (s - 1074) * E4 by unfold E4; rw [← Int.pow_add, Nat.sub_add_cancel h]]
      generalize (2 : Int) ^ (s - 1074) = g
      generalize E4 = E
      ac_rfl
    clear HC hP
    go_wp2
    go_ret
    exact ⟨rfl, hb0⟩
  · have h1 : ¬ 0 ≤ (s : Int) - 1074 := by omega
    obtain ⟨n, hn⟩ : ∃ n, 1074 - s = n := ⟨_, rfl⟩
    have HN : Hid (1074 - s = n) := hn
    have hn2 : n ≤ 65536 := by omega
    have w3 : IntKind.i64.wrap (-((s : Int) - 1074)) = (n : Int) := by rw [IntKind.wrap_i64]; omega
    clear hn
    go_wp2_with fail
    refine (rshlG n _ ha (by omega) hn2).mono ?_
    rintro e w3 ⟨c3, n3, k3, rfl, G3, hx⟩
    replace G2 := G2.below hx
    replace hb0 := bel_tr hb0 hx
    clear hx ha
    go_wp2_with fail
    refine (refcmpV _ G2.num G3.num (by omega) (by omega)).mono ?_
    rintro e w4 ⟨c, rfl, hc, hx⟩
    replace hb0 := bel_tr hb0 hx
    clear hx G3 G2
    obtain rfl : c = C := by
      rw [← HC.out]
      refine cB_of hP hy (by omega) (d := 2 * 2 ^ s) (by have : (0 : Int) < 2 ^ s := Int.pow_pos (by decide); omega) ?_ ?_ hc
      · rw [EB.out]
        generalize (2 : Int) ^ s = g
        ac_rfl
      · rw [← HN.out, ← sc_up (x := x) (show s ≤ 1074 by omega)]
        generalize (2 : Int) ^ s = g
        generalize (2 : Int) ^ (1074 - s) = g'
        ac_rfl
    clear HC hP
    go_wp2
    go_ret
    exact ⟨rfl, hb0⟩
set_option maxRecDepth 100000 in
set_option maxHeartbeats 1000000 in
/-- ref4.below: by halving -/
theorem belowD {a b : Option Addr} {na nb ca cb : Nat} {x y : Int} {S : Nat} (t : Nat) (w : World) (ha : Num w a na ca x S) (hb : Num w b nb cb y S) (hS : S ≤ 6000000) (hS1 : 1 ≤ S) (hy : 0 < y) (hP : Ps x y t) :
    Calls Tryz.prog 59 #[.slice a na ca, .slice b nb cb] w fun e w' => e = .returned (.int .u64 ((t / 4 : Nat) : Int)) ∧ Below w.heap.size w w' := by
  have ht := hP.1
  obtain ⟨T, hT⟩ : ∃ T : Int, ((t / 4 : Nat) : Int) = T := ⟨_, rfl⟩
  have HT : Hid (((t / 4 : Nat) : Int) = T) := hT
  rw [hT]
  clear hT
  go_enter Tryz.func59, Tryz.ntmps59
  go_wp2
  go_loopw [5, 6] (fun u v wr => ∃ l h : Nat, u = .int .u64 (l : Int) ∧ v = .int .u64 (h : Int) ∧ 4 * l ≤ t ∧ t < 4 * h ∧ h ≤ 9218868437227405312 ∧ Below w.heap.size w wr) (fun u v _ => (intOf v - intOf u).toNat)
  case atStart => exact ⟨0, 9218868437227405312, rfl, rfl, by omega, by omega, by omega, Below.refl _ _⟩
  case round =>
    obtain ⟨l, h, rfl, rfl, h1, h2, h3, hbw⟩ := hrel
    have w1 : IntKind.u64.wrap ((h : Int) - (l : Int)) = (h : Int) - (l : Int) := by rw [IntKind.wrap_u64]; omega
    by_cases hc : (1 : Int) < (h : Int) - (l : Int)
    · have w2 : IntKind.u64.wrap ((l : Int) + ((h : Int) - (l : Int)) / 2) = ((l + (h - l) / 2 : Nat) : Int) := by rw [IntKind.wrap_u64]; omega
      have w3 : IntKind.u64.wrap (((h : Int) - (l : Int)) / 2) = ((h : Int) - (l : Int)) / 2 := by rw [IntKind.wrap_u64]; omega
      have hm1 : l < l + (h - l) / 2 := by omega
      have hm2 : l + (h - l) / 2 < h := by omega
      have ha' := ha.below hbw
      have hb' := hb.below hbw
      generalize l + (h - l) / 2 = mid at *
      clear ha hb
      go_wp2_with fail
      refine (againstQ mid t _ (by omega) ha' hb' hS hS1 hy hP).mono ?_
      rintro e v1 ⟨rfl, hx⟩
      replace hbw := bel_tr hbw hx
      clear hx ha' hb' w2 w3 w1
      by_cases hq : t < 4 * mid
      · have hcc : 0 < cB (2 * mid) t := by unfold cB; rw [if_neg (by omega), if_neg (by omega)]; decide
        generalize cB (2 * mid) t = cc at *
        go_wp2
        go_roundw
        case rel => exact ⟨l, mid, rfl, rfl, h1, hq, by omega, hbw⟩
        case measure => simp [intOf]; omega
      · have hcc : ¬ 0 < cB (2 * mid) t := by
          unfold cB
          split
          · decide
          · split
            · decide
            · omega
        generalize cB (2 * mid) t = cc at *
        go_wp2
        go_roundw
        case rel => exact ⟨mid, h, rfl, rfl, by omega, h2, h3, hbw⟩
        case measure => simp [intOf]; omega
    · obtain rfl : T = (l : Int) := by rw [← HT.out]; omega
      go_wp2
      go_ret
      exact ⟨rfl, hbw⟩
end Go.Proofs.YtbkkepbmaadomaaGreatDoor

namespace Go.Proofs.YtbkkepbmaadomaaGreatDoor
open Go.RowKit

theorem signedF {g : Bool} {k4 : Int} {F : Int} (w : World) (h0 : 0 ≤ k4) (h1 : k4 ≤ 9218868437227405312) (hF : ((fb (ws g k4) : Nat) : Int) = F) : Calls Tryz.prog 61 #[.bool g, .int .u64 k4] w fun r w' => r = .returned (.int .u64 F) ∧ w' = w := by
  subst hF
  obtain ⟨k, rfl⟩ := Int.eq_ofNat_of_zero_le h0
  cases g
  · have e : ((fb (ws false (k : Int)) : Nat) : Int) = (k : Int) := by
      rw [show ws false (k : Int) = (k : Int) from rfl]; unfold fb; rw [if_neg (by omega)]; omega
    rw [e]
    clear e h0 h1
    go_enter Tryz.func61, Tryz.ntmps61
    go_wp2
    go_ret
    exact ⟨rfl, rfl⟩
  · have := signedDz (z := (k : Int)) k w rfl (by omega)
    rw [show ((if k = 0 then 0 else k + 9223372036854775808 : Nat) : Int) = ((fb (ws true (k : Int)) : Nat) : Int) by
      rw [show ws true (k : Int) = -(k : Int) from rfl]; unfold fb
      by_cases h : k = 0
      · subst h; rfl
      · rw [if_neg h, if_pos (by omega)]; omega] at this
    exact this
theorem sideD {g : Bool} {c D : Int} (w : World) (hc : c = 1 ∨ c = -1) (hD : ws g c = D) : Calls Tryz.prog 62 #[.bool g, .int .i64 c] w fun r w' => r = .returned (.int .i64 D) ∧ w' = w := by
  subst hD
  rcases hc with rfl | rfl <;> cases g
  all_goals
    go_enter Tryz.func62, Tryz.ntmps62
    go_wp2
    go_ret
    exact ⟨rfl, rfl⟩
/-- What terms tells. -/
def Tm (w : World) (z : Int) (f : Bool) (a : Option Addr) (na ca : Nat) (b : Option Addr) (nb cb : Nat) (x y : Int) (S : Nat) : Prop := Num w a na ca x S ∧ Num w b nb cb y S ∧ 0 < y ∧ Ps x y z.natAbs ∧ f = decide (z < 0)
theorem Tm.below {w w' : World} {z : Int} {f : Bool} {a : Option Addr} {na ca : Nat} {b : Option Addr} {nb cb : Nat} {x y : Int} {S : Nat} (h : Tm w z f a na ca b nb cb x y S) (hb : Below w.heap.size w w') : Tm w' z f a na ca b nb cb x y S := ⟨h.1.below hb, h.2.1.below hb, h.2.2⟩
theorem ps_zero {y : Int} : Ps 0 y 0 := ⟨by omega, .inl ⟨rfl, by rw [show 0 / 2 = 0 from rfl, bnd_zero, Int.zero_mul, Int.zero_mul]; rfl⟩⟩
theorem Got.zero {w : World} {B : Nat} {a : Option Addr} {n c : Nat} {S : Nat} {x : Int} (h : Got w B (.slice a n c) x S) (hx : 0 ≤ x) : (n = 0 ↔ x = 0) := by
  obtain ⟨k, rfl⟩ := Int.eq_ofNat_of_zero_le hx
  have := h.len.2.1
  omega
theorem ws_pp {p : Bool} {x y : Int} (hx : 0 < x) (hy : 0 < y) : ∃ g : Int, 0 < g ∧ x = ((Rat.divInt (ws p x) y).num.natAbs : Int) * g ∧ y = ((Rat.divInt (ws p x) y).den : Int) * g ∧ (p = decide ((Rat.divInt (ws p x) y).num < 0)) ∧ (Rat.divInt (ws p x) y).num ≠ 0 := by
  have e1 := low_num p false (Int.le_of_lt hx) hy
  have e2 := low_den p false (Int.le_of_lt hx) hy
  have e3 : ws false y = y := rfl
  rw [e3] at e1 e2
  have g0 : 0 < Nat.gcd x.toNat y.toNat := Nat.gcd_pos_of_pos_right _ (by omega)
  have d1 : ((Nat.gcd x.toNat y.toNat : Nat) : Int) ∣ x := by have := Int.ofNat_dvd.2 (Nat.gcd_dvd_left x.toNat y.toNat); rwa [Int.toNat_of_nonneg (Int.le_of_lt hx)] at this
  have d2 : ((Nat.gcd x.toNat y.toNat : Nat) : Int) ∣ y := by have := Int.ofNat_dvd.2 (Nat.gcd_dvd_right x.toNat y.toNat); rwa [Int.toNat_of_nonneg (Int.le_of_lt hy)] at this
  generalize Nat.gcd x.toNat y.toNat = g at *
  have h1 : 0 < x / (g : Int) := Int.ediv_pos_of_pos_of_dvd hx (by omega) d1
  refine ⟨g, by omega, ?_, ?_, ?_, ?_⟩
  · have h2 : (((Rat.divInt (ws p x) y).num.natAbs : Nat) : Int) = x / (g : Int) := by
      rw [e1]; unfold ws; split <;> omega
    rw [h2, Int.ediv_mul_cancel d1]
  · rw [e2, Int.ediv_mul_cancel d2]
  · rw [e1]; cases p
    · exact (decide_eq_false (by unfold ws; simp; omega)).symm
    · exact (decide_eq_true (by unfold ws; simp; omega)).symm
  · rw [e1]; unfold ws; split <;> omega
theorem tm_of {p : Bool} {x y : Int} {r : Rat} {z : Int} (hP : Pz r z) (hd : Rat.divInt (ws p x) y = r) (hx : 0 < x) (hy : 0 < y) : Ps x y z.natAbs ∧ p = decide (z < 0) := by
  obtain ⟨g, hg, ex, ey, ep, e0⟩ := ws_pp (p := p) hx hy
  rw [hd] at ex ey ep e0
  refine ⟨by rw [ex, ey]; exact (Ps.scale hg).2 (hP.ps e0), ?_⟩
  rw [ep]
  rcases hP with ⟨h1, _⟩ | ⟨h1, h2, _⟩ | ⟨h1, h2, _⟩
  · exact absurd h1 e0
  · rw [decide_eq_false (by omega), decide_eq_false (by omega)]
  · rw [decide_eq_true h1, decide_eq_true h2]
theorem tm_zero {p : Bool} {x y : Int} {r : Rat} {z : Int} (hP : Pz r z) (hd : Rat.divInt (ws p x) y = r) (h : x = 0 ∨ y = 0) : z = 0 := by
  have h0 : r.num = 0 := by
    rw [← hd]
    rcases h with rfl | rfl
    · rw [ws_zero, Rat.zero_divInt]; rfl
    · rw [Rat.divInt_zero]; rfl
  rcases hP with ⟨_, h2⟩ | ⟨h1, _⟩ | ⟨h1, _⟩ <;> omega
set_option maxRecDepth 100000 in
set_option maxHeartbeats 1000000 in
/-- ref4.terms -/
theorem termsD {p : Bool} {a b : Option Addr} {na nb ca cb : Nat} {r : Rat} {S : Nat} (z : Int) (w : World) (hr : TR w p a na ca b nb cb r S) (hS : S ≤ 6000000) (hS1 : 1 ≤ S) (hP : Pz r z) :
    Calls Tryz.prog 58 #[.agg #[.bool p, .slice a na ca, .slice b nb cb]] w fun e w' => ∃ f c n k c' n' k' x y, e = .returned (.tuple #[.bool f, .slice c n k, .slice c' n' k']) ∧ Tm w' z f c n k c' n' k' x y S ∧ Below w.heap.size w w' := by
  obtain ⟨x0, y, ⟨x, hx, hxs⟩, hy, hd⟩ := hr
  subst hxs
  have HD : Hid (Rat.divInt (ws p x) y = r) := hd
  have hx0 := hx.nn
  have hy0 := hy.nn
  clear hd
  have P0 := var3_new w (.bool p) (.slice a na ca) (.slice b nb cb) 35
  have hb0 := bel_d0 w (.cells #[.bool p, .slice a na ca, .slice b nb cb] 35)
  replace hx := hx.below hb0
  replace hy := hy.below hb0
  obtain ⟨c0, c1, c2, c3, c4, c5⟩ := id P0
  go_enter Tryz.func58, Tryz.ntmps58
  go_wp2_with fail
  generalize w.alloc (.cells #[.bool p, .slice a na ca, .slice b nb cb] 35) = W0 at *
  refine (rnormR _ hx (by omega)).mono ?_
  rintro e w1 ⟨a1, n1, m1, rfl, G1, hb⟩
  replace hy := hy.below hb
  replace P0 := P0.below hb
  replace hb0 := bel_tr hb0 hb
  clear hb c0 c1 c2 c3 c4 c5 hx
  obtain ⟨c0, c1, c2, c3, c4, c5⟩ := id P0
  go_wp2_with fail
  refine (rnormR _ hy (by omega)).mono ?_
  rintro e w2 ⟨a2, n2, m2, rfl, G2, hb⟩
  replace G1 := G1.below hb
  replace P0 := P0.below hb
  replace hb0 := bel_tr hb0 hb
  clear hb c0 c1 c2 c3 c4 c5 hy
  have z1 := G1.zero hx0
  have z2 := G2.zero hy0
  have N1 := G1.num
  have N2 := G2.num
  obtain ⟨c0, c1, c2, c3, c4, c5⟩ := id P0
  clear G1 G2
  by_cases h1 : n1 = 0
  · have hz := tm_zero hP HD.out (.inl (z1.1 h1))
    subst h1
    clear N1 N2 z1 z2
    go_wp2
    have NN := num_1 w2 (z := 1) (by decide) (by decide)
    have hb := bel_d0 w2 (.cells #[.int .u64 1] 22)
    refine bodyPost_ret (v := .tuple #[.bool false, .slice none 0 0, .slice (some ⟨w2.heap.size, 0, none⟩) 1 1]) (by simp [results, Tryz.results58, go_sem]) rfl ⟨_, _, _, _, _, _, _, 0, 1, rfl, ⟨((Got.nil _ 0).num).upto (by omega), NN.upto hS1, by decide, by rw [hz]; exact ps_zero, by rw [hz]; rfl⟩, bel_tr hb0 hb⟩
  · have h1' : ¬ (n1 : Int) = 0 := by omega
    by_cases h2 : n2 = 0
    · have hz := tm_zero hP HD.out (.inr (z2.1 h2))
      subst h2
      clear N1 N2 z1 z2
      go_wp2
      have NN := num_1 w2 (z := 1) (by decide) (by decide)
      have hb := bel_d0 w2 (.cells #[.int .u64 1] 22)
      refine bodyPost_ret (v := .tuple #[.bool false, .slice none 0 0, .slice (some ⟨w2.heap.size, 0, none⟩) 1 1]) (by simp [results, Tryz.results58, go_sem]) rfl ⟨_, _, _, _, _, _, _, 0, 1, rfl, ⟨((Got.nil _ 0).num).upto (by omega), NN.upto hS1, by decide, by rw [hz]; exact ps_zero, by rw [hz]; rfl⟩, bel_tr hb0 hb⟩
    · have h2' : ¬ (n2 : Int) = 0 := by omega
      have h1'' : (((n1 : Nat) : Int) == 0) = false := beq_false_of_ne h1'
      have h2'' : (((n2 : Nat) : Int) == 0) = false := beq_false_of_ne h2'
      have HT : Hid _ := tm_of hP HD.out (by omega) (by omega)
      have hy1 : 0 < y := by omega
      clear z1 z2 hP HD
      go_wp2
      refine bodyPost_ret (v := .tuple #[.bool p, .slice a1 n1 m1, .slice a2 n2 m2]) (by simp [results, Tryz.results58, go_sem]) rfl ⟨_, _, _, _, _, _, _, x, y, rfl, ⟨N1, N2, hy1, HT.out.1, HT.out.2⟩, hb0⟩
end Go.Proofs.YtbkkepbmaadomaaGreatDoor

namespace Go.Proofs.YtbkkepbmaadomaaGreatDoor
open Go.RowKit

theorem cB_at {L t : Nat} (h : t / 4 = L) : (cB (2 * L) t = 0 ↔ t % 4 = 0) := by
  unfold cB
  by_cases h0 : t % 4 = 0
  · rw [if_pos (by omega)]; simp [h0]
  · rw [if_neg (by omega), if_pos (by omega)]; simp [h0]
/-- The signs and ranks of what is answered. -/
theorem sg_dn {z : Int} {L : Nat} (h : z.natAbs / 4 = L) : (z.natAbs % 4 = 0 → ws (decide (z < 0)) (L : Int) = dnz z ∧ ws (decide (z < 0)) (L : Int) = upz z ∧ ws (decide (z < 0)) (L : Int) = flz z ∧ sdz z = 0) ∧
    (¬ z.natAbs % 4 = 0 → (z < 0 → -((L : Int) + 1) = dnz z ∧ -(L : Int) = upz z) ∧ (¬ z < 0 → (L : Int) = dnz z ∧ (L : Int) + 1 = upz z)) := by
  refine ⟨fun h4 => ?_, fun h4 => ⟨fun hz => ?_, fun hz => ?_⟩⟩
  · have hf : ((nrz z.natAbs : Nat) : Int) = (L : Int) := by unfold nrz; omega
    have hs : sdz z = 0 := by unfold sdz; rw [if_pos (by omega)]
    by_cases hz : z < 0
    · rw [decide_eq_true hz, show ws true (L : Int) = -(L : Int) from rfl]
      refine ⟨by unfold dnz; omega, by unfold upz; omega, ?_, hs⟩
      unfold flz; rw [if_pos hz, show (-z).toNat = z.natAbs by omega, hf]
    · rw [decide_eq_false hz, show ws false (L : Int) = (L : Int) from rfl]
      refine ⟨by unfold dnz; omega, by unfold upz; omega, ?_, hs⟩
      unfold flz; rw [if_neg hz, show z.toNat = z.natAbs by omega, hf]
  · unfold dnz upz; omega
  · unfold dnz upz; omega

end Go.Proofs.YtbkkepbmaadomaaGreatDoor

namespace Go.Proofs.YtbkkepbmaadomaaGreatDoor
open Go.RowKit

/-- What the document's Float asks. -/
def Fl (z : Int) (g : Bool) (L : Nat) (m4 : Int) (n4 D : Int) : Prop := (z.natAbs % 4 = 3 ∨ z.natAbs % 4 = 2 ∧ m4 % 2 = 1 → n4 = (L : Int) + 1 ∧ ws g 1 = D) ∧ (¬ (z.natAbs % 4 = 3 ∨ z.natAbs % 4 = 2 ∧ m4 % 2 = 1) → n4 = (L : Int) ∧ ws g (-1) = D)
theorem fl_of {z : Int} {L : Nat} {m4 : Int} (h : z.natAbs / 4 = L) (h4 : ¬ z.natAbs % 4 = 0) (hm : m4 % 2 = (L : Int) % 2) : ∃ n4, Fl z (decide (z < 0)) L m4 n4 (sdz z) ∧ ws (decide (z < 0)) n4 = flz z ∧ 0 ≤ n4 ∧ n4 ≤ (L : Int) + 1 := by
  refine ⟨((nrz z.natAbs : Nat) : Int), ⟨fun h3 => ?_, fun h3 => ?_⟩, ?_, by omega, by unfold nrz; omega⟩
  · have hn : ((nrz z.natAbs : Nat) : Int) = (L : Int) + 1 := by unfold nrz; omega
    refine ⟨hn, ?_⟩
    unfold sdz; rw [if_neg (by omega)]
    by_cases hz : z < 0
    · have e : flz z = -((L : Int) + 1) := by unfold flz; rw [if_pos hz, show (-z).toNat = z.natAbs by omega, hn]
      rw [decide_eq_true hz, if_neg (by rw [e]; unfold upz; omega)]; rfl
    · have e : flz z = (L : Int) + 1 := by unfold flz; rw [if_neg hz, show z.toNat = z.natAbs by omega, hn]
      rw [decide_eq_false hz, if_pos (by rw [e]; unfold upz; omega)]; rfl
  · have hn : ((nrz z.natAbs : Nat) : Int) = (L : Int) := by unfold nrz; omega
    refine ⟨hn, ?_⟩
    unfold sdz; rw [if_neg (by omega)]
    by_cases hz : z < 0
    · have e : flz z = -(L : Int) := by unfold flz; rw [if_pos hz, show (-z).toNat = z.natAbs by omega, hn]
      rw [decide_eq_true hz, if_pos (by rw [e]; unfold upz; omega)]; rfl
    · have e : flz z = (L : Int) := by unfold flz; rw [if_neg hz, show z.toNat = z.natAbs by omega, hn]
      rw [decide_eq_false hz, if_neg (by rw [e]; unfold upz; omega)]; rfl
  · unfold flz
    by_cases hz : z < 0
    · rw [decide_eq_true hz, if_pos hz, show (-z).toNat = z.natAbs by omega]; rfl
    · rw [decide_eq_false hz, if_neg hz, show z.toNat = z.natAbs by omega]; rfl
theorem cB_mid {L t : Nat} (h : t / 4 = L) (h4 : ¬ t % 4 = 0) : (cB (2 * L + 1) t = 0 ↔ t % 4 = 2) ∧ (cB (2 * L + 1) t < 0 ↔ t % 4 = 3) := by
  unfold cB
  rcases (by omega : t % 4 = 1 ∨ t % 4 = 2 ∨ t % 4 = 3) with e | e | e
  · rw [if_neg (by omega), if_neg (by omega)]; simp [e]
  · rw [if_pos (by omega)]; simp [e]
  · rw [if_neg (by omega), if_pos (by omega)]; simp [e]
theorem flip3 {c A B : Int} (h : (c = 0 ∧ B = A) ∨ (c = -1 ∧ B < A) ∨ (c = 1 ∧ A < B)) : (-c = 0 ∧ A = B) ∨ (-c = -1 ∧ A < B) ∨ (-c = 1 ∧ B < A) := by omega
theorem mid_lt {k : Int} {S : Nat} (h : k < pw S) : k * 2 ^ 1 < pw (S + 1) := by
  have : pw (S + 1) = pw S * 18446744073709551616 := by rw [pwN, pwN, show 64 * (S + 1) = 64 * S + 64 by omega, Nat.pow_add, Int.natCast_mul]; rfl
  have h0 := pw_pos S
  omega

set_option maxRecDepth 100000 in
set_option maxHeartbeats 4000000 in
/-- ref4.Float -/
theorem floatD {F D : Int} {p : Bool} {a b : Option Addr} {na nb ca cb : Nat} {r : Rat} {S : Nat} (z : Int) (w : World) (hr : TR w p a na ca b nb cb r S) (hS : S ≤ 6000000) (hS1 : 1 ≤ S) (hP : Pz r z) (hF : ((fb (flz z) : Nat) : Int) = F) (hD : sdz z = D) :
    Calls Tryz.prog 25 #[.agg #[.bool p, .slice a na ca, .slice b nb cb]] w fun e w' => e = .returned (.tuple #[.int .u64 F, .int .i64 D]) ∧ Below w.heap.size w w' := by
  have HF : Hid (((fb (flz z) : Nat) : Int) = F) := hF
  have HD : Hid (sdz z = D) := hD
  clear hF hD
  have P0 := var3_new w (.bool p) (.slice a na ca) (.slice b nb cb) 35
  have hb0 := bel_d0 w (.cells #[.bool p, .slice a na ca, .slice b nb cb] 35)
  replace hr := hr.below hb0
  obtain ⟨c0, c1, c2, c3, c4, c5⟩ := id P0
  go_enter Tryz.func25, Tryz.ntmps25
  go_wp2_with fail
  generalize w.alloc (.cells #[.bool p, .slice a na ca, .slice b nb cb] 35) = W0 at *
  refine (termsD z _ hr hS hS1 hP).mono ?_
  rintro e w1 ⟨f, a1, n1, m1, a2, n2, m2, x, y, rfl, T, hx⟩
  replace hb0 := bel_tr hb0 hx
  have hB := hP.bnd
  clear hx c0 c1 c2 c3 c4 c5 hr P0 hP
  have hPs := T.2.2.2.1
  have hy := T.2.2.1
  have HFl : Hid (f = decide (z < 0)) := T.2.2.2.2
  obtain ⟨N1, N2, -⟩ := T
  obtain ⟨L, hL⟩ : ∃ L, z.natAbs / 4 = L := ⟨_, rfl⟩
  have HL : Hid (z.natAbs / 4 = L) := hL
  have hLi : L < 9218868437227405312 := by omega
  obtain ⟨C, hC⟩ : ∃ C, cB (2 * L) z.natAbs = C := ⟨_, rfl⟩
  have HC : Hid (cB (2 * L) z.natAbs = C) := hC
  go_wp2_with fail
  refine (belowD z.natAbs _ N1 N2 hS hS1 hy hPs).mono ?_
  rintro e w2 ⟨rfl, hx⟩
  rw [hL]
  replace hb0 := bel_tr hb0 hx
  replace N1 := N1.below hx
  replace N2 := N2.below hx
  clear hx
  have HAG := fun u N1 N2 => againstQ (a := a1) (na := n1) (ca := m1) (b := a2) (nb := n2) (cb := m2) L z.natAbs u hLi N1 N2 hS hS1 hy hPs
  rw [hC] at HAG
  clear hL hC
  go_wp2_with fail
  refine (HAG _ N1 N2).mono ?_
  rintro e w3 ⟨rfl, hx⟩
  replace hb0 := bel_tr hb0 hx
  replace N1 := N1.below hx
  replace N2 := N2.below hx
  clear hx HAG
  have hC0 := cB_at HL.out
  rw [HC.out] at hC0
  clear HC
  by_cases h4 : z.natAbs % 4 = 0
  · obtain rfl : C = 0 := hC0.2 h4
    have HS := sg_dn HL.out
    have HG : Hid (((fb (ws f (L : Int)) : Nat) : Int) = F) := by show _ = _; rw [HFl.out, (HS.1 h4).2.2.1]; exact HF.out
    obtain rfl : D = 0 := HD.out.symm.trans (HS.1 h4).2.2.2
    clear HS hC0 HL HFl HF h4 hB N1 N2 hPs hy HD
    go_wp2_with fail
    refine (signedF _ (by omega) (by omega) HG.out).mono ?_
    rintro e w4 ⟨rfl, rfl⟩
    go_wp2
    go_ret2
    exact ⟨rfl, hb0⟩
  · have hC1 : ¬ C = 0 := fun e => h4 (hC0.1 e)
    obtain ⟨m, s, ek, hms, -, eB0⟩ := rk L
    have hm0 : m < 9007199254740992 := by omega
    have hs : s ≤ 2046 := by omega
    obtain ⟨n4, HFL0, HN0, hn0, hn1⟩ := fl_of (m4 := (m : Int)) HL.out h4 (by omega)
    rw [HD.out, ← HFl.out] at HFL0
    have HFL : Hid _ := HFL0
    have HG : Hid (((fb (ws f n4) : Nat) : Int) = F) := by show _ = _; rw [HFl.out, HN0]; exact HF.out
    have EB : Hid (bnd (2 * L + 1) = (2 * (m : Int) + 1) * 2 ^ s) := eB0
    have HPQ := fun u => partsQ (m := m) (s := s) u hLi ek hms
    obtain ⟨M, hM⟩ : ∃ M, 2 * (m : Int) + 1 = M := ⟨_, rfl⟩
    have HM : Hid (2 * (m : Int) + 1 = M) := hM
    have w1 : IntKind.u64.wrap (2 * (m : Int)) = 2 * (m : Int) := by rw [IntKind.wrap_u64]; omega
    have w2 : IntKind.u64.wrap (2 * (m : Int) + 1) = M := by rw [IntKind.wrap_u64]; omega
    have hMb : 0 ≤ M ∧ M < 18446744073709551616 := by omega
    have HMID := cB_mid HL.out h4
    obtain ⟨K, hK⟩ : ∃ K, cB (2 * L + 1) z.natAbs = K := ⟨_, rfl⟩
    rw [hK] at HMID
    have HK : Hid (cB (2 * L + 1) z.natAbs = K) := hK
    clear eB0 ek hms hM hC0 HL HFl HF hB HFL0 HN0 HD hK
    go_wp2_with fail
    refine (HPQ _).mono ?_
    rintro e w4 ⟨rfl, e4⟩
    subst e4
    clear HPQ
    go_wp2_with fail
    have n1 := num_1 w4 (z := M) hMb.1 hMb.2
    have hx := bel_d0 w4 (.cells #[.int .u64 M] 22)
    replace N1 := N1.below hx
    replace N2 := N2.below hx
    replace hb0 := bel_tr hb0 hx
    clear hx
    generalize w4.alloc (.cells #[.int .u64 M] 22) = W4 at *
    refine (rmulV _ (n1.upto hS1) N2 (by omega)).mono ?_
    rintro e w5 ⟨c5, n5, k5, rfl, G5, hx⟩
    replace G5 := G5.shrink (mul_pw hMb.1 hMb.2 N2.below_pw)
    replace N1 := N1.below hx
    replace hb0 := bel_tr hb0 hx
    clear hx n1 N2
    have hp1 := N1.below_pw
    go_wp2_with fail
    refine (rshlG 1 _ N1 (by omega) (by decide)).mono ?_
    rintro e w6 ⟨c6, n6, k6, rfl, G6, hx⟩
    replace G5 := G5.below hx
    replace hb0 := bel_tr hb0 hx
    replace G6 := G6.shrink (mid_lt hp1)
    clear hx N1 hp1
    have HE : Hid (¬ z.natAbs % 4 = 0) := h4
    clear h4
    by_cases h : 1074 ≤ s
    · have h1 : 0 ≤ (s : Int) - 1074 := by omega
      obtain ⟨n, hn⟩ : ∃ n, s - 1074 = n := ⟨_, rfl⟩
      have HN : Hid (s - 1074 = n) := hn
      have hn2 : n ≤ 65536 := by omega
      have h2 : (s : Int) - 1074 = (n : Int) := by omega
      rw [h2] at h1 ⊢
      clear hn h2
      go_wp2_with fail
      refine (rshlG n _ G5.num (by omega) hn2).mono ?_
      rintro e w7 ⟨c7, n7, k7, rfl, G7, hx⟩
      replace G6 := G6.below hx
      replace hb0 := bel_tr hb0 hx
      clear hx G5
      go_wp2_with fail
      refine (refcmpV _ G6.num G7.num (by omega) (by omega)).mono ?_
      rintro e w8 ⟨c, rfl, hc, hx⟩
      replace hb0 := bel_tr hb0 hx
      clear hx G6 G7
      have HCK : Hid (-c = K) := by
        show _ = _
        rw [← HK.out]
        refine cB_of hPs hy (by omega) (d := E4) E4_pos ?_ ?_ (flip3 hc)
        · rw [EB.out, HM.out, ← HN.out, show (2 : Int) ^ s = 2 ^ (s - 1074) * E4 by unfold E4; rw [← Int.pow_add, Nat.sub_add_cancel h]]
          generalize (2 : Int) ^ (s - 1074) = g
          generalize E4 = E
          ac_rfl
        · rw [Int.pow_one]; generalize E4 = E; ac_rfl
      have H3 : Hid ((0 < c ↔ z.natAbs % 4 = 3) ∧ (c = 0 ↔ z.natAbs % 4 = 2)) := by
        have := HCK.out
        show _ ∧ _
        refine ⟨?_, ?_⟩
        · rw [← HMID.2]; omega
        · rw [← HMID.1]; omega
      clear hc HCK HMID HK EB HN hPs hy
      by_cases h0 : 0 < c
      · obtain ⟨q1, q2⟩ := HFL.out.1 (.inl (H3.out.1.1 h0))
        have w9 : IntKind.u64.wrap ((L : Int) + 1) = n4 := by rw [IntKind.wrap_u64]; omega
        have Q2 : Hid _ := q2
        clear q1 q2 HFL H3
        go_wp2_with fail
        refine (signedF _ hn0 (by omega) HG.out).mono ?_
        rintro e w9 ⟨rfl, rfl⟩
        go_wp2_with fail
        refine (sideD _ (.inl rfl) Q2.out).mono ?_
        rintro e w9 ⟨rfl, rfl⟩
        go_wp2
        go_ret2
        exact ⟨rfl, hb0⟩
      · by_cases h9 : c = 0 ∧ (m : Int) % 2 = 1
        · obtain ⟨q1, q2⟩ := HFL.out.1 (.inr ⟨H3.out.2.1 h9.1, h9.2⟩)
          have w9 : IntKind.u64.wrap ((L : Int) + 1) = n4 := by rw [IntKind.wrap_u64]; omega
          have Q2 : Hid _ := q2
          obtain ⟨rfl, ho⟩ := h9
          clear q1 q2 HFL H3
          go_wp2_with fail
          refine (signedF _ hn0 (by omega) HG.out).mono ?_
          rintro e w9 ⟨rfl, rfl⟩
          go_wp2_with fail
          refine (sideD _ (.inl rfl) Q2.out).mono ?_
          rintro e w9 ⟨rfl, rfl⟩
          go_wp2
          go_ret2
          exact ⟨rfl, hb0⟩
        · obtain ⟨q1, q2⟩ := HFL.out.2 (fun e => by
            rcases e with e | ⟨e, e'⟩
            · exact h0 (H3.out.1.2 e)
            · exact h9 ⟨H3.out.2.2 e, e'⟩)
          subst q1
          have Q2 : Hid _ := q2
          clear q2 HFL H3
          rcases (by omega : ¬ c = 0 ∨ c = 0 ∧ (m : Int) % 2 = 0) with h8 | ⟨h8, ho⟩
          · have h7 : (c == 0) = false := beq_false_of_ne h8
            go_wp2_with fail
            refine (signedF _ hn0 (by omega) HG.out).mono ?_
            rintro e w9 ⟨rfl, rfl⟩
            go_wp2_with fail
            refine (sideD _ (.inr rfl) Q2.out).mono ?_
            rintro e w9 ⟨rfl, rfl⟩
            go_wp2
            go_ret2
            exact ⟨rfl, hb0⟩
          · subst h8
            clear h9 h0
            go_wp2_with fail
            refine (signedF _ hn0 (by omega) HG.out).mono ?_
            rintro e w9 ⟨rfl, rfl⟩
            go_wp2_with fail
            refine (sideD _ (.inr rfl) Q2.out).mono ?_
            rintro e w9 ⟨rfl, rfl⟩
            go_wp2
            go_ret2
            exact ⟨rfl, hb0⟩
    · have h1 : ¬ 0 ≤ (s : Int) - 1074 := by omega
      obtain ⟨n, hn⟩ : ∃ n, 1074 - s = n := ⟨_, rfl⟩
      have HN : Hid (1074 - s = n) := hn
      have hn2 : n ≤ 65536 := by omega
      have w3 : IntKind.i64.wrap (-((s : Int) - 1074)) = (n : Int) := by rw [IntKind.wrap_i64]; omega
      clear hn
      go_wp2_with fail
      refine (rshlG n _ G6.num (by omega) hn2).mono ?_
      rintro e w7 ⟨c7, n7, k7, rfl, G7, hx⟩
      replace G5 := G5.below hx
      replace hb0 := bel_tr hb0 hx
      clear hx G6
      go_wp2_with fail
      refine (refcmpV _ G7.num G5.num (by omega) (by omega)).mono ?_
      rintro e w8 ⟨c, rfl, hc, hx⟩
      replace hb0 := bel_tr hb0 hx
      clear hx G5 G7
      have HCK : Hid (-c = K) := by
        show _ = _
        rw [← HK.out]
        refine cB_of hPs hy (by omega) (d := 2 ^ s) (Int.pow_pos (by decide)) ?_ ?_ (flip3 hc)
        · rw [EB.out, HM.out]
          generalize (2 : Int) ^ s = g
          ac_rfl
        · rw [← HN.out, ← sc_up (x := x) (show s ≤ 1074 by omega), Int.pow_one]
          generalize (2 : Int) ^ s = g
          generalize (2 : Int) ^ (1074 - s) = g'
          ac_rfl
      have H3 : Hid ((0 < c ↔ z.natAbs % 4 = 3) ∧ (c = 0 ↔ z.natAbs % 4 = 2)) := by
        have := HCK.out
        show _ ∧ _
        refine ⟨?_, ?_⟩
        · rw [← HMID.2]; omega
        · rw [← HMID.1]; omega
      clear hc HCK HMID HK EB HN hPs hy
      by_cases h0 : 0 < c
      · obtain ⟨q1, q2⟩ := HFL.out.1 (.inl (H3.out.1.1 h0))
        have w9 : IntKind.u64.wrap ((L : Int) + 1) = n4 := by rw [IntKind.wrap_u64]; omega
        have Q2 : Hid _ := q2
        clear q1 q2 HFL H3
        go_wp2_with fail
        refine (signedF _ hn0 (by omega) HG.out).mono ?_
        rintro e w9 ⟨rfl, rfl⟩
        go_wp2_with fail
        refine (sideD _ (.inl rfl) Q2.out).mono ?_
        rintro e w9 ⟨rfl, rfl⟩
        go_wp2
        go_ret2
        exact ⟨rfl, hb0⟩
      · by_cases h9 : c = 0 ∧ (m : Int) % 2 = 1
        · obtain ⟨q1, q2⟩ := HFL.out.1 (.inr ⟨H3.out.2.1 h9.1, h9.2⟩)
          have w9 : IntKind.u64.wrap ((L : Int) + 1) = n4 := by rw [IntKind.wrap_u64]; omega
          have Q2 : Hid _ := q2
          obtain ⟨rfl, ho⟩ := h9
          clear q1 q2 HFL H3
          go_wp2_with fail
          refine (signedF _ hn0 (by omega) HG.out).mono ?_
          rintro e w9 ⟨rfl, rfl⟩
          go_wp2_with fail
          refine (sideD _ (.inl rfl) Q2.out).mono ?_
          rintro e w9 ⟨rfl, rfl⟩
          go_wp2
          go_ret2
          exact ⟨rfl, hb0⟩
        · obtain ⟨q1, q2⟩ := HFL.out.2 (fun e => by
            rcases e with e | ⟨e, e'⟩
            · exact h0 (H3.out.1.2 e)
            · exact h9 ⟨H3.out.2.2 e, e'⟩)
          subst q1
          have Q2 : Hid _ := q2
          clear q2 HFL H3
          rcases (by omega : ¬ c = 0 ∨ c = 0 ∧ (m : Int) % 2 = 0) with h8 | ⟨h8, ho⟩
          · have h7 : (c == 0) = false := beq_false_of_ne h8
            go_wp2_with fail
            refine (signedF _ hn0 (by omega) HG.out).mono ?_
            rintro e w9 ⟨rfl, rfl⟩
            go_wp2_with fail
            refine (sideD _ (.inr rfl) Q2.out).mono ?_
            rintro e w9 ⟨rfl, rfl⟩
            go_wp2
            go_ret2
            exact ⟨rfl, hb0⟩
          · subst h8
            clear h9 h0
            go_wp2_with fail
            refine (signedF _ hn0 (by omega) HG.out).mono ?_
            rintro e w9 ⟨rfl, rfl⟩
            go_wp2_with fail
            refine (sideD _ (.inr rfl) Q2.out).mono ?_
            rintro e w9 ⟨rfl, rfl⟩
            go_wp2
            go_ret2
            exact ⟨rfl, hb0⟩
end Go.Proofs.YtbkkepbmaadomaaGreatDoor

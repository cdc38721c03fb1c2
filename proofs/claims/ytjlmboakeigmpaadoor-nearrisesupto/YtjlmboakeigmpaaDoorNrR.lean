import Derived.Test.YtjlmboakeigmpaaDoorNrQ
import Derived.Test.YtjlmboakeigmpaaDoorNrCAll
namespace Go.Proofs.YtjlmboakeigmpaaDoor
open Go.RowKit

theorem Pz.ps {r : Rat} {z : Int} (h : Pz r z) (h0 : r.num ≠ 0) : Ps (r.num.natAbs : Int) r.den z.natAbs := by
  rcases h with ⟨h1, _⟩ | ⟨h1, h2, h3⟩ | ⟨h1, h2, h3⟩
  · exact absurd h1 h0
  · rwa [show (r.num.natAbs : Int) = r.num by omega, show z.natAbs = z.toNat by omega]
  · rwa [show (r.num.natAbs : Int) = -r.num by omega, show z.natAbs = (-z).toNat by omega]
theorem Pz.sign {r : Rat} {z : Int} (h : Pz r z) : r.num.sign = z.sign := by
  rcases h with ⟨h1, h2⟩ | ⟨h1, h2, h3⟩ | ⟨h1, h2, h3⟩
  · rw [h1, h2]
  · rw [Int.sign_eq_one_of_pos h1, Int.sign_eq_one_of_pos h2]
  · rw [Int.sign_eq_neg_one_of_neg h1, Int.sign_eq_neg_one_of_neg h2]
theorem tr_parts {w : World} {p : Bool} {a : Option Addr} {na ca : Nat} {d : Option Addr} {nd cd : Nat} {r : Rat} {S : Nat} (h : TR w p a na ca d nd cd r S) (h0 : r.num ≠ 0) :
    ∃ m k g : Int, Num w a na ca m S ∧ Num w d nd cd k S ∧ 0 < m ∧ 0 < k ∧ 0 < g ∧ m = (r.num.natAbs : Int) * g ∧ k = (r.den : Int) * g := by
  obtain ⟨x, k, ⟨m, hm, rfl⟩, hk, rfl⟩ := h
  have hm0 := hm.nn
  have hk0 := hk.nn
  have hk1 : 0 < k := by
    rcases (by omega : k = 0 ∨ 0 < k) with rfl | h
    · exact absurd (by rw [Rat.divInt_zero]; rfl) h0
    · exact h
  have hm1 : 0 < m := by
    rcases (by omega : m = 0 ∨ 0 < m) with rfl | h
    · exact absurd (by rw [ws_zero, Rat.zero_divInt]; rfl) h0
    · exact h
  have e1 := low_num p false hm0 hk1
  have e2 := low_den p false hm0 hk1
  have e3 : ws false k = k := rfl
  rw [e3] at e1 e2
  have g0 : 0 < Nat.gcd m.toNat k.toNat := Nat.gcd_pos_of_pos_right _ (by omega)
  have d1 : ((Nat.gcd m.toNat k.toNat : Nat) : Int) ∣ m := by have := Int.ofNat_dvd.2 (Nat.gcd_dvd_left m.toNat k.toNat); rwa [Int.toNat_of_nonneg hm0] at this
  have d2 : ((Nat.gcd m.toNat k.toNat : Nat) : Int) ∣ k := by have := Int.ofNat_dvd.2 (Nat.gcd_dvd_right m.toNat k.toNat); rwa [Int.toNat_of_nonneg hk0] at this
  generalize Nat.gcd m.toNat k.toNat = g at *
  refine ⟨m, k, g, hm, hk, hm1, hk1, by omega, ?_, ?_⟩
  · have h1 : 0 ≤ m / (g : Int) := Int.ediv_nonneg hm0 (by omega)
    have h2 : (((Rat.divInt (ws p m) k).num.natAbs : Nat) : Int) = m / (g : Int) := by
      rw [e1]; unfold ws; split <;> omega
    rw [h2, Int.ediv_mul_cancel d1]
  · rw [e2, Int.ediv_mul_cancel d2]
theorem belowV {k4 p4 : Int} {a b : Option Addr} {na nb ca cb : Nat} {x y : Int} {S R : Nat} (t : Nat) (w : World) (ha : Num w a na ca x S) (hb : Num w b nb cb y R) (hS : S ≤ 2000000) (hR : R ≤ 2000000) (hx0 : 0 < x) (hy : 0 < y) (hP : Ps x y t) (hk : ((t / 4 : Nat) : Int) = k4) (hp : ((t % 4 : Nat) : Int) = p4) :
    Calls Tryd.prog 54 #[.slice a na ca, .slice b nb cb] w fun e w' => e = .returned (.tuple #[.int .u64 k4, .int .i64 p4]) ∧ Below w.heap.size w w' := by
  subst hk; subst hp; exact belowQ t w ha hb hS hR hx0 hy hP
/-- What find tells of z. -/
def Pt (z sg k4 p4 : Int) : Prop := z.sign = sg ∧ ((z.natAbs / 4 : Nat) : Int) = k4 ∧ ((z.natAbs % 4 : Nat) : Int) = p4
set_option maxRecDepth 100000 in
set_option maxHeartbeats 1000000 in
/-- near.find -/
theorem findQ {sg k4 p4 : Int} {p : Bool} {a b : Option Addr} {na nb ca cb : Nat} {r : Rat} {S : Nat} (z : Int) (w : World) (hr : TR w p a na ca b nb cb r S) (hS : S ≤ 2000000) (hS1 : 1 ≤ S) (hP : Pz r z) (hQ : Pt z sg k4 p4) :
    Calls Tryd.prog 24 #[.agg #[.bool p, .slice a na ca, .slice b nb cb]] w fun e w' => e = .returned (.tuple #[.int .i64 sg, .int .u64 k4, .int .i64 p4]) ∧ Below w.heap.size w w' := by
  have P0 := var3_new w (.bool p) (.slice a na ca) (.slice b nb cb) 27
  have hb0 := bel_d0 w (.cells #[.bool p, .slice a na ca, .slice b nb cb] 27)
  replace hr := hr.below hb0
  obtain ⟨c0, c1, c2, c3, c4, c5⟩ := id P0
  go_enter Tryd.func24, Tryd.ntmps24
  go_wp2_with fail
  generalize w.alloc (.cells #[.bool p, .slice a na ca, .slice b nb cb] 27) = W0 at *
  refine (rsignB sg _ hr (by omega) (by omega) (hQ.1.symm.trans hP.sign.symm)).mono ?_
  rintro e w1 ⟨rfl, hx⟩
  replace hr := hr.below hx
  replace P0 := P0.below hx
  replace hb0 := bel_tr hb0 hx
  clear hx c0 c1 c2 c3 c4 c5
  obtain ⟨c0, c1, c2, c3, c4, c5⟩ := id P0
  by_cases h0 : r.num = 0
  · have hz : z = 0 := by
      rcases hP with ⟨_, h⟩ | ⟨h, _⟩ | ⟨h, _⟩ <;> first | exact h | omega
    subst hz
    obtain ⟨q1, q2, q3⟩ := hQ
    obtain rfl : sg = 0 := q1.symm
    obtain rfl : k4 = 0 := q2.symm
    obtain rfl : p4 = 0 := q3.symm
    clear hr P0 c0 c1 c2 c3 c4 c5 hP q1 q2 q3
    go_wp2
    refine bodyPost_ret (v := .tuple #[.int .i64 0, .int .u64 0, .int .i64 0]) (by simp [results, Tryd.results24, go_sem]) rfl ⟨rfl, hb0⟩
  · obtain ⟨m, k, g, hm, hk, hm0, hk0, hg, em, ek⟩ := tr_parts hr h0
    have hPs : Ps m k z.natAbs := by rw [em, ek]; exact (Ps.scale hg).2 (hP.ps h0)
    have hsg : ¬ sg = 0 := by rw [← hQ.1, ← hP.sign, Int.sign_eq_zero_iff_zero]; exact h0
    clear hr hP em ek hg
    go_wp2_with fail
    refine (belowV z.natAbs _ hm hk hS hS hm0 hk0 hPs hQ.2.1 hQ.2.2).mono ?_
    rintro e w2 ⟨rfl, hx⟩
    replace hb0 := bel_tr hb0 hx
    clear hx c0 c1 c2 c3 c4 c5 hm hk P0 hPs hQ
    go_wp2
    refine bodyPost_ret (v := .tuple #[.int .i64 sg, .int .u64 k4, .int .i64 p4]) (by simp [results, Tryd.results24, go_sem]) rfl ⟨rfl, hb0⟩
theorem ranked0 (w : World) : Calls Tryd.prog 26 #[.int .i64 0, .int .u64 0] w fun e w' => e = .returned (.float .f64 0) ∧ w' = w := by
  have HB := fun u => ext_from 0 u
  go_enter Tryd.func26, Tryd.ntmps26
  go_wp2
  go_ret
  exact ⟨rfl, rfl⟩
theorem rankedV {k4 s : Int} {F : Nat} (w : World) (h0 : 0 ≤ k4) (h1 : k4 ≤ 9218868437227405312) (hs : s = 1 ∨ s = -1 ∨ s = 0 ∧ k4 = 0) (hF : fb (s * k4) = F) : Calls Tryd.prog 26 #[.int .i64 s, .int .u64 k4] w fun e w' => e = .returned (.float .f64 F) ∧ w' = w := by
  subst hF
  obtain ⟨k, rfl⟩ := Int.eq_ofNat_of_zero_le h0
  rcases hs with rfl | rfl | ⟨rfl, hk⟩
  · have := rankedP (k : Int) w
    rw [show ((k : Int)).toNat = fb (1 * (k : Int)) by unfold fb; rw [if_neg (by omega)]; omega] at this
    exact this
  · rcases Nat.eq_zero_or_pos k with rfl | h
    · exact rankedN0 w
    · have := rankedN k w h (by omega)
      rw [show k + 9223372036854775808 = fb (-1 * (k : Int)) by unfold fb; rw [if_pos (by omega)]; omega] at this
      exact this
  · obtain rfl : k = 0 := by omega
    exact ranked0 w
theorem nearerA (k : Nat) (w : World) : Calls Tryd.prog 25 #[.int .u64 (k : Int), .int .i64 0] w fun e w' => e = .returned (.int .u64 (k : Int)) ∧ w' = w := by
  go_enter Tryd.func25, Tryd.ntmps25
  go_wp2
  go_ret
  exact ⟨rfl, rfl⟩
theorem nearerB (k : Nat) (w : World) : Calls Tryd.prog 25 #[.int .u64 (k : Int), .int .i64 1] w fun e w' => e = .returned (.int .u64 (k : Int)) ∧ w' = w := by
  go_enter Tryd.func25, Tryd.ntmps25
  go_wp2
  go_ret
  exact ⟨rfl, rfl⟩
theorem nearerC (k : Nat) (w : World) (h : (k : Int) % 2 = 0) : Calls Tryd.prog 25 #[.int .u64 (k : Int), .int .i64 2] w fun e w' => e = .returned (.int .u64 (k : Int)) ∧ w' = w := by
  go_enter Tryd.func25, Tryd.ntmps25
  go_wp2
  go_ret
  exact ⟨rfl, rfl⟩
theorem nearerD (k : Nat) (w : World) (h : (k : Int) % 2 = 1) (hk : k < 9223372036854775808) : Calls Tryd.prog 25 #[.int .u64 (k : Int), .int .i64 2] w fun e w' => e = .returned (.int .u64 ((k : Int) + 1)) ∧ w' = w := by
  have h1 : IntKind.u64.wrap ((k : Int) + 1) = (k : Int) + 1 := by rw [IntKind.wrap_u64]; omega
  clear hk
  go_enter Tryd.func25, Tryd.ntmps25
  go_wp2
  go_ret
  exact ⟨by simp, rfl⟩
theorem nearerQ (t : Nat) (w : World) (ht : t ≤ 36875473748909621247) : Calls Tryd.prog 25 #[.int .u64 ((t / 4 : Nat) : Int), .int .i64 ((t % 4 : Nat) : Int)] w fun e w' => e = .returned (.int .u64 ((nrz t : Nat) : Int)) ∧ w' = w := by
  have h3 := Nat.div_add_mod t 4
  rcases (by omega : t % 4 = 0 ∨ t % 4 = 1 ∨ t % 4 = 2 ∨ t % 4 = 3) with h | h | h | h
  · rw [h, show nrz t = t / 4 by unfold nrz; omega]; exact nearerA _ w
  · rw [h, show nrz t = t / 4 by unfold nrz; omega]; exact nearerB _ w
  · rcases (by omega : t / 4 % 2 = 0 ∨ t / 4 % 2 = 1) with ho | ho
    · rw [h, show nrz t = t / 4 by unfold nrz; omega]; exact nearerC _ w (by omega)
    · rw [h, show nrz t = t / 4 + 1 by unfold nrz; omega]; exact nearerD _ w (by omega) (by omega)
  · rw [h, show nrz t = t / 4 + 1 by unfold nrz; omega]; exact nearer3 _ w (by omega)
theorem nearerV {k4 p4 n4 : Int} (t : Nat) (w : World) (ht : t ≤ 36875473748909621247) (hk : ((t / 4 : Nat) : Int) = k4) (hp : ((t % 4 : Nat) : Int) = p4) (hn : ((nrz t : Nat) : Int) = n4) : Calls Tryd.prog 25 #[.int .u64 k4, .int .i64 p4] w fun e w' => e = .returned (.int .u64 n4) ∧ w' = w := by
  subst hk; subst hp; subst hn; exact nearerQ t w ht
theorem sign3 (z : Int) : z.sign = 1 ∧ 0 < z ∨ z.sign = -1 ∧ z < 0 ∨ z.sign = 0 ∧ z = 0 := by
  rcases Int.lt_trichotomy z 0 with h | h | h
  · exact .inr (.inl ⟨Int.sign_eq_neg_one_of_neg h, h⟩)
  · exact .inr (.inr ⟨by rw [h]; rfl, h⟩)
  · exact .inl ⟨Int.sign_eq_one_of_pos h, h⟩
theorem Pt.ok {z sg k4 p4 : Int} (h : Pt z sg k4 p4) (h1 : -36875473748909621247 ≤ z) (h2 : z ≤ 36875473748909621247) : 0 ≤ k4 ∧ k4 ≤ 9218868437227405311 ∧ 0 ≤ p4 ∧ p4 ≤ 3 ∧ (sg = 1 ∨ sg = -1 ∨ sg = 0 ∧ k4 = 0 ∧ p4 = 0) := by
  obtain ⟨e1, e2, e3⟩ := h
  rcases sign3 z with ⟨e, h⟩ | ⟨e, h⟩ | ⟨e, h⟩ <;> omega
theorem Pt.flA {z sg k4 p4 : Int} (h : Pt z sg k4 p4) (hp : p4 = 0) : sg * k4 = flz z ∧ sdz z = 0 ∧ sg * k4 = dnz z ∧ sg * k4 = upz z := by
  obtain ⟨e1, e2, e3⟩ := h
  have hs3 := sign3 z
  rw [e1] at hs3
  have e4 : ((nrz z.natAbs : Nat) : Int) = k4 := by unfold nrz; omega
  refine ⟨?_, by unfold sdz; rw [if_pos (by omega)], ?_, ?_⟩
  · unfold flz
    rcases hs3 with ⟨rfl, h⟩ | ⟨rfl, h⟩ | ⟨rfl, h⟩
    · rw [if_neg (by omega), show z.toNat = z.natAbs by omega, e4]; omega
    · rw [if_pos h, show (-z).toNat = z.natAbs by omega, e4]; omega
    · subst h; rw [Int.zero_mul]; rfl
  · unfold dnz; rcases hs3 with ⟨rfl, h⟩ | ⟨rfl, h⟩ | ⟨rfl, h⟩ <;> omega
  · unfold upz; rcases hs3 with ⟨rfl, h⟩ | ⟨rfl, h⟩ | ⟨rfl, h⟩ <;> omega
theorem Pt.flB {z sg k4 p4 n4 : Int} (h : Pt z sg k4 p4) (hp : ¬ p4 = 0) (hn : ((nrz z.natAbs : Nat) : Int) = n4) : sg * n4 = flz z ∧ (n4 = k4 → sdz z = -sg) ∧ (¬ n4 = k4 → n4 = k4 + 1 ∧ sdz z = sg) ∧ (sg = 1 ∨ sg = -1) := by
  obtain ⟨e1, e2, e3⟩ := h
  have hs3 := sign3 z
  rw [e1] at hs3
  have hfl : sg * n4 = flz z := by
    unfold flz
    rcases hs3 with ⟨rfl, h⟩ | ⟨rfl, h⟩ | ⟨rfl, h⟩
    · rw [if_neg (by omega), show z.toNat = z.natAbs by omega, hn]; omega
    · rw [if_pos h, show (-z).toNat = z.natAbs by omega, hn]; omega
    · subst h; exact absurd e3.symm hp
  have h1 : n4 = k4 ∨ n4 = k4 + 1 := by unfold nrz at hn; omega
  refine ⟨hfl, ?_, ?_, by omega⟩
  · intro e
    unfold sdz upz
    rw [if_neg (by omega), ← hfl, e]
    rcases hs3 with ⟨rfl, h⟩ | ⟨rfl, h⟩ | ⟨rfl, h⟩ <;> split <;> omega
  · intro e
    refine ⟨by omega, ?_⟩
    unfold sdz upz
    rw [if_neg (by omega), ← hfl, show n4 = k4 + 1 by omega]
    rcases hs3 with ⟨rfl, h⟩ | ⟨rfl, h⟩ | ⟨rfl, h⟩ <;> split <;> omega
set_option maxRecDepth 100000 in
set_option maxHeartbeats 1000000 in
/-- near.Float -/
theorem floatQ {F : Nat} {D : Int} {p : Bool} {a b : Option Addr} {na nb ca cb : Nat} {r : Rat} {S : Nat} (z : Int) (w : World) (hr : TR w p a na ca b nb cb r S) (hS : S ≤ 2000000) (hS1 : 1 ≤ S) (hP : Pz r z) (hF : fb (flz z) = F) (hD : sdz z = D) :
    Calls Tryd.prog 8 #[.agg #[.bool p, .slice a na ca, .slice b nb cb]] w fun e w' => e = .returned (.tuple #[.float .f64 F, .int .i64 D]) ∧ Below w.heap.size w w' := by
  obtain ⟨sg, k4, p4, n4, hQ, hN⟩ : ∃ sg k4 p4 n4, Pt z sg k4 p4 ∧ Hid (((nrz z.natAbs : Nat) : Int) = n4) := ⟨_, _, _, _, ⟨rfl, rfl, rfl⟩, rfl⟩
  have HF : Hid (fb (flz z) = F) := hF
  have HD : Hid (sdz z = D) := hD
  have P0 := var3_new w (.bool p) (.slice a na ca) (.slice b nb cb) 27
  have hb0 := bel_d0 w (.cells #[.bool p, .slice a na ca, .slice b nb cb] 27)
  replace hr := hr.below hb0
  obtain ⟨c0, c1, c2, c3, c4, c5⟩ := id P0
  clear hF hD
  go_enter Tryd.func8, Tryd.ntmps8
  go_wp2_with fail
  generalize w.alloc (.cells #[.bool p, .slice a na ca, .slice b nb cb] 27) = W0 at *
  refine (findQ z _ hr hS hS1 hP hQ).mono ?_
  rintro e w1 ⟨rfl, hx⟩
  replace hb0 := bel_tr hb0 hx
  have hB := hP.bnd
  have hO := hQ.ok hB.1 hB.2
  clear hx c0 c1 c2 c3 c4 c5 hr P0 hP
  go_wp2_with fail
  refine (nearerV z.natAbs _ (by omega) hQ.2.1 hQ.2.2 hN.out).mono ?_
  rintro e w2 ⟨rfl, rfl⟩
  clear hB
  by_cases h4 : p4 = 0
  · have HA := hQ.flA h4
    obtain rfl : D = 0 := HD.out.symm.trans HA.2.1
    have HFF : Hid (fb (sg * k4) = F) := by show _ = _; rw [HA.1]; exact HF.out
    subst h4
    clear HA hQ hN HF HD
    go_wp2_with fail
    refine (rankedV _ hO.1 (by omega) (by omega) HFF.out).mono ?_
    rintro e w3 ⟨rfl, rfl⟩
    go_wp2
    go_ret2
    exact ⟨rfl, hb0⟩
  · have HA := hQ.flB h4 hN.out
    have HFF : Hid (fb (sg * n4) = F) := by show _ = _; rw [HA.1]; exact HF.out
    have hs := HA.2.2.2
    have hn0 : 0 ≤ n4 ∧ n4 ≤ 9218868437227405312 := by
      by_cases e : n4 = k4
      · omega
      · have := (HA.2.2.1 e).1; omega
    by_cases hn : n4 = k4
    · obtain rfl : D = -sg := HD.out.symm.trans (HA.2.1 hn)
      have wn : IntKind.i64.wrap (-sg) = -sg := by rw [IntKind.wrap_i64]; omega
      subst hn
      clear HA hQ hN HF HD
      go_wp2_with fail
      refine (rankedV _ hn0.1 hn0.2 (by omega) HFF.out).mono ?_
      rintro e w3 ⟨rfl, rfl⟩
      go_wp2
      go_ret2
      exact ⟨rfl, hb0⟩
    · obtain rfl : D = sg := HD.out.symm.trans (HA.2.2.1 hn).2
      clear HA hQ hN HF HD
      go_wp2_with fail
      refine (rankedV _ hn0.1 hn0.2 (by omega) HFF.out).mono ?_
      rintro e w3 ⟨rfl, rfl⟩
      go_wp2
      go_ret2
      exact ⟨rfl, hb0⟩
theorem Pt.dn {z sg k4 p4 : Int} (h : Pt z sg k4 p4) (hp : ¬ p4 = 0) : (sg = -1 → sg * (k4 + 1) = dnz z) ∧ (¬ sg = -1 → sg * k4 = dnz z) ∧ (sg = 1 → sg * (k4 + 1) = upz z) ∧ (¬ sg = 1 → sg * k4 = upz z) := by
  obtain ⟨e1, e2, e3⟩ := h
  have hs3 := sign3 z
  rw [e1] at hs3
  unfold dnz upz
  rcases hs3 with ⟨rfl, h⟩ | ⟨rfl, h⟩ | ⟨rfl, h⟩
  · refine ⟨?_, ?_, ?_, ?_⟩ <;> omega
  · refine ⟨?_, ?_, ?_, ?_⟩ <;> omega
  · subst h; exact absurd e3.symm hp
set_option maxRecDepth 100000 in
set_option maxHeartbeats 1000000 in
theorem downS {F : Nat} {p : Bool} {a b : Option Addr} {na nb ca cb : Nat} {r : Rat} {S : Nat} (z : Int) (w : World) (hr : TR w p a na ca b nb cb r S) (hS : S ≤ 2000000) (hS1 : 1 ≤ S) (hP : Pz r z) (hF : fb (dnz z) = F) :
    Calls Tryd.prog 28 #[.agg #[.bool p, .slice a na ca, .slice b nb cb], .int .i64 (-1)] w fun e w' => e = .returned (.float .f64 F) ∧ Below w.heap.size w w' := by
  obtain ⟨sg, k4, p4, hQ⟩ : ∃ sg k4 p4, Pt z sg k4 p4 := ⟨_, _, _, ⟨rfl, rfl, rfl⟩⟩
  have HF : Hid (fb (dnz z) = F) := hF
  have P0 := var3_new w (.bool p) (.slice a na ca) (.slice b nb cb) 27
  have hb0 := bel_d0 w (.cells #[.bool p, .slice a na ca, .slice b nb cb] 27)
  replace hr := hr.below hb0
  obtain ⟨c0, c1, c2, c3, c4, c5⟩ := id P0
  clear hF
  go_enter Tryd.func28, Tryd.ntmps28
  go_wp2_with fail
  generalize w.alloc (.cells #[.bool p, .slice a na ca, .slice b nb cb] 27) = W0 at *
  refine (findQ z _ hr hS hS1 hP hQ).mono ?_
  rintro e w1 ⟨rfl, hx⟩
  replace hb0 := bel_tr hb0 hx
  have hB := hP.bnd
  have hO := hQ.ok hB.1 hB.2
  clear hx c0 c1 c2 c3 c4 c5 hr P0 hP hB
  by_cases h4 : p4 = 0
  · have HFF : Hid (fb (sg * k4) = F) := by show _ = _; rw [(hQ.flA h4).2.2.1]; exact HF.out
    subst h4
    clear hQ HF
    go_wp2_with fail
    refine (rankedV _ hO.1 (by omega) (by omega) HFF.out).mono ?_
    rintro e w3 ⟨rfl, rfl⟩
    go_wp2
    go_ret
    exact ⟨rfl, hb0⟩
  · have HD := hQ.dn h4
    by_cases hd : sg = -1
    · obtain ⟨k5, h5⟩ : ∃ k5, k4 + 1 = k5 := ⟨_, rfl⟩
      have HFF : Hid (fb (sg * k5) = F) := by show _ = _; rw [← h5, HD.1 hd]; exact HF.out
      have wk : IntKind.u64.wrap (k4 + 1) = k5 := by rw [IntKind.wrap_u64]; omega
      have hk5 : 0 ≤ k5 ∧ k5 ≤ 9218868437227405312 := by omega
      clear h5
      subst hd
      clear hQ HF HD
      go_wp2_with fail
      refine (rankedV _ hk5.1 hk5.2 (by omega) HFF.out).mono ?_
      rintro e w3 ⟨rfl, rfl⟩
      go_wp2
      go_ret
      exact ⟨rfl, hb0⟩
    · have HFF : Hid (fb (sg * k4) = F) := by show _ = _; rw [HD.2.1 hd]; exact HF.out
      obtain rfl : sg = 1 := by omega
      clear hQ HF HD hd
      go_wp2_with fail
      refine (rankedV _ hO.1 (by omega) (by omega) HFF.out).mono ?_
      rintro e w3 ⟨rfl, rfl⟩
      go_wp2
      go_ret
      exact ⟨rfl, hb0⟩
set_option maxRecDepth 100000 in
set_option maxHeartbeats 1000000 in
/-- near.Down -/
theorem downQ {F : Nat} {p : Bool} {a b : Option Addr} {na nb ca cb : Nat} {r : Rat} {S : Nat} (z : Int) (w : World) (hr : TR w p a na ca b nb cb r S) (hS : S ≤ 2000000) (hS1 : 1 ≤ S) (hP : Pz r z) (hF : fb (dnz z) = F) :
    Calls Tryd.prog 10 #[.agg #[.bool p, .slice a na ca, .slice b nb cb]] w fun e w' => e = .returned (.float .f64 F) ∧ Below w.heap.size w w' := by
  have P0 := var3_new w (.bool p) (.slice a na ca) (.slice b nb cb) 27
  have hb0 := bel_d0 w (.cells #[.bool p, .slice a na ca, .slice b nb cb] 27)
  replace hr := hr.below hb0
  obtain ⟨c0, c1, c2, c3, c4, c5⟩ := id P0
  have HF : Hid (fb (dnz z) = F) := hF
  clear hF
  go_enter Tryd.func10, Tryd.ntmps10
  go_wp2_with fail
  generalize w.alloc (.cells #[.bool p, .slice a na ca, .slice b nb cb] 27) = W0 at *
  refine (downS z _ hr hS hS1 hP HF.out).mono ?_
  rintro e w1 ⟨rfl, hx⟩
  replace hb0 := bel_tr hb0 hx
  clear hx c0 c1 c2 c3 c4 c5 hr P0 hP
  go_wp2
  go_ret
  exact ⟨rfl, hb0⟩
set_option maxRecDepth 100000 in
set_option maxHeartbeats 1000000 in
theorem upS {F : Nat} {p : Bool} {a b : Option Addr} {na nb ca cb : Nat} {r : Rat} {S : Nat} (z : Int) (w : World) (hr : TR w p a na ca b nb cb r S) (hS : S ≤ 2000000) (hS1 : 1 ≤ S) (hP : Pz r z) (hF : fb (upz z) = F) :
    Calls Tryd.prog 28 #[.agg #[.bool p, .slice a na ca, .slice b nb cb], .int .i64 (1)] w fun e w' => e = .returned (.float .f64 F) ∧ Below w.heap.size w w' := by
  obtain ⟨sg, k4, p4, hQ⟩ : ∃ sg k4 p4, Pt z sg k4 p4 := ⟨_, _, _, ⟨rfl, rfl, rfl⟩⟩
  have HF : Hid (fb (upz z) = F) := hF
  have P0 := var3_new w (.bool p) (.slice a na ca) (.slice b nb cb) 27
  have hb0 := bel_d0 w (.cells #[.bool p, .slice a na ca, .slice b nb cb] 27)
  replace hr := hr.below hb0
  obtain ⟨c0, c1, c2, c3, c4, c5⟩ := id P0
  clear hF
  go_enter Tryd.func28, Tryd.ntmps28
  go_wp2_with fail
  generalize w.alloc (.cells #[.bool p, .slice a na ca, .slice b nb cb] 27) = W0 at *
  refine (findQ z _ hr hS hS1 hP hQ).mono ?_
  rintro e w1 ⟨rfl, hx⟩
  replace hb0 := bel_tr hb0 hx
  have hB := hP.bnd
  have hO := hQ.ok hB.1 hB.2
  clear hx c0 c1 c2 c3 c4 c5 hr P0 hP hB
  by_cases h4 : p4 = 0
  · have HFF : Hid (fb (sg * k4) = F) := by show _ = _; rw [(hQ.flA h4).2.2.2]; exact HF.out
    subst h4
    clear hQ HF
    go_wp2_with fail
    refine (rankedV _ hO.1 (by omega) (by omega) HFF.out).mono ?_
    rintro e w3 ⟨rfl, rfl⟩
    go_wp2
    go_ret
    exact ⟨rfl, hb0⟩
  · have HD := hQ.dn h4
    by_cases hd : sg = 1
    · obtain ⟨k5, h5⟩ : ∃ k5, k4 + 1 = k5 := ⟨_, rfl⟩
      have HFF : Hid (fb (sg * k5) = F) := by show _ = _; rw [← h5, HD.2.2.1 hd]; exact HF.out
      have wk : IntKind.u64.wrap (k4 + 1) = k5 := by rw [IntKind.wrap_u64]; omega
      have hk5 : 0 ≤ k5 ∧ k5 ≤ 9218868437227405312 := by omega
      clear h5
      subst hd
      clear hQ HF HD
      go_wp2_with fail
      refine (rankedV _ hk5.1 hk5.2 (by omega) HFF.out).mono ?_
      rintro e w3 ⟨rfl, rfl⟩
      go_wp2
      go_ret
      exact ⟨rfl, hb0⟩
    · have HFF : Hid (fb (sg * k4) = F) := by show _ = _; rw [HD.2.2.2 hd]; exact HF.out
      obtain rfl : sg = -1 := by omega
      clear hQ HF HD hd
      go_wp2_with fail
      refine (rankedV _ hO.1 (by omega) (by omega) HFF.out).mono ?_
      rintro e w3 ⟨rfl, rfl⟩
      go_wp2
      go_ret
      exact ⟨rfl, hb0⟩
set_option maxRecDepth 100000 in
set_option maxHeartbeats 1000000 in
/-- near.Up -/
theorem upQ {F : Nat} {p : Bool} {a b : Option Addr} {na nb ca cb : Nat} {r : Rat} {S : Nat} (z : Int) (w : World) (hr : TR w p a na ca b nb cb r S) (hS : S ≤ 2000000) (hS1 : 1 ≤ S) (hP : Pz r z) (hF : fb (upz z) = F) :
    Calls Tryd.prog 11 #[.agg #[.bool p, .slice a na ca, .slice b nb cb]] w fun e w' => e = .returned (.float .f64 F) ∧ Below w.heap.size w w' := by
  have P0 := var3_new w (.bool p) (.slice a na ca) (.slice b nb cb) 27
  have hb0 := bel_d0 w (.cells #[.bool p, .slice a na ca, .slice b nb cb] 27)
  replace hr := hr.below hb0
  obtain ⟨c0, c1, c2, c3, c4, c5⟩ := id P0
  have HF : Hid (fb (upz z) = F) := hF
  clear hF
  go_enter Tryd.func11, Tryd.ntmps11
  go_wp2_with fail
  generalize w.alloc (.cells #[.bool p, .slice a na ca, .slice b nb cb] 27) = W0 at *
  refine (upS z _ hr hS hS1 hP HF.out).mono ?_
  rintro e w1 ⟨rfl, hx⟩
  replace hb0 := bel_tr hb0 hx
  clear hx c0 c1 c2 c3 c4 c5 hr P0 hP
  go_wp2
  go_ret
  exact ⟨rfl, hb0⟩
end Go.Proofs.YtjlmboakeigmpaaDoor

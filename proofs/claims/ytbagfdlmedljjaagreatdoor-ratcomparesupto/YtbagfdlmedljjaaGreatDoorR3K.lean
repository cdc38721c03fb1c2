import Derived.Test.YtbagfdlmedljjaaGreatDoorR3M
namespace Go.Proofs.YtbagfdlmedljjaaGreatDoor
open Go.RowKit

theorem fl_pos (p q : Bool) {m k : Int} (hk : 0 < k) (hq : 0 < ws q k) : flQ p q m k = ws p m / ws q k := by
  have hq' : q = false := by cases q <;> simp_all [ws] <;> omega
  subst hq'
  have h1 := Int.emod_nonneg m (Int.ne_of_gt hk)
  have h2 := Int.emod_lt_of_pos m hk
  have h3 := Int.emod_add_mul_ediv m k
  have hs : k.sign = 1 := Int.sign_eq_one_of_pos hk
  unfold flQ ws
  cases p with
  | false =>
    have h4 : 0 ≤ (m % k).sign := by
      rcases (by omega : m % k = 0 ∨ 0 < m % k) with h | h
      · rw [h]; decide
      · rw [Int.sign_eq_one_of_pos h]; decide
    simp only [Bool.false_eq_true, if_false, bne_self_eq_false, hs, Int.mul_one]
    rw [if_neg (by omega)]
  | true =>
    simp only [if_true, Bool.false_eq_true, if_false, hs, Int.mul_one, Int.sign_neg]
    by_cases hz : m % k = 0
    · rw [hz]
      have hd : k ∣ m := Int.dvd_of_emod_eq_zero hz
      rw [Int.neg_ediv_of_dvd hd]
      simp
    · have h5 : (m % k).sign = 1 := Int.sign_eq_one_of_pos (by omega)
      rw [h5]
      have h6 := ((Int.ediv_emod_unique (a := -m) (r := k - m % k) (q := -(m / k) - 1) hk).2 ⟨by rw [Int.mul_sub, Int.mul_neg, Int.mul_one]; omega, by omega, by omega⟩).1
      rw [h6]
      simp
theorem fl_rat {x y : Int} {r : Rat} (hy : 0 < y) (h : Rat.divInt x y = r) : x / y = r.num / r.den := by
  have d1 : 0 < (r.den : Int) := by have := r.den_pos; omega
  have e1 : x * r.den = r.num * y := by
    have h0 := Rat.num_divInt_den r
    rw [← h] at h0 ⊢
    exact ((Rat.divInt_eq_divInt_iff (by have := (Rat.divInt x y).den_pos; omega) (by omega)).1 h0).symm
  rw [← Int.mul_ediv_mul_of_pos_left x y d1, e1, Int.mul_comm y (r.den : Int), Int.mul_ediv_mul_of_pos_left _ _ hy]
set_option maxHeartbeats 4000000 in
/-- rat.Floor -/
theorem floorQ {p : Bool} {a : Option Addr} {na ca : Nat} {d : Option Addr} {nd cd : Nat} {r : Rat} {S : Nat} (w : World) (hr : TR w p a na ca d nd cd r S) (hS : S ≤ 2000000) (hS1 : 1 ≤ S) :
    Calls Tryz.prog 20 #[.agg #[.bool p, .slice a na ca, .slice d nd cd]] w fun e w' => ∃ f c n k, e = .returned (.agg #[.bool f, .slice c n k]) ∧ GI w' w.heap.size (.agg #[.bool f, .slice c n k]) (r.num / r.den) (S + 4) ∧ Below w.heap.size w w' := by
  have P0 := (var3_new w (.bool p) (.slice a na ca) (.slice d nd cd) 28).alloc (.cells #[.bool false, .slice none 0 0] 26)
  have R0 := var2_new (w.alloc (.cells #[.bool p, .slice a na ca, .slice d nd cd] 28)) (.bool false) (.slice none 0 0) 26
  rw [World.size_alloc] at R0
  have hb0 : Below w.heap.size w ((w.alloc (.cells #[.bool p, .slice a na ca, .slice d nd cd] 28)).alloc (.cells #[.bool false, .slice none 0 0] 26)) := bel_tr (bel_d0 _ _) (bel_d0 _ _)
  have hsz : ((w.alloc (.cells #[.bool p, .slice a na ca, .slice d nd cd] 28)).alloc (.cells #[.bool false, .slice none 0 0] 26)).heap.size = w.heap.size + 2 := by simp
  replace hr := hr.below hb0
  go_enter Tryz.func20, Tryz.ntmps20
  obtain ⟨p0c0, p0c1, p0c2, p0c3, p0c4, p0c5⟩ := id P0
  go_wp2_with fail
  generalize (w.alloc (.cells #[.bool p, .slice a na ca, .slice d nd cd] 28)).alloc (.cells #[.bool false, .slice none 0 0] 26) = W0 at *
  refine (partsR _ hr (by omega) hS1).mono ?_
  rintro e w1 ⟨f1, c1, n1, k1, f2, c2, n2, k2, x1, y1, rfl, T1, T2, hy1, hq1, hx⟩
  clear p0c0 p0c1 p0c2 p0c3 p0c4 p0c5
  replace hr := hr.below hx
  replace R0 := R0.below hx
  replace P0 := P0.below hx
  replace hb0 := bel_tr hb0 hx
  have hsw1 : W0.heap.size ≤ w1.heap.size := Below.size hx
  clear hx
  obtain ⟨p0c0, p0c1, p0c2, p0c3, p0c4, p0c5⟩ := id P0
  clear p0c0 p0c1 p0c2 p0c3 p0c4 p0c5 P0
  clear hr
  obtain ⟨m, M1, hm⟩ := T1
  obtain ⟨k, M2, hk⟩ := T2

  have hk0 : 0 < k := by
    have h := M2.nn
    rcases (by omega : k = 0 ∨ 0 < k) with h1 | h1
    · subst h1; rw [ws_zero] at hk; omega
    · exact h1
  have HV : Hid (flQ f1 f2 m k = r.num / r.den) := by
    show _ = _
    rw [fl_pos f1 f2 hk0 (by rw [hk]; exact hy1), hm, hk]; exact fl_rat hy1 hq1
  clear hm hk hy1 hq1
  go_wp2_with fail
  refine (divI f1 f2 _ M1 M2 (by omega) (by omega) hk0).mono ?_
  rintro e w2 ⟨uu, vv, rfl, KQ, KR, hx⟩
  replace KQ := KQ.val HV.out
  obtain ⟨f3, c3, n3, k3, rfl⟩ := KQ.form
  obtain ⟨f4, c4, n4, k4, rfl⟩ := KR.form
  replace R0 := R0.below hx
  replace hb0 := bel_tr hb0 hx
  have hsx := Below.size hx
  clear hx M1 M2 KR HV
  obtain ⟨V1, V2, hx, hs2⟩ := box2 w2 (.bool f3) (.slice c3 n3 k3) (.bool f4) (.slice c4 n4 k4) 26
  replace KQ := KQ.below hx
  replace R0 := R0.below hx
  replace hb0 := bel_tr hb0 hx
  clear hx
  obtain ⟨v0, v1, v2, v3⟩ := id V1
  obtain ⟨r0, r1, r2, r3⟩ := id R0
  go_wp2_with fail
  generalize (w2.alloc (.cells #[.bool f3, .slice c3 n3 k3] 26)).alloc (.cells #[.bool f4, .slice c4 n4 k4] 26) = w3 at *
  obtain ⟨V, O⟩ := R0.set (.bool f3) (.slice c3 n3 k3)
  have GF := (KQ.mono (B' := w.heap.size + 2) (by omega)).off O (by omega)
  have hw := hb0.trans (O.below (by omega))
  clear R0 O KQ hb0 V2
  go_wp2
  refine bodyPost_ret (v := .agg #[.bool f3, .slice c3 n3 k3]) (by simp [results, Tryz.results20, go_sem, V.c0, V.c1]) rfl ⟨_, _, _, _, rfl, GF.mono (by omega), hw⟩
set_option maxHeartbeats 4000000 in
/-- rat.Ceil -/
theorem ceilQ {p : Bool} {a : Option Addr} {na ca : Nat} {d : Option Addr} {nd cd : Nat} {r : Rat} {S : Nat} (w : World) (hr : TR w p a na ca d nd cd r S) (hS : S ≤ 2000000) (hS1 : 1 ≤ S) (hT : TB w) :
    Calls Tryz.prog 22 #[.agg #[.bool p, .slice a na ca, .slice d nd cd]] w fun e w' => ∃ f c n k, e = .returned (.agg #[.bool f, .slice c n k]) ∧ GI w' w.heap.size (.agg #[.bool f, .slice c n k]) (-((-r).num / (-r).den)) (S + 4) ∧ Below w.heap.size w w' := by
  have P0 := (var3_new w (.bool p) (.slice a na ca) (.slice d nd cd) 28).alloc (.cells #[.bool false, .slice none 0 0] 26)
  have R0 := var2_new (w.alloc (.cells #[.bool p, .slice a na ca, .slice d nd cd] 28)) (.bool false) (.slice none 0 0) 26
  rw [World.size_alloc] at R0
  have hb0 : Below w.heap.size w ((w.alloc (.cells #[.bool p, .slice a na ca, .slice d nd cd] 28)).alloc (.cells #[.bool false, .slice none 0 0] 26)) := bel_tr (bel_d0 _ _) (bel_d0 _ _)
  have hsz : ((w.alloc (.cells #[.bool p, .slice a na ca, .slice d nd cd] 28)).alloc (.cells #[.bool false, .slice none 0 0] 26)).heap.size = w.heap.size + 2 := by simp
  replace hr := hr.below hb0
  replace hT := hT.below hb0
  go_enter Tryz.func22, Tryz.ntmps22
  obtain ⟨p0c0, p0c1, p0c2, p0c3, p0c4, p0c5⟩ := id P0
  go_wp2_with fail
  generalize (w.alloc (.cells #[.bool p, .slice a na ca, .slice d nd cd] 28)).alloc (.cells #[.bool false, .slice none 0 0] 26) = W0 at *
  refine (negQ _ hr (by omega) hS1 hT).mono ?_
  rintro e w1 ⟨f1, c1, n1, k1, c2, n2, k2, rfl, GG, hx⟩
  clear p0c0 p0c1 p0c2 p0c3 p0c4 p0c5
  replace hr := hr.below hx
  replace hT := hT.below hx
  replace R0 := R0.below hx
  replace P0 := P0.below hx
  replace hb0 := bel_tr hb0 hx
  have hsw1 : W0.heap.size ≤ w1.heap.size := Below.size hx
  clear hx
  obtain ⟨p0c0, p0c1, p0c2, p0c3, p0c4, p0c5⟩ := id P0
  clear p0c0 p0c1 p0c2 p0c3 p0c4 p0c5 P0
  clear hr
  clear hT
  go_wp2_with fail
  refine (floorQ _ GG.tr (by omega) (by omega)).mono ?_
  rintro e w2 ⟨f3, c3, n3, k3, rfl, KQ, hx⟩
  replace R0 := R0.below hx
  replace GG := GG.below hx
  replace hb0 := bel_tr hb0 hx
  have hsw2 : w1.heap.size ≤ w2.heap.size := Below.size hx
  clear hx
  clear GG
  go_wp2_with fail
  refine (negT _ KQ.ti (by omega)).mono ?_
  rintro e w3 ⟨f4, c4, n4, k4, rfl, KN, hx⟩
  replace R0 := R0.below hx
  replace KQ := KQ.below hx
  replace hb0 := bel_tr hb0 hx
  have hsw3 : w2.heap.size ≤ w3.heap.size := Below.size hx
  clear hx
  clear KQ
  obtain ⟨r0, r1, r2, r3⟩ := id R0
  obtain ⟨V, O⟩ := R0.set (.bool f4) (.slice c4 n4 k4)
  have GF := (KN.mono (B' := w.heap.size + 2) (by omega)).off O (by omega)
  have hw := hb0.trans (O.below (by omega))
  clear R0 O KN hb0
  go_wp2
  refine bodyPost_ret (v := .agg #[.bool f4, .slice c4 n4 k4]) (by simp [results, Tryz.results22, go_sem, V.c0, V.c1]) rfl ⟨_, _, _, _, rfl, GF.mono (by omega), hw⟩
end Go.Proofs.YtbagfdlmedljjaaGreatDoor

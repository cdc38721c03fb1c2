import Derived.Test.YtfelogbfijomiacDoorNbB
import Derived.Test.YtfelogbfijomiacDoorAwake
namespace Go.Proofs.YtfelogbfijomiacDoor
open Go.RowKit

set_option maxRecDepth 100000 in
set_option maxHeartbeats 2000000 in
theorem nb_zn {a b : Option Addr} {na nb ca cb : Nat} {x n : Int} (w : World) (ha : Num w a na ca x 1048576) (hb : Num w b nb cb 0 1048576) (hn0 : -9223372036854775808 ≤ n) (hn1 : n < 9223372036854775808) {ev : Value} (E : Errs w 0 ev) (hneg : n < 0) :
    Calls Tryd.prog 3 #[.slice a na ca, .slice b nb cb, .int .i64 n] w fun e w' => e = .returned (.bool true) ∧ Below w.heap.size w w' := by
  have HT : Below w.heap.size w w := Below.refl _ _
  have hx0 := ha.nn
  have hts := txt_sizeN ha
  obtain ⟨N, hN, hN2⟩ : ∃ N : Nat, (-(n + 1)).tmod 2000 = (N : Int) ∧ N < 2000 := ⟨((-(n + 1)) % 2000).toNat, by rw [Int.tmod_eq_emod_of_nonneg (by omega)]; omega, by omega⟩
  go_enter Tryd.func3, Tryd.ntmps3
  go_wp2_with fail
  refine (awake_any _).mono ?_
  rintro e w1 ⟨rfl, hx⟩
  replace ha := ha.below hx
  replace hb := hb.below hx
  replace E := E.below hx
  replace HT := bel_tr HT hx
  clear hx
  go_wp2_with fail
  refine (divE _ ha hb (by omega) (by omega) E).mono ?_
  rintro e w2 ⟨rfl, hx⟩
  replace ha := ha.below hx
  replace hb := hb.below hx
  replace E := E.below hx
  replace HT := bel_tr HT hx
  clear hx
  obtain ⟨_, pp, rfl⟩ := id E
  go_wp2_with fail
  refine (bitsN _ hb (by omega)).mono ?_
  rintro e w3 ⟨t0, rfl, ht0, hx⟩
  replace ha := ha.below hx
  replace hb := hb.below hx
  replace E := E.below hx
  replace HT := bel_tr HT hx
  clear hx
  have hp : 0 < ((2 ^ (t0 - 1) : Nat) : Int) := Int.natCast_pos.2 (Nat.two_pow_pos _)
  obtain rfl : t0 = 0 := by omega
  clear ht0 hp
  go_wp2_with fail
  refine (text_any _ ha (by omega)).mono ?_
  rintro e w4 ⟨rfl, hx⟩
  replace ha := ha.below hx
  replace hb := hb.below hx
  replace E := E.below hx
  replace HT := bel_tr HT hx
  clear hx
  go_wp2_with fail
  refine (parse_txt _ _ (by omega)).mono ?_
  rintro e w5 ⟨q5, m5, d5, rfl, G5, hx⟩
  replace ha := ha.below hx
  replace hb := hb.below hx
  replace E := E.below hx
  replace HT := bel_tr HT hx
  clear hx
  go_wp2_with fail
  refine (likeV _ G5.num ha (by omega) (by omega) (Int.toNat_of_nonneg hx0)).mono ?_
  rintro e w6 ⟨rfl, hx⟩
  replace ha := ha.below hx
  replace hb := hb.below hx
  replace E := E.below hx
  replace G5 := G5.below hx
  replace HT := bel_tr HT hx
  clear hx
  clear G5
  go_wp2_with fail
  try rw [hN]
  refine (shlG N _ ha (by omega) (by omega)).mono ?_
  rintro e w7 ⟨q6, m6, d6, rfl, G6, hx⟩
  replace ha := ha.below hx
  replace hb := hb.below hx
  replace E := E.below hx
  replace HT := bel_tr HT hx
  clear hx
  go_wp2_with fail
  refine (shrG N _ G6.num (by omega) (by omega)).mono ?_
  rintro e w8 ⟨q7, m7, d7, rfl, G7, hx⟩
  replace ha := ha.below hx
  replace hb := hb.below hx
  replace E := E.below hx
  replace G6 := G6.below hx
  replace HT := bel_tr HT hx
  clear hx
  go_wp2_with fail
  refine (shrG N _ ha (by omega) (by omega)).mono ?_
  rintro e w9 ⟨q8, m8, d8, rfl, G8, hx⟩
  replace ha := ha.below hx
  replace hb := hb.below hx
  replace E := E.below hx
  replace G6 := G6.below hx
  replace G7 := G7.below hx
  replace HT := bel_tr HT hx
  clear hx
  go_wp2_with fail
  refine (shlG N _ G8.num (by omega) (by omega)).mono ?_
  rintro e w10 ⟨q9, m9, d9, rfl, G9, hx⟩
  replace ha := ha.below hx
  replace hb := hb.below hx
  replace E := E.below hx
  replace G6 := G6.below hx
  replace G7 := G7.below hx
  replace G8 := G8.below hx
  replace HT := bel_tr HT hx
  clear hx
  go_wp2_with fail
  refine (likeV _ G7.num ha (by omega) (by omega) (shift_back x N)).mono ?_
  rintro e w11 ⟨rfl, hx⟩
  replace ha := ha.below hx
  replace hb := hb.below hx
  replace E := E.below hx
  replace G6 := G6.below hx
  replace G7 := G7.below hx
  replace G8 := G8.below hx
  replace G9 := G9.below hx
  replace HT := bel_tr HT hx
  clear hx
  go_wp2_with fail
  refine (cmpN _ G9.num ha (by omega) (by omega)).mono ?_
  rintro e w12 ⟨c2, rfl, hc2, hx⟩
  replace ha := ha.below hx
  replace hb := hb.below hx
  replace E := E.below hx
  replace G6 := G6.below hx
  replace G7 := G7.below hx
  replace G8 := G8.below hx
  replace G9 := G9.below hx
  replace HT := bel_tr HT hx
  clear hx
  have hl := shift_low (x := x) N
  have hc3 : ¬ 0 < c2 := by omega
  clear hc2 hl
  clear G6 G7 G8 G9
  go_wp2_with fail
  refine (bitsN _ ha (by omega)).mono ?_
  rintro e w13 ⟨t, rfl, ht, hx⟩
  replace ha := ha.below hx
  replace hb := hb.below hx
  replace E := E.below hx
  replace HT := bel_tr HT hx
  clear hx
  by_cases htz : t = 0
  · subst htz
    obtain rfl : x = 0 := by omega
    go_wp2_with fail
    refine (likeV _ ha (Num.nil _) (by omega) (by omega) rfl).mono ?_
    rintro e wz ⟨rfl, hx⟩
    replace HT := bel_tr HT hx
    clear hx
    go_wp2
    go_ret
    exact ⟨rfl, HT⟩
  · by_cases hbig : 65536 < t
    · have hbI : (65536 : Int) < t := by omega
      have htI : (t : Int) ≠ 0 := by omega
      go_wp2
      go_ret
      exact ⟨rfl, HT⟩
    · obtain ⟨u, hut⟩ : ∃ u, t = u + 1 := ⟨t - 1, by omega⟩
      obtain ⟨-, hlo, hhi⟩ : 0 < t ∧ ((2 ^ (t - 1) : Nat) : Int) ≤ x ∧ x < ((2 ^ t : Nat) : Int) := by omega
      rw [show t - 1 = u by omega, pow_cast] at hlo
      rw [pow_cast] at hhi
      have HLO : Hid (1 * 2 ^ u ≤ x) := hlo
      have HHI : Hid (x < 1 * 2 ^ t) := hhi
      have HU : Hid (u ≤ 65536 ∧ t ≤ 65536) := ⟨by omega, by omega⟩
      have hbI : ¬ (65536 : Int) < (t : Int) := by omega
      have htI : (t : Int) ≠ 0 := by omega
      have hu : (t : Int) - 1 = (u : Int) := by omega
      clear hlo hhi ht htz hbig hut
      go_wp2_with fail
      refine (ofG 1 _ (by omega) (by omega)).mono ?_
      rintro e wa ⟨qa, ma, da, rfl, GA, hx⟩
      replace ha := ha.below hx
      replace HT := bel_tr HT hx
      clear hx
      go_wp2_with fail
      try rw [hu]
      refine (shlG u _ GA.num (by omega) HU.out.1).mono ?_
      rintro e wb ⟨qb, mb, db, rfl, GB, hx⟩
      replace ha := ha.below hx
      replace HT := bel_tr HT hx
      clear hx GA
      go_wp2_with fail
      refine (ofG 1 _ (by omega) (by omega)).mono ?_
      rintro e wc ⟨qc, mc, dc, rfl, GC, hx⟩
      replace ha := ha.below hx
      replace GB := GB.below hx
      replace HT := bel_tr HT hx
      clear hx
      go_wp2_with fail
      refine (shlG t _ GC.num (by omega) HU.out.2).mono ?_
      rintro e wd ⟨qd, md, dd, rfl, GD, hx⟩
      replace ha := ha.below hx
      replace GB := GB.below hx
      replace HT := bel_tr HT hx
      clear hx GC
      go_wp2_with fail
      refine (cmpN _ GB.num ha (by omega) (by omega)).mono ?_
      rintro e we ⟨c4, rfl, hc4, hx⟩
      have hc5 : c4 ≤ 0 := by have := HLO.out; omega
      replace ha := ha.below hx
      replace GD := GD.below hx
      replace HT := bel_tr HT hx
      clear hx hc4 GB
      go_wp2_with fail
      refine (cmpN _ ha GD.num (by omega) (by omega)).mono ?_
      rintro e wf ⟨c6, rfl, hc6, hx⟩
      have hc7 : c6 < 0 := by have := HHI.out; omega
      replace HT := bel_tr HT hx
      clear hx hc6 GD ha
      go_wp2
      go_ret
      exact ⟨by simp [*], HT⟩

set_option maxRecDepth 100000 in
set_option maxHeartbeats 2000000 in
theorem nb_zp {a b : Option Addr} {na nb ca cb : Nat} {x n : Int} (w : World) (ha : Num w a na ca x 1048576) (hb : Num w b nb cb 0 1048576) (hn0 : -9223372036854775808 ≤ n) (hn1 : n < 9223372036854775808) {ev : Value} (E : Errs w 0 ev) (hneg : ¬ n < 0) :
    Calls Tryd.prog 3 #[.slice a na ca, .slice b nb cb, .int .i64 n] w fun e w' => e = .returned (.bool true) ∧ Below w.heap.size w w' := by
  have HT : Below w.heap.size w w := Below.refl _ _
  have hx0 := ha.nn
  have hts := txt_sizeN ha
  obtain ⟨N, hN, hN2⟩ : ∃ N : Nat, (n).tmod 2000 = (N : Int) ∧ N < 2000 := ⟨((n) % 2000).toNat, by rw [Int.tmod_eq_emod_of_nonneg (by omega)]; omega, by omega⟩
  go_enter Tryd.func3, Tryd.ntmps3
  go_wp2_with fail
  refine (awake_any _).mono ?_
  rintro e w1 ⟨rfl, hx⟩
  replace ha := ha.below hx
  replace hb := hb.below hx
  replace E := E.below hx
  replace HT := bel_tr HT hx
  clear hx
  go_wp2_with fail
  refine (divE _ ha hb (by omega) (by omega) E).mono ?_
  rintro e w2 ⟨rfl, hx⟩
  replace ha := ha.below hx
  replace hb := hb.below hx
  replace E := E.below hx
  replace HT := bel_tr HT hx
  clear hx
  obtain ⟨_, pp, rfl⟩ := id E
  go_wp2_with fail
  refine (bitsN _ hb (by omega)).mono ?_
  rintro e w3 ⟨t0, rfl, ht0, hx⟩
  replace ha := ha.below hx
  replace hb := hb.below hx
  replace E := E.below hx
  replace HT := bel_tr HT hx
  clear hx
  have hp : 0 < ((2 ^ (t0 - 1) : Nat) : Int) := Int.natCast_pos.2 (Nat.two_pow_pos _)
  obtain rfl : t0 = 0 := by omega
  clear ht0 hp
  go_wp2_with fail
  refine (text_any _ ha (by omega)).mono ?_
  rintro e w4 ⟨rfl, hx⟩
  replace ha := ha.below hx
  replace hb := hb.below hx
  replace E := E.below hx
  replace HT := bel_tr HT hx
  clear hx
  go_wp2_with fail
  refine (parse_txt _ _ (by omega)).mono ?_
  rintro e w5 ⟨q5, m5, d5, rfl, G5, hx⟩
  replace ha := ha.below hx
  replace hb := hb.below hx
  replace E := E.below hx
  replace HT := bel_tr HT hx
  clear hx
  go_wp2_with fail
  refine (likeV _ G5.num ha (by omega) (by omega) (Int.toNat_of_nonneg hx0)).mono ?_
  rintro e w6 ⟨rfl, hx⟩
  replace ha := ha.below hx
  replace hb := hb.below hx
  replace E := E.below hx
  replace G5 := G5.below hx
  replace HT := bel_tr HT hx
  clear hx
  clear G5
  go_wp2_with fail
  try rw [hN]
  refine (shlG N _ ha (by omega) (by omega)).mono ?_
  rintro e w7 ⟨q6, m6, d6, rfl, G6, hx⟩
  replace ha := ha.below hx
  replace hb := hb.below hx
  replace E := E.below hx
  replace HT := bel_tr HT hx
  clear hx
  go_wp2_with fail
  refine (shrG N _ G6.num (by omega) (by omega)).mono ?_
  rintro e w8 ⟨q7, m7, d7, rfl, G7, hx⟩
  replace ha := ha.below hx
  replace hb := hb.below hx
  replace E := E.below hx
  replace G6 := G6.below hx
  replace HT := bel_tr HT hx
  clear hx
  go_wp2_with fail
  refine (shrG N _ ha (by omega) (by omega)).mono ?_
  rintro e w9 ⟨q8, m8, d8, rfl, G8, hx⟩
  replace ha := ha.below hx
  replace hb := hb.below hx
  replace E := E.below hx
  replace G6 := G6.below hx
  replace G7 := G7.below hx
  replace HT := bel_tr HT hx
  clear hx
  go_wp2_with fail
  refine (shlG N _ G8.num (by omega) (by omega)).mono ?_
  rintro e w10 ⟨q9, m9, d9, rfl, G9, hx⟩
  replace ha := ha.below hx
  replace hb := hb.below hx
  replace E := E.below hx
  replace G6 := G6.below hx
  replace G7 := G7.below hx
  replace G8 := G8.below hx
  replace HT := bel_tr HT hx
  clear hx
  go_wp2_with fail
  refine (likeV _ G7.num ha (by omega) (by omega) (shift_back x N)).mono ?_
  rintro e w11 ⟨rfl, hx⟩
  replace ha := ha.below hx
  replace hb := hb.below hx
  replace E := E.below hx
  replace G6 := G6.below hx
  replace G7 := G7.below hx
  replace G8 := G8.below hx
  replace G9 := G9.below hx
  replace HT := bel_tr HT hx
  clear hx
  go_wp2_with fail
  refine (cmpN _ G9.num ha (by omega) (by omega)).mono ?_
  rintro e w12 ⟨c2, rfl, hc2, hx⟩
  replace ha := ha.below hx
  replace hb := hb.below hx
  replace E := E.below hx
  replace G6 := G6.below hx
  replace G7 := G7.below hx
  replace G8 := G8.below hx
  replace G9 := G9.below hx
  replace HT := bel_tr HT hx
  clear hx
  have hl := shift_low (x := x) N
  have hc3 : ¬ 0 < c2 := by omega
  clear hc2 hl
  clear G6 G7 G8 G9
  go_wp2_with fail
  refine (bitsN _ ha (by omega)).mono ?_
  rintro e w13 ⟨t, rfl, ht, hx⟩
  replace ha := ha.below hx
  replace hb := hb.below hx
  replace E := E.below hx
  replace HT := bel_tr HT hx
  clear hx
  by_cases htz : t = 0
  · subst htz
    obtain rfl : x = 0 := by omega
    go_wp2_with fail
    refine (likeV _ ha (Num.nil _) (by omega) (by omega) rfl).mono ?_
    rintro e wz ⟨rfl, hx⟩
    replace HT := bel_tr HT hx
    clear hx
    go_wp2
    go_ret
    exact ⟨rfl, HT⟩
  · by_cases hbig : 65536 < t
    · have hbI : (65536 : Int) < t := by omega
      have htI : (t : Int) ≠ 0 := by omega
      go_wp2
      go_ret
      exact ⟨rfl, HT⟩
    · obtain ⟨u, hut⟩ : ∃ u, t = u + 1 := ⟨t - 1, by omega⟩
      obtain ⟨-, hlo, hhi⟩ : 0 < t ∧ ((2 ^ (t - 1) : Nat) : Int) ≤ x ∧ x < ((2 ^ t : Nat) : Int) := by omega
      rw [show t - 1 = u by omega, pow_cast] at hlo
      rw [pow_cast] at hhi
      have HLO : Hid (1 * 2 ^ u ≤ x) := hlo
      have HHI : Hid (x < 1 * 2 ^ t) := hhi
      have HU : Hid (u ≤ 65536 ∧ t ≤ 65536) := ⟨by omega, by omega⟩
      have hbI : ¬ (65536 : Int) < (t : Int) := by omega
      have htI : (t : Int) ≠ 0 := by omega
      have hu : (t : Int) - 1 = (u : Int) := by omega
      clear hlo hhi ht htz hbig hut
      go_wp2_with fail
      refine (ofG 1 _ (by omega) (by omega)).mono ?_
      rintro e wa ⟨qa, ma, da, rfl, GA, hx⟩
      replace ha := ha.below hx
      replace HT := bel_tr HT hx
      clear hx
      go_wp2_with fail
      try rw [hu]
      refine (shlG u _ GA.num (by omega) HU.out.1).mono ?_
      rintro e wb ⟨qb, mb, db, rfl, GB, hx⟩
      replace ha := ha.below hx
      replace HT := bel_tr HT hx
      clear hx GA
      go_wp2_with fail
      refine (ofG 1 _ (by omega) (by omega)).mono ?_
      rintro e wc ⟨qc, mc, dc, rfl, GC, hx⟩
      replace ha := ha.below hx
      replace GB := GB.below hx
      replace HT := bel_tr HT hx
      clear hx
      go_wp2_with fail
      refine (shlG t _ GC.num (by omega) HU.out.2).mono ?_
      rintro e wd ⟨qd, md, dd, rfl, GD, hx⟩
      replace ha := ha.below hx
      replace GB := GB.below hx
      replace HT := bel_tr HT hx
      clear hx GC
      go_wp2_with fail
      refine (cmpN _ GB.num ha (by omega) (by omega)).mono ?_
      rintro e we ⟨c4, rfl, hc4, hx⟩
      have hc5 : c4 ≤ 0 := by have := HLO.out; omega
      replace ha := ha.below hx
      replace GD := GD.below hx
      replace HT := bel_tr HT hx
      clear hx hc4 GB
      go_wp2_with fail
      refine (cmpN _ ha GD.num (by omega) (by omega)).mono ?_
      rintro e wf ⟨c6, rfl, hc6, hx⟩
      have hc7 : c6 < 0 := by have := HHI.out; omega
      replace HT := bel_tr HT hx
      clear hx hc6 GD ha
      go_wp2
      go_ret
      exact ⟨by simp [*], HT⟩

set_option maxRecDepth 100000 in
set_option maxHeartbeats 2000000 in
theorem nb_pn {a b : Option Addr} {na nb ca cb : Nat} {x y n : Int} (w : World) (ha : Num w a na ca x 1048576) (hb : Num w b nb cb y 1048576) (hn0 : -9223372036854775808 ≤ n) (hn1 : n < 9223372036854775808) (hy : 0 < y) (hneg : n < 0) :
    Calls Tryd.prog 3 #[.slice a na ca, .slice b nb cb, .int .i64 n] w fun e w' => e = .returned (.bool true) ∧ Below w.heap.size w w' := by
  have HT : Below w.heap.size w w := Below.refl _ _
  have hx0 := ha.nn
  have hts := txt_sizeN ha
  obtain ⟨N, hN, hN2⟩ : ∃ N : Nat, (-(n + 1)).tmod 2000 = (N : Int) ∧ N < 2000 := ⟨((-(n + 1)) % 2000).toNat, by rw [Int.tmod_eq_emod_of_nonneg (by omega)]; omega, by omega⟩
  go_enter Tryd.func3, Tryd.ntmps3
  go_wp2_with fail
  refine (awake_any _).mono ?_
  rintro e w1 ⟨rfl, hx⟩
  replace ha := ha.below hx
  replace hb := hb.below hx
  replace HT := bel_tr HT hx
  clear hx
  go_wp2_with fail
  refine (divG _ ha hb (by omega) (by omega) hy).mono ?_
  rintro e w2 ⟨q1, m1, d1, q2, m2, d2, rfl, G1, G2, -, hx⟩
  replace ha := ha.below hx
  replace hb := hb.below hx
  replace HT := bel_tr HT hx
  clear hx
  go_wp2_with fail
  refine (bitsN _ hb (by omega)).mono ?_
  rintro e w3 ⟨t0, rfl, ht0, hx⟩
  replace ha := ha.below hx
  replace hb := hb.below hx
  replace G1 := G1.below hx
  replace G2 := G2.below hx
  replace HT := bel_tr HT hx
  clear hx
  have ht1 : t0 ≠ 0 := by omega
  clear ht0
  go_wp2_with fail
  refine (mulG _ hb G1.num (by omega) (by omega)).mono ?_
  rintro e w4 ⟨q3, m3, d3, rfl, G3, hx⟩
  replace ha := ha.below hx
  replace hb := hb.below hx
  replace G1 := G1.below hx
  replace G2 := G2.below hx
  replace HT := bel_tr HT hx
  clear hx
  go_wp2_with fail
  refine (addG _ G3.num G2.num (by omega) (by omega)).mono ?_
  rintro e w5 ⟨q4, m4, d4, rfl, G4, hx⟩
  replace ha := ha.below hx
  replace hb := hb.below hx
  replace G1 := G1.below hx
  replace G2 := G2.below hx
  replace G3 := G3.below hx
  replace HT := bel_tr HT hx
  clear hx
  go_wp2_with fail
  refine (likeV _ G4.num ha (by omega) (by omega) (Int.mul_ediv_add_emod x y)).mono ?_
  rintro e w6 ⟨rfl, hx⟩
  replace ha := ha.below hx
  replace hb := hb.below hx
  replace G1 := G1.below hx
  replace G2 := G2.below hx
  replace G3 := G3.below hx
  replace G4 := G4.below hx
  replace HT := bel_tr HT hx
  clear hx
  go_wp2_with fail
  refine (cmpN _ G2.num hb (by omega) (by omega)).mono ?_
  rintro e w7 ⟨c1, rfl, hc1, hx⟩
  replace ha := ha.below hx
  replace hb := hb.below hx
  replace G1 := G1.below hx
  replace G2 := G2.below hx
  replace G3 := G3.below hx
  replace G4 := G4.below hx
  replace HT := bel_tr HT hx
  clear hx
  have hr : x % y < y := Int.emod_lt_of_pos x hy
  obtain rfl : c1 = -1 := by omega
  clear hc1 hr
  clear G1 G2 G3 G4
  go_wp2_with fail
  refine (text_any _ ha (by omega)).mono ?_
  rintro e w8 ⟨rfl, hx⟩
  replace ha := ha.below hx
  replace hb := hb.below hx
  replace HT := bel_tr HT hx
  clear hx
  go_wp2_with fail
  refine (parse_txt _ _ (by omega)).mono ?_
  rintro e w9 ⟨q5, m5, d5, rfl, G5, hx⟩
  replace ha := ha.below hx
  replace hb := hb.below hx
  replace HT := bel_tr HT hx
  clear hx
  go_wp2_with fail
  refine (likeV _ G5.num ha (by omega) (by omega) (Int.toNat_of_nonneg hx0)).mono ?_
  rintro e w10 ⟨rfl, hx⟩
  replace ha := ha.below hx
  replace hb := hb.below hx
  replace G5 := G5.below hx
  replace HT := bel_tr HT hx
  clear hx
  clear G5
  go_wp2_with fail
  try rw [hN]
  refine (shlG N _ ha (by omega) (by omega)).mono ?_
  rintro e w11 ⟨q6, m6, d6, rfl, G6, hx⟩
  replace ha := ha.below hx
  replace hb := hb.below hx
  replace HT := bel_tr HT hx
  clear hx
  go_wp2_with fail
  refine (shrG N _ G6.num (by omega) (by omega)).mono ?_
  rintro e w12 ⟨q7, m7, d7, rfl, G7, hx⟩
  replace ha := ha.below hx
  replace hb := hb.below hx
  replace G6 := G6.below hx
  replace HT := bel_tr HT hx
  clear hx
  go_wp2_with fail
  refine (shrG N _ ha (by omega) (by omega)).mono ?_
  rintro e w13 ⟨q8, m8, d8, rfl, G8, hx⟩
  replace ha := ha.below hx
  replace hb := hb.below hx
  replace G6 := G6.below hx
  replace G7 := G7.below hx
  replace HT := bel_tr HT hx
  clear hx
  go_wp2_with fail
  refine (shlG N _ G8.num (by omega) (by omega)).mono ?_
  rintro e w14 ⟨q9, m9, d9, rfl, G9, hx⟩
  replace ha := ha.below hx
  replace hb := hb.below hx
  replace G6 := G6.below hx
  replace G7 := G7.below hx
  replace G8 := G8.below hx
  replace HT := bel_tr HT hx
  clear hx
  go_wp2_with fail
  refine (likeV _ G7.num ha (by omega) (by omega) (shift_back x N)).mono ?_
  rintro e w15 ⟨rfl, hx⟩
  replace ha := ha.below hx
  replace hb := hb.below hx
  replace G6 := G6.below hx
  replace G7 := G7.below hx
  replace G8 := G8.below hx
  replace G9 := G9.below hx
  replace HT := bel_tr HT hx
  clear hx
  go_wp2_with fail
  refine (cmpN _ G9.num ha (by omega) (by omega)).mono ?_
  rintro e w16 ⟨c2, rfl, hc2, hx⟩
  replace ha := ha.below hx
  replace hb := hb.below hx
  replace G6 := G6.below hx
  replace G7 := G7.below hx
  replace G8 := G8.below hx
  replace G9 := G9.below hx
  replace HT := bel_tr HT hx
  clear hx
  have hl := shift_low (x := x) N
  have hc3 : ¬ 0 < c2 := by omega
  clear hc2 hl
  clear G6 G7 G8 G9
  go_wp2_with fail
  refine (bitsN _ ha (by omega)).mono ?_
  rintro e w17 ⟨t, rfl, ht, hx⟩
  replace ha := ha.below hx
  replace hb := hb.below hx
  replace HT := bel_tr HT hx
  clear hx
  by_cases htz : t = 0
  · subst htz
    obtain rfl : x = 0 := by omega
    go_wp2_with fail
    refine (likeV _ ha (Num.nil _) (by omega) (by omega) rfl).mono ?_
    rintro e wz ⟨rfl, hx⟩
    replace HT := bel_tr HT hx
    clear hx
    go_wp2
    go_ret
    exact ⟨rfl, HT⟩
  · by_cases hbig : 65536 < t
    · have hbI : (65536 : Int) < t := by omega
      have htI : (t : Int) ≠ 0 := by omega
      go_wp2
      go_ret
      exact ⟨rfl, HT⟩
    · obtain ⟨u, hut⟩ : ∃ u, t = u + 1 := ⟨t - 1, by omega⟩
      obtain ⟨-, hlo, hhi⟩ : 0 < t ∧ ((2 ^ (t - 1) : Nat) : Int) ≤ x ∧ x < ((2 ^ t : Nat) : Int) := by omega
      rw [show t - 1 = u by omega, pow_cast] at hlo
      rw [pow_cast] at hhi
      have HLO : Hid (1 * 2 ^ u ≤ x) := hlo
      have HHI : Hid (x < 1 * 2 ^ t) := hhi
      have HU : Hid (u ≤ 65536 ∧ t ≤ 65536) := ⟨by omega, by omega⟩
      have hbI : ¬ (65536 : Int) < (t : Int) := by omega
      have htI : (t : Int) ≠ 0 := by omega
      have hu : (t : Int) - 1 = (u : Int) := by omega
      clear hlo hhi ht htz hbig hut
      go_wp2_with fail
      refine (ofG 1 _ (by omega) (by omega)).mono ?_
      rintro e wa ⟨qa, ma, da, rfl, GA, hx⟩
      replace ha := ha.below hx
      replace HT := bel_tr HT hx
      clear hx
      go_wp2_with fail
      try rw [hu]
      refine (shlG u _ GA.num (by omega) HU.out.1).mono ?_
      rintro e wb ⟨qb, mb, db, rfl, GB, hx⟩
      replace ha := ha.below hx
      replace HT := bel_tr HT hx
      clear hx GA
      go_wp2_with fail
      refine (ofG 1 _ (by omega) (by omega)).mono ?_
      rintro e wc ⟨qc, mc, dc, rfl, GC, hx⟩
      replace ha := ha.below hx
      replace GB := GB.below hx
      replace HT := bel_tr HT hx
      clear hx
      go_wp2_with fail
      refine (shlG t _ GC.num (by omega) HU.out.2).mono ?_
      rintro e wd ⟨qd, md, dd, rfl, GD, hx⟩
      replace ha := ha.below hx
      replace GB := GB.below hx
      replace HT := bel_tr HT hx
      clear hx GC
      go_wp2_with fail
      refine (cmpN _ GB.num ha (by omega) (by omega)).mono ?_
      rintro e we ⟨c4, rfl, hc4, hx⟩
      have hc5 : c4 ≤ 0 := by have := HLO.out; omega
      replace ha := ha.below hx
      replace GD := GD.below hx
      replace HT := bel_tr HT hx
      clear hx hc4 GB
      go_wp2_with fail
      refine (cmpN _ ha GD.num (by omega) (by omega)).mono ?_
      rintro e wf ⟨c6, rfl, hc6, hx⟩
      have hc7 : c6 < 0 := by have := HHI.out; omega
      replace HT := bel_tr HT hx
      clear hx hc6 GD ha
      go_wp2
      go_ret
      exact ⟨by simp [*], HT⟩

set_option maxRecDepth 100000 in
set_option maxHeartbeats 2000000 in
theorem nb_pp {a b : Option Addr} {na nb ca cb : Nat} {x y n : Int} (w : World) (ha : Num w a na ca x 1048576) (hb : Num w b nb cb y 1048576) (hn0 : -9223372036854775808 ≤ n) (hn1 : n < 9223372036854775808) (hy : 0 < y) (hneg : ¬ n < 0) :
    Calls Tryd.prog 3 #[.slice a na ca, .slice b nb cb, .int .i64 n] w fun e w' => e = .returned (.bool true) ∧ Below w.heap.size w w' := by
  have HT : Below w.heap.size w w := Below.refl _ _
  have hx0 := ha.nn
  have hts := txt_sizeN ha
  obtain ⟨N, hN, hN2⟩ : ∃ N : Nat, (n).tmod 2000 = (N : Int) ∧ N < 2000 := ⟨((n) % 2000).toNat, by rw [Int.tmod_eq_emod_of_nonneg (by omega)]; omega, by omega⟩
  go_enter Tryd.func3, Tryd.ntmps3
  go_wp2_with fail
  refine (awake_any _).mono ?_
  rintro e w1 ⟨rfl, hx⟩
  replace ha := ha.below hx
  replace hb := hb.below hx
  replace HT := bel_tr HT hx
  clear hx
  go_wp2_with fail
  refine (divG _ ha hb (by omega) (by omega) hy).mono ?_
  rintro e w2 ⟨q1, m1, d1, q2, m2, d2, rfl, G1, G2, -, hx⟩
  replace ha := ha.below hx
  replace hb := hb.below hx
  replace HT := bel_tr HT hx
  clear hx
  go_wp2_with fail
  refine (bitsN _ hb (by omega)).mono ?_
  rintro e w3 ⟨t0, rfl, ht0, hx⟩
  replace ha := ha.below hx
  replace hb := hb.below hx
  replace G1 := G1.below hx
  replace G2 := G2.below hx
  replace HT := bel_tr HT hx
  clear hx
  have ht1 : t0 ≠ 0 := by omega
  clear ht0
  go_wp2_with fail
  refine (mulG _ hb G1.num (by omega) (by omega)).mono ?_
  rintro e w4 ⟨q3, m3, d3, rfl, G3, hx⟩
  replace ha := ha.below hx
  replace hb := hb.below hx
  replace G1 := G1.below hx
  replace G2 := G2.below hx
  replace HT := bel_tr HT hx
  clear hx
  go_wp2_with fail
  refine (addG _ G3.num G2.num (by omega) (by omega)).mono ?_
  rintro e w5 ⟨q4, m4, d4, rfl, G4, hx⟩
  replace ha := ha.below hx
  replace hb := hb.below hx
  replace G1 := G1.below hx
  replace G2 := G2.below hx
  replace G3 := G3.below hx
  replace HT := bel_tr HT hx
  clear hx
  go_wp2_with fail
  refine (likeV _ G4.num ha (by omega) (by omega) (Int.mul_ediv_add_emod x y)).mono ?_
  rintro e w6 ⟨rfl, hx⟩
  replace ha := ha.below hx
  replace hb := hb.below hx
  replace G1 := G1.below hx
  replace G2 := G2.below hx
  replace G3 := G3.below hx
  replace G4 := G4.below hx
  replace HT := bel_tr HT hx
  clear hx
  go_wp2_with fail
  refine (cmpN _ G2.num hb (by omega) (by omega)).mono ?_
  rintro e w7 ⟨c1, rfl, hc1, hx⟩
  replace ha := ha.below hx
  replace hb := hb.below hx
  replace G1 := G1.below hx
  replace G2 := G2.below hx
  replace G3 := G3.below hx
  replace G4 := G4.below hx
  replace HT := bel_tr HT hx
  clear hx
  have hr : x % y < y := Int.emod_lt_of_pos x hy
  obtain rfl : c1 = -1 := by omega
  clear hc1 hr
  clear G1 G2 G3 G4
  go_wp2_with fail
  refine (text_any _ ha (by omega)).mono ?_
  rintro e w8 ⟨rfl, hx⟩
  replace ha := ha.below hx
  replace hb := hb.below hx
  replace HT := bel_tr HT hx
  clear hx
  go_wp2_with fail
  refine (parse_txt _ _ (by omega)).mono ?_
  rintro e w9 ⟨q5, m5, d5, rfl, G5, hx⟩
  replace ha := ha.below hx
  replace hb := hb.below hx
  replace HT := bel_tr HT hx
  clear hx
  go_wp2_with fail
  refine (likeV _ G5.num ha (by omega) (by omega) (Int.toNat_of_nonneg hx0)).mono ?_
  rintro e w10 ⟨rfl, hx⟩
  replace ha := ha.below hx
  replace hb := hb.below hx
  replace G5 := G5.below hx
  replace HT := bel_tr HT hx
  clear hx
  clear G5
  go_wp2_with fail
  try rw [hN]
  refine (shlG N _ ha (by omega) (by omega)).mono ?_
  rintro e w11 ⟨q6, m6, d6, rfl, G6, hx⟩
  replace ha := ha.below hx
  replace hb := hb.below hx
  replace HT := bel_tr HT hx
  clear hx
  go_wp2_with fail
  refine (shrG N _ G6.num (by omega) (by omega)).mono ?_
  rintro e w12 ⟨q7, m7, d7, rfl, G7, hx⟩
  replace ha := ha.below hx
  replace hb := hb.below hx
  replace G6 := G6.below hx
  replace HT := bel_tr HT hx
  clear hx
  go_wp2_with fail
  refine (shrG N _ ha (by omega) (by omega)).mono ?_
  rintro e w13 ⟨q8, m8, d8, rfl, G8, hx⟩
  replace ha := ha.below hx
  replace hb := hb.below hx
  replace G6 := G6.below hx
  replace G7 := G7.below hx
  replace HT := bel_tr HT hx
  clear hx
  go_wp2_with fail
  refine (shlG N _ G8.num (by omega) (by omega)).mono ?_
  rintro e w14 ⟨q9, m9, d9, rfl, G9, hx⟩
  replace ha := ha.below hx
  replace hb := hb.below hx
  replace G6 := G6.below hx
  replace G7 := G7.below hx
  replace G8 := G8.below hx
  replace HT := bel_tr HT hx
  clear hx
  go_wp2_with fail
  refine (likeV _ G7.num ha (by omega) (by omega) (shift_back x N)).mono ?_
  rintro e w15 ⟨rfl, hx⟩
  replace ha := ha.below hx
  replace hb := hb.below hx
  replace G6 := G6.below hx
  replace G7 := G7.below hx
  replace G8 := G8.below hx
  replace G9 := G9.below hx
  replace HT := bel_tr HT hx
  clear hx
  go_wp2_with fail
  refine (cmpN _ G9.num ha (by omega) (by omega)).mono ?_
  rintro e w16 ⟨c2, rfl, hc2, hx⟩
  replace ha := ha.below hx
  replace hb := hb.below hx
  replace G6 := G6.below hx
  replace G7 := G7.below hx
  replace G8 := G8.below hx
  replace G9 := G9.below hx
  replace HT := bel_tr HT hx
  clear hx
  have hl := shift_low (x := x) N
  have hc3 : ¬ 0 < c2 := by omega
  clear hc2 hl
  clear G6 G7 G8 G9
  go_wp2_with fail
  refine (bitsN _ ha (by omega)).mono ?_
  rintro e w17 ⟨t, rfl, ht, hx⟩
  replace ha := ha.below hx
  replace hb := hb.below hx
  replace HT := bel_tr HT hx
  clear hx
  by_cases htz : t = 0
  · subst htz
    obtain rfl : x = 0 := by omega
    go_wp2_with fail
    refine (likeV _ ha (Num.nil _) (by omega) (by omega) rfl).mono ?_
    rintro e wz ⟨rfl, hx⟩
    replace HT := bel_tr HT hx
    clear hx
    go_wp2
    go_ret
    exact ⟨rfl, HT⟩
  · by_cases hbig : 65536 < t
    · have hbI : (65536 : Int) < t := by omega
      have htI : (t : Int) ≠ 0 := by omega
      go_wp2
      go_ret
      exact ⟨rfl, HT⟩
    · obtain ⟨u, hut⟩ : ∃ u, t = u + 1 := ⟨t - 1, by omega⟩
      obtain ⟨-, hlo, hhi⟩ : 0 < t ∧ ((2 ^ (t - 1) : Nat) : Int) ≤ x ∧ x < ((2 ^ t : Nat) : Int) := by omega
      rw [show t - 1 = u by omega, pow_cast] at hlo
      rw [pow_cast] at hhi
      have HLO : Hid (1 * 2 ^ u ≤ x) := hlo
      have HHI : Hid (x < 1 * 2 ^ t) := hhi
      have HU : Hid (u ≤ 65536 ∧ t ≤ 65536) := ⟨by omega, by omega⟩
      have hbI : ¬ (65536 : Int) < (t : Int) := by omega
      have htI : (t : Int) ≠ 0 := by omega
      have hu : (t : Int) - 1 = (u : Int) := by omega
      clear hlo hhi ht htz hbig hut
      go_wp2_with fail
      refine (ofG 1 _ (by omega) (by omega)).mono ?_
      rintro e wa ⟨qa, ma, da, rfl, GA, hx⟩
      replace ha := ha.below hx
      replace HT := bel_tr HT hx
      clear hx
      go_wp2_with fail
      try rw [hu]
      refine (shlG u _ GA.num (by omega) HU.out.1).mono ?_
      rintro e wb ⟨qb, mb, db, rfl, GB, hx⟩
      replace ha := ha.below hx
      replace HT := bel_tr HT hx
      clear hx GA
      go_wp2_with fail
      refine (ofG 1 _ (by omega) (by omega)).mono ?_
      rintro e wc ⟨qc, mc, dc, rfl, GC, hx⟩
      replace ha := ha.below hx
      replace GB := GB.below hx
      replace HT := bel_tr HT hx
      clear hx
      go_wp2_with fail
      refine (shlG t _ GC.num (by omega) HU.out.2).mono ?_
      rintro e wd ⟨qd, md, dd, rfl, GD, hx⟩
      replace ha := ha.below hx
      replace GB := GB.below hx
      replace HT := bel_tr HT hx
      clear hx GC
      go_wp2_with fail
      refine (cmpN _ GB.num ha (by omega) (by omega)).mono ?_
      rintro e we ⟨c4, rfl, hc4, hx⟩
      have hc5 : c4 ≤ 0 := by have := HLO.out; omega
      replace ha := ha.below hx
      replace GD := GD.below hx
      replace HT := bel_tr HT hx
      clear hx hc4 GB
      go_wp2_with fail
      refine (cmpN _ ha GD.num (by omega) (by omega)).mono ?_
      rintro e wf ⟨c6, rfl, hc6, hx⟩
      have hc7 : c6 < 0 := by have := HHI.out; omega
      replace HT := bel_tr HT hx
      clear hx hc6 GD ha
      go_wp2
      go_ret
      exact ⟨by simp [*], HT⟩

theorem nback_walk {a b : Option Addr} {na nb ca cb : Nat} {x y n : Int} (w : World) (ha : Num w a na ca x 1048576) (hb : Num w b nb cb y 1048576) (hn0 : -9223372036854775808 ≤ n) (hn1 : n < 9223372036854775808) {ev : Value} (E : Errs w 0 ev) :
    Calls Tryd.prog 3 #[.slice a na ca, .slice b nb cb, .int .i64 n] w fun e w' => e = .returned (.bool true) ∧ Below w.heap.size w w' := by
  have h0 := hb.nn
  by_cases hn : n < 0
  · rcases (by omega : y = 0 ∨ 0 < y) with rfl | hy
    · exact nb_zn w ha hb hn0 hn1 E hn
    · exact nb_pn w ha hb hn0 hn1 hy hn
  · rcases (by omega : y = 0 ∨ 0 < y) with rfl | hy
    · exact nb_zp w ha hb hn0 hn1 E hn
    · exact nb_pp w ha hb hn0 hn1 hy hn
end Go.Proofs.YtfelogbfijomiacDoor

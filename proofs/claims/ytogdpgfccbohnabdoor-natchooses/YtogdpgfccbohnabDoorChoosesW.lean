import Derived.Test.YtogdpgfccbohnabDoorRefChoose2
import Derived.Test.YtogdpgfccbohnabDoorRefE
namespace Go.Proofs.YtogdpgfccbohnabDoor
open Go.RowKit

theorem Got.pos {w : World} {B : Nat} {a : Option Addr} {n cap : Nat} {x : Int} {S : Nat} (h : Got w B (.slice a n cap) x S) (hx : 0 < x) : 0 < n := by
  obtain ⟨xs, h1, h2, h3, h4⟩ := h
  have := h1.reads.1
  rcases Nat.eq_zero_or_pos n with h5 | h5
  · rw [List.eq_nil_of_length_eq_zero (by omega : xs.length = 0)] at h3
    simp [Go.Proofs.YtogdpgfccbohnabDoor.val, vS] at h3; omega
  · exact h5
theorem Num.le {w : World} {a : Option Addr} {n cap : Nat} {x : Int} {S R : Nat} (h : Num w a n cap x S) (hS : S ≤ R) : Num w a n cap x R := by
  obtain ⟨xs, h1, h2, h3, h4, h5, h6⟩ := h
  exact ⟨xs, h1, h2, h3, h4, h5, by omega⟩
theorem rofG (v : Int) (w : World) (h0 : 0 ≤ v) (h1 : v < 18446744073709551616) :
    Calls Tryd.prog 25 #[.int .u64 v] w fun e w' => ∃ c n cc, e = .returned (.slice c n cc) ∧ Got w' w.heap.size (.slice c n cc) v 1 ∧ Below w.heap.size w w' := by
  refine (rof_any v w h0 h1).mono ?_
  rintro e w' ⟨c, cc, rfl, ho, hb⟩
  have t1 : tlen [v] ≤ 1 := tl_le _ _
  have ev : val [v] = v := by simp [val, vS, lm, pw]
  exact ⟨c, _, cc, rfl, ⟨trimL [v], ho, NF.trimL (fun x hx => by simp at hx; subst hx; exact ⟨h0, h1⟩), by rw [val_trimL]; exact ev, by rw [length_trimL]; exact t1⟩, hb⟩
theorem chooseI2 (nI kI : Int) (n k : Nat) (w : World) (e1 : nI = n) (e2 : kI = k) (hn : n ≤ 4096) (hk : k ≤ n) :
    Calls Tryd.prog 22 #[.int .i64 nI, .int .i64 kI] w fun e w' => ∃ a m cap, e = .returned (.tuple #[.slice a m cap, .nilIface]) ∧ Got w' w.heap.size (.slice a m cap) (chs n k) 5000 ∧ Below w.heap.size w w' := by
  subst e1 e2; exact choose_anyG n k w hn hk

set_option maxRecDepth 100000 in
set_option maxHeartbeats 1000000 in
theorem chooses_A1 (n k : Int) (w : World) (ev fv : Value) (hn : n < 0) (E : Errs w 0 ev) (F : Errs w 1 fv) :
    Calls Tryd.prog 5 #[.int .i64 n, .int .i64 k] w fun e w' => e = .returned (.bool true) ∧ Below w.heap.size w w' := by
  have HT : Below w.heap.size w w := Below.refl _ _
  go_enter Tryd.func5, Tryd.ntmps5
  go_wp2_with fail
  refine (awake_any _).mono ?_
  rintro e w1 ⟨rfl, hb⟩
  replace E := E.below hb
  replace F := F.below hb
  have hs1 := hb.size
  replace HT := bel_tr HT hb
  clear hb
  go_wp2_with fail
  refine (chooseArg1 n k ev _ hn E).mono ?_
  rintro e w2 ⟨rfl, hb⟩
  replace E := E.below hb
  replace F := F.below hb
  have hs2 := hb.size
  replace HT := bel_tr HT hb
  clear hb
  have hE := E.1
  go_wp2_with fail
  refine (refusedE _ E).mono ?_
  rintro e wsame ⟨rfl, rfl⟩
  clear hE E F
  go_wp2
  go_ret
  exact ⟨rfl, HT⟩

set_option maxRecDepth 100000 in
set_option maxHeartbeats 1000000 in
theorem chooses_A2 (n k : Int) (w : World) (ev fv : Value) (hn : 0 ≤ n) (hk : k < 0) (E : Errs w 0 ev) (F : Errs w 1 fv) :
    Calls Tryd.prog 5 #[.int .i64 n, .int .i64 k] w fun e w' => e = .returned (.bool true) ∧ Below w.heap.size w w' := by
  have HT : Below w.heap.size w w := Below.refl _ _
  go_enter Tryd.func5, Tryd.ntmps5
  go_wp2_with fail
  refine (awake_any _).mono ?_
  rintro e w1 ⟨rfl, hb⟩
  replace E := E.below hb
  replace F := F.below hb
  have hs1 := hb.size
  replace HT := bel_tr HT hb
  clear hb
  go_wp2_with fail
  refine (chooseArg2 n k ev _ hn hk E).mono ?_
  rintro e w2 ⟨rfl, hb⟩
  replace E := E.below hb
  replace F := F.below hb
  have hs2 := hb.size
  replace HT := bel_tr HT hb
  clear hb
  have hE := E.1
  go_wp2_with fail
  refine (refusedE _ E).mono ?_
  rintro e wsame ⟨rfl, rfl⟩
  clear hE E F
  go_wp2
  go_ret
  exact ⟨rfl, HT⟩

set_option maxRecDepth 100000 in
set_option maxHeartbeats 1000000 in
theorem chooses_B (n k : Int) (w : World) (ev fv : Value) (hn : 4096 < n) (hk : 0 ≤ k) (E : Errs w 0 ev) (F : Errs w 1 fv) :
    Calls Tryd.prog 5 #[.int .i64 n, .int .i64 k] w fun e w' => e = .returned (.bool true) ∧ Below w.heap.size w w' := by
  have HT : Below w.heap.size w w := Below.refl _ _
  go_enter Tryd.func5, Tryd.ntmps5
  go_wp2_with fail
  refine (awake_any _).mono ?_
  rintro e w1 ⟨rfl, hb⟩
  replace E := E.below hb
  replace F := F.below hb
  have hs1 := hb.size
  replace HT := bel_tr HT hb
  clear hb
  go_wp2_with fail
  refine (chooseLong n k fv _ hn hk F).mono ?_
  rintro e w2 ⟨rfl, hb⟩
  replace E := E.below hb
  replace F := F.below hb
  have hs2 := hb.size
  replace HT := bel_tr HT hb
  clear hb
  have hE := F.1
  go_wp2_with fail
  refine (refusedE _ F).mono ?_
  rintro e wsame ⟨rfl, rfl⟩
  clear hE E F
  go_wp2
  go_ret
  exact ⟨rfl, HT⟩

set_option maxRecDepth 100000 in
set_option maxHeartbeats 1000000 in
theorem chooses_C (n k : Nat) (w : World) (ev fv : Value) (hn : n ≤ 4096) (hk : n < k) (hk2 : k < 9223372036854775808) (E : Errs w 0 ev) (F : Errs w 1 fv) :
    Calls Tryd.prog 5 #[.int .i64 n, .int .i64 k] w fun e w' => e = .returned (.bool true) ∧ Below w.heap.size w w' := by
  have HT : Below w.heap.size w w := Below.refl _ _
  go_enter Tryd.func5, Tryd.ntmps5
  go_wp2_with fail
  refine (awake_any _).mono ?_
  rintro e w1 ⟨rfl, hb⟩
  replace E := E.below hb
  replace F := F.below hb
  have hs1 := hb.size
  replace HT := bel_tr HT hb
  clear hb
  go_wp2_with fail
  refine (choose_gtG n k _ hn hk hk2).mono ?_
  rintro e w2 ⟨rfl, hb⟩
  replace E := E.below hb
  replace F := F.below hb
  have hs2 := hb.size
  replace HT := bel_tr HT hb
  clear hb
  have GN := Got.nil w2 0
  have hkn : (n : Int) < (k : Int) := by omega
  clear E F
  go_wp2_with fail
  refine (isG _ GN GN rfl (by omega)).mono ?_
  rintro e w3 ⟨rfl, hb⟩
  replace GN := GN.below hb
  have hs3 := hb.size
  replace HT := bel_tr HT hb
  clear hb
  clear GN
  go_wp2
  go_ret
  exact ⟨rfl, HT⟩

set_option maxRecDepth 100000 in
set_option maxHeartbeats 1000000 in
theorem chooses_D (n k : Nat) (w : World) (ev fv : Value) (hn : n ≤ 300) (hk : k ≤ n) (E : Errs w 0 ev) (F : Errs w 1 fv) :
    Calls Tryd.prog 5 #[.int .i64 n, .int .i64 k] w fun e w' => e = .returned (.bool true) ∧ Below w.heap.size w w' := by
  have HT : Below w.heap.size w w := Below.refl _ _
  go_enter Tryd.func5, Tryd.ntmps5
  go_wp2_with fail
  refine (awake_any _).mono ?_
  rintro e w1 ⟨rfl, hb⟩
  replace E := E.below hb
  replace F := F.below hb
  have hs1 := hb.size
  replace HT := bel_tr HT hb
  clear hb
  go_wp2_with fail
  refine (choose_anyG n k _ (by omega) hk).mono ?_
  rintro e w2 ⟨c1, n1, d1, rfl, G1, hb⟩
  replace E := E.below hb
  replace F := F.below hb
  have hs2 := hb.size
  replace HT := bel_tr HT hb
  clear hb
  have hkn : ¬ (n : Int) < (k : Int) := by omega
  clear E F
  go_wp2_with fail
  refine (rchooseG n k _ (by omega) hk).mono ?_
  rintro e w3 ⟨r1, m1, t1, rfl, R1, hb⟩
  replace G1 := G1.below hb
  have hs3 := hb.size
  replace HT := bel_tr HT hb
  clear hb
  go_wp2_with fail
  refine (isG _ G1 R1 rfl (by omega)).mono ?_
  rintro e w4 ⟨rfl, hb⟩
  replace G1 := G1.below hb
  replace R1 := R1.below hb
  have hs4 := hb.size
  replace HT := bel_tr HT hb
  clear hb
  clear G1 R1
  go_wp2
  go_ret
  exact ⟨rfl, HT⟩

set_option maxRecDepth 100000 in
set_option maxHeartbeats 1000000 in
theorem chooses_E (n : Nat) (w : World) (ev fv : Value) (hn : n ≤ 4096) (hn3 : 300 < n) (E : Errs w 0 ev) (F : Errs w 1 fv) :
    Calls Tryd.prog 5 #[.int .i64 n, .int .i64 0] w fun e w' => e = .returned (.bool true) ∧ Below w.heap.size w w' := by
  have HT : Below w.heap.size w w := Below.refl _ _
  go_enter Tryd.func5, Tryd.ntmps5
  go_wp2_with fail
  refine (awake_any _).mono ?_
  rintro e w1 ⟨rfl, hb⟩
  replace E := E.below hb
  replace F := F.below hb
  have hs1 := hb.size
  replace HT := bel_tr HT hb
  clear hb
  go_wp2_with fail
  refine (chooseI2 _ _ n 0 _ rfl rfl (by omega) (by omega)).mono ?_
  rintro e w2 ⟨c1, n1, d1, rfl, G1, hb⟩
  replace E := E.below hb
  replace F := F.below hb
  have hs2 := hb.size
  replace HT := bel_tr HT hb
  clear hb
  have hkn : ¬ (n : Int) < 0 := by omega
  clear E F
  have GO := got_one (w := w2)
  have hbo : Below w2.heap.size w2 (w2.alloc (.cells #[Value.int .u64 1] 43)) := (Below.refl _ _).alloc (Nat.le_refl _) _
  have HC1 : Hid (((chs n 0 : Nat) : Int) = 1) := by show _ = _; rw [chs_zero]; rfl
  go_wp2_with fail
  refine (isG _ (G1.below hbo) GO HC1.out (by omega)).mono ?_
  rintro e wz ⟨rfl, hb⟩
  replace HT := bel_tr HT (bel_tr hbo hb)
  clear hb hbo GO G1
  go_wp2
  go_ret
  exact ⟨rfl, HT⟩

set_option maxRecDepth 100000 in
set_option maxHeartbeats 1000000 in
theorem chooses_F (n k : Nat) (w : World) (ev fv : Value) (hn : n ≤ 4096) (hn3 : 300 < n) (hk : k ≤ n) (hk0 : 0 < k) (E : Errs w 0 ev) (F : Errs w 1 fv) :
    Calls Tryd.prog 5 #[.int .i64 n, .int .i64 k] w fun e w' => e = .returned (.bool true) ∧ Below w.heap.size w w' := by
  have HT : Below w.heap.size w w := Below.refl _ _
  go_enter Tryd.func5, Tryd.ntmps5
  go_wp2_with fail
  refine (awake_any _).mono ?_
  rintro e w1 ⟨rfl, hb⟩
  replace E := E.below hb
  replace F := F.below hb
  have hs1 := hb.size
  replace HT := bel_tr HT hb
  clear hb
  go_wp2_with fail
  refine (choose_anyG n k _ (by omega) hk).mono ?_
  rintro e w2 ⟨c1, n1, d1, rfl, G1, hb⟩
  replace E := E.below hb
  replace F := F.below hb
  have hs2 := hb.size
  replace HT := bel_tr HT hb
  clear hb
  have hkn : ¬ (n : Int) < (k : Int) := by omega
  clear E F
  have hk0 : ((k : Int) == 0) = false := by simp; omega
  have hpos := G1.pos (by have := chs_pos n k hk; omega)
  have hpos' : (0 : Int) < (n1 : Int) := by omega
  obtain ⟨k1, hk1⟩ : ∃ k1 : Nat, k = k1 + 1 := ⟨k - 1, by omega⟩
  subst hk1
  have HS : Hid (((chs n (k1 + 1) : Nat) : Int) * ((k1 : Int) + 1) = ((chs n k1 : Nat) : Int) * ((n : Int) - ((k1 : Int) + 1) + 1)) := by
    show _ = _
    have h := chs_step n k1
    have e1 : ((k1 : Int) + 1) = ((k1 + 1 : Nat) : Int) := by omega
    have e2 : (n : Int) - ((k1 : Int) + 1) + 1 = ((n - k1 : Nat) : Int) := by omega
    rw [e2, e1, ← Int.natCast_mul, h, Int.natCast_mul]
  have HY : Hid (((chs n (n - (k1 + 1)) : Nat) : Int) = ((chs n (k1 + 1) : Nat) : Int)) := by show _ = _; rw [chs_symm hk]
  obtain ⟨q, hq1, hq2⟩ : ∃ q : Nat, q + (k1 + 1) ≤ n ∧ n ≤ q + (k1 + 1) := ⟨n - (k1 + 1), by omega, by omega⟩
  have HQ : Hid (n - (k1 + 1) = q) := by show _ = _; omega
  rw [HQ.out] at HY
  go_wp2_with fail
  refine (chooseI2 _ _ n k1 _ rfl (by omega) (by omega) (by omega)).mono ?_
  rintro e w3 ⟨c2, n2, d2, rfl, G2, hb⟩
  replace G1 := G1.below hb
  have hs3 := hb.size
  replace HT := bel_tr HT hb
  clear hb
  go_wp2_with fail
  refine (chooseI2 _ _ n q _ rfl (by omega) (by omega) (by omega)).mono ?_
  rintro e w4 ⟨c3, n3, d3, rfl, G3, hb⟩
  replace G1 := G1.below hb
  replace G2 := G2.below hb
  have hs4 := hb.size
  replace HT := bel_tr HT hb
  clear hb
  go_wp2_with fail
  refine (rofG _ _ (by omega) (by omega)).mono ?_
  rintro e w5 ⟨c4, n4, d4, rfl, G4, hb⟩
  replace G1 := G1.below hb
  replace G2 := G2.below hb
  replace G3 := G3.below hb
  have hs5 := hb.size
  replace HT := bel_tr HT hb
  clear hb
  go_wp2_with fail
  refine (rmulV _ G1.num (G4.num.le (R := 5000) (by omega)) (by omega)).mono ?_
  rintro e w6 ⟨c5, n5, d5, rfl, G5, hb⟩
  replace G1 := G1.below hb
  replace G2 := G2.below hb
  replace G3 := G3.below hb
  replace G4 := G4.below hb
  have hs6 := hb.size
  replace HT := bel_tr HT hb
  clear hb
  clear G4
  go_wp2_with fail
  refine (rofG _ _ (by omega) (by omega)).mono ?_
  rintro e w7 ⟨c6, n6, d6, rfl, G6, hb⟩
  replace G1 := G1.below hb
  replace G2 := G2.below hb
  replace G3 := G3.below hb
  replace G5 := G5.below hb
  have hs7 := hb.size
  replace HT := bel_tr HT hb
  clear hb
  go_wp2_with fail
  refine (rmulV _ G2.num (G6.num.le (R := 5000) (by omega)) (by omega)).mono ?_
  rintro e w8 ⟨c7, n7, d7, rfl, G7, hb⟩
  replace G1 := G1.below hb
  replace G2 := G2.below hb
  replace G3 := G3.below hb
  replace G5 := G5.below hb
  replace G6 := G6.below hb
  have hs8 := hb.size
  replace HT := bel_tr HT hb
  clear hb
  clear G6
  go_wp2_with fail
  refine (sameG _ G5 G7 HS.out (by omega)).mono ?_
  rintro e w9 ⟨rfl, hb⟩
  replace G1 := G1.below hb
  replace G2 := G2.below hb
  replace G3 := G3.below hb
  replace G5 := G5.below hb
  replace G7 := G7.below hb
  have hs9 := hb.size
  replace HT := bel_tr HT hb
  clear hb
  go_wp2_with fail
  refine (sameG _ G1 G3 HY.out.symm (by omega)).mono ?_
  rintro e w10 ⟨rfl, hb⟩
  replace G1 := G1.below hb
  replace G2 := G2.below hb
  replace G3 := G3.below hb
  replace G5 := G5.below hb
  replace G7 := G7.below hb
  have hs10 := hb.size
  replace HT := bel_tr HT hb
  clear hb
  clear G1 G2 G3 G5 G7
  go_wp2
  go_ret
  exact ⟨rfl, HT⟩

theorem chooses_walk (n k : Int) (w : World) (ev fv : Value) (h2 : n ≤ 9223372036854775807) (h4 : k ≤ 9223372036854775807) (E : Errs w 0 ev) (F : Errs w 1 fv) :
    Calls Tryd.prog 5 #[.int .i64 n, .int .i64 k] w fun e w' => e = .returned (.bool true) ∧ Below w.heap.size w w' := by
  by_cases hn : n < 0
  · exact chooses_A1 n k w ev fv hn E F
  · by_cases hk : k < 0
    · exact chooses_A2 n k w ev fv (by omega) hk E F
    · by_cases hb : 4096 < n
      · exact chooses_B n k w ev fv hb (by omega) E F
      · obtain ⟨N, rfl⟩ := Int.eq_ofNat_of_zero_le (by omega : 0 ≤ n)
        obtain ⟨K, rfl⟩ := Int.eq_ofNat_of_zero_le (by omega : 0 ≤ k)
        by_cases hc : N < K
        · exact chooses_C N K w ev fv (by omega) hc (by omega) E F
        · by_cases hd : N ≤ 300
          · exact chooses_D N K w ev fv hd (by omega) E F
          · by_cases he : K = 0
            · subst he; exact chooses_E N w ev fv (by omega) (by omega) E F
            · exact chooses_F N K w ev fv (by omega) (by omega) (by omega) (by omega) E F
end Go.Proofs.YtogdpgfccbohnabDoor

import Derived.Test.YtpngkbljalnfjaaGreatDoorR3M
namespace Go.Proofs.YtpngkbljalnfjaaGreatDoor
open Go.RowKit

set_option maxHeartbeats 4000000 in
theorem lessQ {p q : Bool} {a b : Option Addr} {na nb ca cb : Nat} {d e0 : Option Addr} {nd ne cd ce : Nat} {r s : Rat} {S R : Nat} (w : World) (hr : TR w p a na ca d nd cd r S) (hs : TR w q b nb cb e0 ne ce s R) (hSR : S + R ≤ 4000000) (hS1 : 1 ≤ S) (hR1 : 1 ≤ R) {better : Bool} (hB : better = decide ((r.num * s.den - s.num * r.den).sign < 0)) :
    Calls Tryz.prog 53 #[.agg #[.bool p, .slice a na ca, .slice d nd cd], .agg #[.bool q, .slice b nb cb, .slice e0 ne ce]] w fun e w' => e = .returned (.bool better) ∧ Below w.heap.size w w' := by
  obtain ⟨P0, P1, hb0, hsz⟩ := box_rr w (.bool p) (.slice a na ca) (.slice d nd cd) (.bool q) (.slice b nb cb) (.slice e0 ne ce) 27
  replace hr := hr.below hb0
  replace hs := hs.below hb0
  go_enter Tryz.func53, Tryz.ntmps53
  obtain ⟨p0c0, p0c1, p0c2, p0c3, p0c4, p0c5⟩ := id P0
  obtain ⟨p1c0, p1c1, p1c2, p1c3, p1c4, p1c5⟩ := id P1
  go_wp2_with fail
  generalize (w.alloc (.cells #[.bool p, .slice a na ca, .slice d nd cd] 27)).alloc (.cells #[.bool q, .slice b nb cb, .slice e0 ne ce] 27) = W0 at *
  obtain ⟨t, ht⟩ : ∃ t : Int, t = (r.num * s.den - s.num * r.den).sign := ⟨_, rfl⟩
  have HC := cmpQ W0 hr hs (by omega) hS1 hR1
  rw [← ht] at HC
  refine HC.mono ?_
  rintro e w1 ⟨rfl, hx⟩
  replace hb0 := bel_tr hb0 hx
  have HT : Hid (better = decide (t < 0)) := by show _ = _; rw [hB, ht]
  clear hx ht HC hB
  clear p0c0 p0c1 p0c2 p0c3 p0c4 p0c5 p1c0 p1c1 p1c2 p1c3 p1c4 p1c5
  clear P0 P1 hr hs
  go_wp2
  go_ret
  exact ⟨by rw [HT.out]; rfl, hb0⟩
set_option maxHeartbeats 4000000 in
theorem moreQ {p q : Bool} {a b : Option Addr} {na nb ca cb : Nat} {d e0 : Option Addr} {nd ne cd ce : Nat} {r s : Rat} {S R : Nat} (w : World) (hr : TR w p a na ca d nd cd r S) (hs : TR w q b nb cb e0 ne ce s R) (hSR : S + R ≤ 4000000) (hS1 : 1 ≤ S) (hR1 : 1 ≤ R) {better : Bool} (hB : better = decide (0 < (r.num * s.den - s.num * r.den).sign)) :
    Calls Tryz.prog 54 #[.agg #[.bool p, .slice a na ca, .slice d nd cd], .agg #[.bool q, .slice b nb cb, .slice e0 ne ce]] w fun e w' => e = .returned (.bool better) ∧ Below w.heap.size w w' := by
  obtain ⟨P0, P1, hb0, hsz⟩ := box_rr w (.bool p) (.slice a na ca) (.slice d nd cd) (.bool q) (.slice b nb cb) (.slice e0 ne ce) 27
  replace hr := hr.below hb0
  replace hs := hs.below hb0
  go_enter Tryz.func54, Tryz.ntmps54
  obtain ⟨p0c0, p0c1, p0c2, p0c3, p0c4, p0c5⟩ := id P0
  obtain ⟨p1c0, p1c1, p1c2, p1c3, p1c4, p1c5⟩ := id P1
  go_wp2_with fail
  generalize (w.alloc (.cells #[.bool p, .slice a na ca, .slice d nd cd] 27)).alloc (.cells #[.bool q, .slice b nb cb, .slice e0 ne ce] 27) = W0 at *
  obtain ⟨t, ht⟩ : ∃ t : Int, t = (r.num * s.den - s.num * r.den).sign := ⟨_, rfl⟩
  have HC := cmpQ W0 hr hs (by omega) hS1 hR1
  rw [← ht] at HC
  refine HC.mono ?_
  rintro e w1 ⟨rfl, hx⟩
  replace hb0 := bel_tr hb0 hx
  have HT : Hid (better = decide (0 < t)) := by show _ = _; rw [hB, ht]
  clear hx ht HC hB
  clear p0c0 p0c1 p0c2 p0c3 p0c4 p0c5 p1c0 p1c1 p1c2 p1c3 p1c4 p1c5
  clear P0 P1 hr hs
  go_wp2
  go_ret
  exact ⟨by rw [HT.out]; rfl, hb0⟩
end Go.Proofs.YtpngkbljalnfjaaGreatDoor

namespace Go.Proofs.YtpngkbljalnfjaaGreatDoor
open Go.RowKit

theorem sgn_lt {r s : Rat} : (r.num * s.den - s.num * r.den).sign < 0 ↔ r < s := by
  rw [Rat.lt_iff]
  constructor
  · intro h
    have := Int.neg_of_sign_eq_neg_one (a := r.num * s.den - s.num * r.den) (by have := Int.sign_trichotomy (r.num * s.den - s.num * r.den); omega)
    omega
  · intro h
    rw [Int.sign_eq_neg_one_of_neg (by omega)]; decide
theorem sgn_gt {r s : Rat} : 0 < (r.num * s.den - s.num * r.den).sign ↔ s < r := by
  rw [Rat.lt_iff]
  constructor
  · intro h
    have := Int.pos_of_sign_eq_one (a := r.num * s.den - s.num * r.den) (by have := Int.sign_trichotomy (r.num * s.den - s.num * r.den); omega)
    omega
  · intro h
    rw [Int.sign_eq_one_of_pos (by omega)]; decide
set_option maxHeartbeats 4000000 in
theorem leastB (g cap n : Nat) (P : Nat → Bool) (A : Nat → Option Addr) (N C : Nat → Nat) (D : Nat → Option Addr) (M L : Nat → Nat) (X : Nat → Rat) (S : Nat) (w : World)
    (hc : ∀ i, i < n + 1 → w.cell? ⟨g, i * 3, none⟩ = some (.bool (P i)) ∧ w.cell? ⟨g, i * 3 + 1, none⟩ = some (.slice (A i) (N i) (C i)) ∧ w.cell? ⟨g, i * 3 + 2, none⟩ = some (.slice (D i) (M i) (L i)))
    (hx : ∀ i, i < n + 1 → TR w (P i) (A i) (N i) (C i) (D i) (M i) (L i) (X i) S) (hn : n ≤ 1000000) (hcap : n + 1 ≤ cap) (hcap1 : cap ≤ 1000000000) (hS : S ≤ 1100000) (hS1 : 1 ≤ S) (hcap2 : 2 ≤ cap) (hT : TB w) :
    Calls Tryz.prog 52 #[.slice (some ⟨g, 0, none⟩) (n + 1) cap, .func (.func 53) #[] #[]] w fun e w' => ∃ f c n1 k c' n' k' j, e = .returned (.tuple #[.agg #[.bool f, .slice c n1 k, .slice c' n' k'], .bool true]) ∧ GR w' w.heap.size f c n1 k c' n' k' (X j) S ∧ j ≤ n ∧ (∀ i, i ≤ n → X j ≤ X i) ∧ Below w.heap.size w w' := by
  obtain ⟨R0, V0, hb0, hsz⟩ := box_rr w (.bool false) (.slice none 0 0) (.slice none 0 0) (.bool (P 0)) (.slice (A 0) (N 0) (C 0)) (.slice (D 0) (M 0) (L 0)) 27
  obtain ⟨a0, a1, a2⟩ := hc 0 (by omega)
  simp only [Nat.zero_mul, Nat.zero_add] at a0 a1 a2
  replace a0 := kept_c (bel_d0 w (.cells #[.bool false, .slice none 0 0, .slice none 0 0] 27)) a0
  replace a1 := kept_c (bel_d0 w (.cells #[.bool false, .slice none 0 0, .slice none 0 0] 27)) a1
  replace a2 := kept_c (bel_d0 w (.cells #[.bool false, .slice none 0 0, .slice none 0 0] 27)) a2
  have hn0 : ((n : Int) + 1 == 0) = false := by simp; omega
  go_enter Tryz.func52, Tryz.ntmps52
  have hcap3 : ¬ cap = 1 := by omega
  go_wp2
  generalize (w.alloc (.cells #[.bool false, .slice none 0 0, .slice none 0 0] 27)).alloc (.cells #[.bool (P 0), .slice (A 0) (N 0) (C 0), .slice (D 0) (M 0) (L 0)] 27) = W0 at *
  clear a0 a1 a2 hn0
  go_loopw [19] (fun s wr => ∃ (k j : Nat), k ≤ n ∧ j ≤ k ∧ s = .int .i64 k ∧ Var3 wr (w.heap.size + 1) (.bool (P j)) (.slice (A j) (N j) (C j)) (.slice (D j) (M j) (L j)) ∧ Var3 wr w.heap.size (.bool false) (.slice none 0 0) (.slice none 0 0) ∧ Below w.heap.size w wr ∧ w.heap.size + 2 ≤ wr.heap.size ∧ Hid (∀ i, i ≤ k → X j ≤ X i)) (fun t _ => n - (intOf t).toNat)
  case atStart => exact ⟨0, 0, Nat.zero_le _, Nat.le_refl _, rfl, V0, R0, hb0, by omega, (fun i hi => (by obtain rfl : i = 0 := Nat.le_zero.1 hi; exact Rat.le_refl))⟩
  case round =>
    obtain ⟨k, j, hk, hj, rfl, V, R, hbel, hsw, HM⟩ := hrel
    by_cases hlt : k < n
    · have hkI : (k : Int) < (n : Int) := by omega
      obtain ⟨c0, c1, c2⟩ := hc (k + 1) (by omega)
      have e3 : (k + 1) * 3 = 3 + k * 3 := by omega
      rw [e3] at c0 c1 c2
      replace c0 := kept_c hbel c0
      replace c1 := kept_c hbel c1
      replace c2 := kept_c hbel c2
      have hA := (hx (k + 1) (by omega)).below hbel
      have hJ := (hx j (by omega)).below hbel
      have hkI2 : (k : Int) * 3 = ((k * 3 : Nat) : Int) := by omega
      have Z := var3_new wr (.bool (P (k + 1))) (.slice (A (k + 1)) (N (k + 1)) (C (k + 1))) (.slice (D (k + 1)) (M (k + 1)) (L (k + 1))) 27
      have hz := bel_d0 wr (.cells #[.bool (P (k + 1)), .slice (A (k + 1)) (N (k + 1)) (C (k + 1)), .slice (D (k + 1)) (M (k + 1)) (L (k + 1))] 27)
      replace V := V.below hz
      replace R := R.below hz
      replace hA := hA.below hz
      replace hJ := hJ.below hz
      replace hbel := bel_tr hbel hz
      have hzs := Below.size hz
      clear hz e3 hc hx
      obtain ⟨z0, z1, z2, z3, z4, z5⟩ := id Z
      obtain ⟨v0, v1, v2, v3, v4, v5⟩ := id V
      go_wp2_with fail
      generalize wr.alloc (.cells #[.bool (P (k + 1)), .slice (A (k + 1)) (N (k + 1)) (C (k + 1)), .slice (D (k + 1)) (M (k + 1)) (L (k + 1))] 27) = W1 at *
      clear z0 z1 z2 z3 z4 z5 v0 v1 v2 v3 v4 v5 c0 c1 c2
      obtain ⟨bt, hbt⟩ : ∃ b, b = _ := ⟨_, rfl⟩
      have HB := hbt
      refine (lessQ _ hA hJ (by omega) hS1 hS1 hbt).mono ?_
      rintro e w1 ⟨rfl, h1⟩
      replace HB : Hid (bt = true ↔ X (k + 1) < X j) := by show _ ↔ _; rw [HB, decide_eq_true_iff, sgn_lt]
      replace V := V.below h1
      replace R := R.below h1
      replace Z := Z.below h1
      replace hbel := bel_tr hbel h1
      have hs1 := Below.size h1
      clear h1 hbt hA hJ
      obtain ⟨z0, z1, z2, z3, z4, z5⟩ := id Z
      obtain ⟨v0, v1, v2, v3, v4, v5⟩ := id V
      cases bt with
      | false =>
        have HM' : Hid (∀ i, i ≤ k + 1 → X j ≤ X i) := fun i hi => by
          rcases (by omega : i ≤ k ∨ i = k + 1) with h | rfl
          · exact HM.out i h
          · exact Rat.not_lt.1 (fun h => absurd (HB.out.2 h) (by decide))
        clear HB HM
        go_wp2
        go_roundw
        case rel => first | exact ⟨k + 1, j, by omega, by omega, by go_num, V, R, hbel, by omega, HM'⟩ | ((repeat apply Exists.intro); refine ⟨?_, rfl⟩; exact ⟨k + 1, j, by omega, by omega, by go_num, V, R, hbel, by omega, HM'⟩)
        case measure => simp [intOf]; omega
      | true =>
        have HM' : Hid (∀ i, i ≤ k + 1 → X (k + 1) ≤ X i) := fun i hi => by
          have hl := HB.out.1 rfl
          rcases (by omega : i ≤ k ∨ i = k + 1) with h | rfl
          · exact Rat.le_trans (Rat.le_of_lt hl) (HM.out i h)
          · exact Rat.le_refl
        clear HB HM
        obtain ⟨V', O⟩ := V.set (.bool (P (k + 1))) (.slice (A (k + 1)) (N (k + 1)) (C (k + 1))) (.slice (D (k + 1)) (M (k + 1)) (L (k + 1)))
        have R' := R.off O (by omega)
        have hbel' : Below w.heap.size w _ := hbel.trans (O.below (by omega))
        have hs2 := O.size
        clear V R hbel O
        go_wp2
        go_roundw
        case rel => first | exact ⟨k + 1, k + 1, by omega, by omega, by go_num, V', R', hbel', by omega, HM'⟩ | ((repeat apply Exists.intro); refine ⟨?_, rfl⟩; exact ⟨k + 1, k + 1, by omega, by omega, by go_num, V', R', hbel', by omega, HM'⟩)
        case measure => simp [intOf]; omega
    · have hkI : ¬ (k : Int) < (n : Int) := by omega
      obtain rfl : k = n := by omega
      have hJ := (hx j (by omega)).below hbel
      replace hT := hT.below hbel
      clear hc hx
      obtain ⟨v0, v1, v2, v3, v4, v5⟩ := id V
      go_wp2_with fail
      refine (normR _ hJ (by omega) hS1 hT).mono ?_
      rintro e w1 ⟨g5, u5, m5, l5, u6, m6, l6, rfl, GG, h1⟩
      replace R := R.below h1
      replace hbel := bel_tr hbel h1
      have hs1 := Below.size h1
      clear h1 v0 v1 v2 v3 v4 v5 V hJ hT
      obtain ⟨r0, r1, r2, r3, r4, r5⟩ := id R
      obtain ⟨VV, O⟩ := R.set (.bool g5) (.slice u5 m5 l5) (.slice u6 m6 l6)
      have GF := (GG.mono (B' := w.heap.size + 1) (by omega)).off O (by omega)
      have hw := hbel.trans (O.below (by omega))
      clear R O GG hbel
      go_wp2
      refine bodyPost_ret (v := .tuple #[.agg #[.bool g5, .slice u5 m5 l5, .slice u6 m6 l6], .bool true]) (by simp [results, Tryz.results52, go_sem, VV.c0, VV.c1, VV.c2]) rfl ⟨_, _, _, _, _, _, _, j, rfl, GF.mono (by omega), hj, HM.out, hw⟩
set_option maxHeartbeats 4000000 in
theorem greatB (g cap n : Nat) (P : Nat → Bool) (A : Nat → Option Addr) (N C : Nat → Nat) (D : Nat → Option Addr) (M L : Nat → Nat) (X : Nat → Rat) (S : Nat) (w : World)
    (hc : ∀ i, i < n + 1 → w.cell? ⟨g, i * 3, none⟩ = some (.bool (P i)) ∧ w.cell? ⟨g, i * 3 + 1, none⟩ = some (.slice (A i) (N i) (C i)) ∧ w.cell? ⟨g, i * 3 + 2, none⟩ = some (.slice (D i) (M i) (L i)))
    (hx : ∀ i, i < n + 1 → TR w (P i) (A i) (N i) (C i) (D i) (M i) (L i) (X i) S) (hn : n ≤ 1000000) (hcap : n + 1 ≤ cap) (hcap1 : cap ≤ 1000000000) (hS : S ≤ 1100000) (hS1 : 1 ≤ S) (hcap2 : 2 ≤ cap) (hT : TB w) :
    Calls Tryz.prog 52 #[.slice (some ⟨g, 0, none⟩) (n + 1) cap, .func (.func 54) #[] #[]] w fun e w' => ∃ f c n1 k c' n' k' j, e = .returned (.tuple #[.agg #[.bool f, .slice c n1 k, .slice c' n' k'], .bool true]) ∧ GR w' w.heap.size f c n1 k c' n' k' (X j) S ∧ j ≤ n ∧ (∀ i, i ≤ n → X i ≤ X j) ∧ Below w.heap.size w w' := by
  obtain ⟨R0, V0, hb0, hsz⟩ := box_rr w (.bool false) (.slice none 0 0) (.slice none 0 0) (.bool (P 0)) (.slice (A 0) (N 0) (C 0)) (.slice (D 0) (M 0) (L 0)) 27
  obtain ⟨a0, a1, a2⟩ := hc 0 (by omega)
  simp only [Nat.zero_mul, Nat.zero_add] at a0 a1 a2
  replace a0 := kept_c (bel_d0 w (.cells #[.bool false, .slice none 0 0, .slice none 0 0] 27)) a0
  replace a1 := kept_c (bel_d0 w (.cells #[.bool false, .slice none 0 0, .slice none 0 0] 27)) a1
  replace a2 := kept_c (bel_d0 w (.cells #[.bool false, .slice none 0 0, .slice none 0 0] 27)) a2
  have hn0 : ((n : Int) + 1 == 0) = false := by simp; omega
  go_enter Tryz.func52, Tryz.ntmps52
  have hcap3 : ¬ cap = 1 := by omega
  go_wp2
  generalize (w.alloc (.cells #[.bool false, .slice none 0 0, .slice none 0 0] 27)).alloc (.cells #[.bool (P 0), .slice (A 0) (N 0) (C 0), .slice (D 0) (M 0) (L 0)] 27) = W0 at *
  clear a0 a1 a2 hn0
  go_loopw [19] (fun s wr => ∃ (k j : Nat), k ≤ n ∧ j ≤ k ∧ s = .int .i64 k ∧ Var3 wr (w.heap.size + 1) (.bool (P j)) (.slice (A j) (N j) (C j)) (.slice (D j) (M j) (L j)) ∧ Var3 wr w.heap.size (.bool false) (.slice none 0 0) (.slice none 0 0) ∧ Below w.heap.size w wr ∧ w.heap.size + 2 ≤ wr.heap.size ∧ Hid (∀ i, i ≤ k → X i ≤ X j)) (fun t _ => n - (intOf t).toNat)
  case atStart => exact ⟨0, 0, Nat.zero_le _, Nat.le_refl _, rfl, V0, R0, hb0, by omega, (fun i hi => (by obtain rfl : i = 0 := Nat.le_zero.1 hi; exact Rat.le_refl))⟩
  case round =>
    obtain ⟨k, j, hk, hj, rfl, V, R, hbel, hsw, HM⟩ := hrel
    by_cases hlt : k < n
    · have hkI : (k : Int) < (n : Int) := by omega
      obtain ⟨c0, c1, c2⟩ := hc (k + 1) (by omega)
      have e3 : (k + 1) * 3 = 3 + k * 3 := by omega
      rw [e3] at c0 c1 c2
      replace c0 := kept_c hbel c0
      replace c1 := kept_c hbel c1
      replace c2 := kept_c hbel c2
      have hA := (hx (k + 1) (by omega)).below hbel
      have hJ := (hx j (by omega)).below hbel
      have hkI2 : (k : Int) * 3 = ((k * 3 : Nat) : Int) := by omega
      have Z := var3_new wr (.bool (P (k + 1))) (.slice (A (k + 1)) (N (k + 1)) (C (k + 1))) (.slice (D (k + 1)) (M (k + 1)) (L (k + 1))) 27
      have hz := bel_d0 wr (.cells #[.bool (P (k + 1)), .slice (A (k + 1)) (N (k + 1)) (C (k + 1)), .slice (D (k + 1)) (M (k + 1)) (L (k + 1))] 27)
      replace V := V.below hz
      replace R := R.below hz
      replace hA := hA.below hz
      replace hJ := hJ.below hz
      replace hbel := bel_tr hbel hz
      have hzs := Below.size hz
      clear hz e3 hc hx
      obtain ⟨z0, z1, z2, z3, z4, z5⟩ := id Z
      obtain ⟨v0, v1, v2, v3, v4, v5⟩ := id V
      go_wp2_with fail
      generalize wr.alloc (.cells #[.bool (P (k + 1)), .slice (A (k + 1)) (N (k + 1)) (C (k + 1)), .slice (D (k + 1)) (M (k + 1)) (L (k + 1))] 27) = W1 at *
      clear z0 z1 z2 z3 z4 z5 v0 v1 v2 v3 v4 v5 c0 c1 c2
      obtain ⟨bt, hbt⟩ : ∃ b, b = _ := ⟨_, rfl⟩
      have HB := hbt
      refine (moreQ _ hA hJ (by omega) hS1 hS1 hbt).mono ?_
      rintro e w1 ⟨rfl, h1⟩
      replace HB : Hid (bt = true ↔ X j < X (k + 1)) := by show _ ↔ _; rw [HB, decide_eq_true_iff, sgn_gt]
      replace V := V.below h1
      replace R := R.below h1
      replace Z := Z.below h1
      replace hbel := bel_tr hbel h1
      have hs1 := Below.size h1
      clear h1 hbt hA hJ
      obtain ⟨z0, z1, z2, z3, z4, z5⟩ := id Z
      obtain ⟨v0, v1, v2, v3, v4, v5⟩ := id V
      cases bt with
      | false =>
        have HM' : Hid (∀ i, i ≤ k + 1 → X i ≤ X j) := fun i hi => by
          rcases (by omega : i ≤ k ∨ i = k + 1) with h | rfl
          · exact HM.out i h
          · exact Rat.not_lt.1 (fun h => absurd (HB.out.2 h) (by decide))
        clear HB HM
        go_wp2
        go_roundw
        case rel => first | exact ⟨k + 1, j, by omega, by omega, by go_num, V, R, hbel, by omega, HM'⟩ | ((repeat apply Exists.intro); refine ⟨?_, rfl⟩; exact ⟨k + 1, j, by omega, by omega, by go_num, V, R, hbel, by omega, HM'⟩)
        case measure => simp [intOf]; omega
      | true =>
        have HM' : Hid (∀ i, i ≤ k + 1 → X i ≤ X (k + 1)) := fun i hi => by
          have hl := HB.out.1 rfl
          rcases (by omega : i ≤ k ∨ i = k + 1) with h | rfl
          · exact Rat.le_trans (HM.out i h) (Rat.le_of_lt hl)
          · exact Rat.le_refl
        clear HB HM
        obtain ⟨V', O⟩ := V.set (.bool (P (k + 1))) (.slice (A (k + 1)) (N (k + 1)) (C (k + 1))) (.slice (D (k + 1)) (M (k + 1)) (L (k + 1)))
        have R' := R.off O (by omega)
        have hbel' : Below w.heap.size w _ := hbel.trans (O.below (by omega))
        have hs2 := O.size
        clear V R hbel O
        go_wp2
        go_roundw
        case rel => first | exact ⟨k + 1, k + 1, by omega, by omega, by go_num, V', R', hbel', by omega, HM'⟩ | ((repeat apply Exists.intro); refine ⟨?_, rfl⟩; exact ⟨k + 1, k + 1, by omega, by omega, by go_num, V', R', hbel', by omega, HM'⟩)
        case measure => simp [intOf]; omega
    · have hkI : ¬ (k : Int) < (n : Int) := by omega
      obtain rfl : k = n := by omega
      have hJ := (hx j (by omega)).below hbel
      replace hT := hT.below hbel
      clear hc hx
      obtain ⟨v0, v1, v2, v3, v4, v5⟩ := id V
      go_wp2_with fail
      refine (normR _ hJ (by omega) hS1 hT).mono ?_
      rintro e w1 ⟨g5, u5, m5, l5, u6, m6, l6, rfl, GG, h1⟩
      replace R := R.below h1
      replace hbel := bel_tr hbel h1
      have hs1 := Below.size h1
      clear h1 v0 v1 v2 v3 v4 v5 V hJ hT
      obtain ⟨r0, r1, r2, r3, r4, r5⟩ := id R
      obtain ⟨VV, O⟩ := R.set (.bool g5) (.slice u5 m5 l5) (.slice u6 m6 l6)
      have GF := (GG.mono (B' := w.heap.size + 1) (by omega)).off O (by omega)
      have hw := hbel.trans (O.below (by omega))
      clear R O GG hbel
      go_wp2
      refine bodyPost_ret (v := .tuple #[.agg #[.bool g5, .slice u5 m5 l5, .slice u6 m6 l6], .bool true]) (by simp [results, Tryz.results52, go_sem, VV.c0, VV.c1, VV.c2]) rfl ⟨_, _, _, _, _, _, _, j, rfl, GF.mono (by omega), hj, HM.out, hw⟩
set_option maxHeartbeats 4000000 in
theorem leastQ (g cap n : Nat) (P : Nat → Bool) (A : Nat → Option Addr) (N C : Nat → Nat) (D : Nat → Option Addr) (M L : Nat → Nat) (X : Nat → Rat) (S : Nat) (w : World)
    (hc : ∀ i, i < n + 1 → w.cell? ⟨g, i * 3, none⟩ = some (.bool (P i)) ∧ w.cell? ⟨g, i * 3 + 1, none⟩ = some (.slice (A i) (N i) (C i)) ∧ w.cell? ⟨g, i * 3 + 2, none⟩ = some (.slice (D i) (M i) (L i)))
    (hx : ∀ i, i < n + 1 → TR w (P i) (A i) (N i) (C i) (D i) (M i) (L i) (X i) S) (hn : n ≤ 1000000) (hcap : n + 1 ≤ cap) (hcap1 : cap ≤ 1000000000) (hS : S ≤ 1100000) (hS1 : 1 ≤ S) (hcap2 : 2 ≤ cap) (hT : TB w) :
    Calls Tryz.prog 18 #[.slice (some ⟨g, 0, none⟩) (n + 1) cap] w fun e w' => ∃ f c n1 k c' n' k' j, e = .returned (.tuple #[.agg #[.bool f, .slice c n1 k, .slice c' n' k'], .bool true]) ∧ GR w' w.heap.size f c n1 k c' n' k' (X j) S ∧ j ≤ n ∧ (∀ i, i ≤ n → X j ≤ X i) ∧ Below w.heap.size w w' := by
  have R0 := var3_new w (.bool false) (.slice none 0 0) (.slice none 0 0) 27
  have hb0 := bel_d0 w (.cells #[.bool false, .slice none 0 0, .slice none 0 0] 27)
  have hsz : (w.alloc (.cells #[.bool false, .slice none 0 0, .slice none 0 0] 27)).heap.size = w.heap.size + 1 := by simp
  have hc' := fun i hi => (⟨kept_c hb0 (hc i hi).1, kept_c hb0 (hc i hi).2.1, kept_c hb0 (hc i hi).2.2⟩ : _ ∧ _ ∧ _)
  have hx' := fun i hi => (hx i hi).below hb0
  replace hT := hT.below hb0
  clear hc hx
  go_enter Tryz.func18, Tryz.ntmps18
  go_wp2_with fail
  generalize w.alloc (.cells #[.bool false, .slice none 0 0, .slice none 0 0] 27) = W0 at *
  refine (leastB g cap n P A N C D M L X S _ hc' hx' hn hcap hcap1 hS hS1 hcap2 hT).mono ?_
  rintro e w1 ⟨g5, u5, m5, l5, u6, m6, l6, j, rfl, GG, hj, hM, h1⟩
  replace R0 := R0.below h1
  replace hb0 := bel_tr hb0 h1
  have hs1 := Below.size h1
  have HM : Hid (∀ i, i ≤ n → X j ≤ X i) := hM
  clear h1 hc' hx' hT hM
  obtain ⟨r0, r1, r2, r3, r4, r5⟩ := id R0
  obtain ⟨VV, O⟩ := R0.set (.bool g5) (.slice u5 m5 l5) (.slice u6 m6 l6)
  have GF := (GG.mono (B' := w.heap.size + 1) (by omega)).off O (by omega)
  have hw := hb0.trans (O.below (by omega))
  clear R0 O GG hb0
  go_wp2
  refine bodyPost_ret (v := .tuple #[.agg #[.bool g5, .slice u5 m5 l5, .slice u6 m6 l6], .bool true]) (by simp [results, Tryz.results18, go_sem, VV.c0, VV.c1, VV.c2]) rfl ⟨_, _, _, _, _, _, _, j, rfl, GF.mono (by omega), hj, HM.out, hw⟩
set_option maxHeartbeats 4000000 in
theorem greatQ (g cap n : Nat) (P : Nat → Bool) (A : Nat → Option Addr) (N C : Nat → Nat) (D : Nat → Option Addr) (M L : Nat → Nat) (X : Nat → Rat) (S : Nat) (w : World)
    (hc : ∀ i, i < n + 1 → w.cell? ⟨g, i * 3, none⟩ = some (.bool (P i)) ∧ w.cell? ⟨g, i * 3 + 1, none⟩ = some (.slice (A i) (N i) (C i)) ∧ w.cell? ⟨g, i * 3 + 2, none⟩ = some (.slice (D i) (M i) (L i)))
    (hx : ∀ i, i < n + 1 → TR w (P i) (A i) (N i) (C i) (D i) (M i) (L i) (X i) S) (hn : n ≤ 1000000) (hcap : n + 1 ≤ cap) (hcap1 : cap ≤ 1000000000) (hS : S ≤ 1100000) (hS1 : 1 ≤ S) (hcap2 : 2 ≤ cap) (hT : TB w) :
    Calls Tryz.prog 19 #[.slice (some ⟨g, 0, none⟩) (n + 1) cap] w fun e w' => ∃ f c n1 k c' n' k' j, e = .returned (.tuple #[.agg #[.bool f, .slice c n1 k, .slice c' n' k'], .bool true]) ∧ GR w' w.heap.size f c n1 k c' n' k' (X j) S ∧ j ≤ n ∧ (∀ i, i ≤ n → X i ≤ X j) ∧ Below w.heap.size w w' := by
  have R0 := var3_new w (.bool false) (.slice none 0 0) (.slice none 0 0) 27
  have hb0 := bel_d0 w (.cells #[.bool false, .slice none 0 0, .slice none 0 0] 27)
  have hsz : (w.alloc (.cells #[.bool false, .slice none 0 0, .slice none 0 0] 27)).heap.size = w.heap.size + 1 := by simp
  have hc' := fun i hi => (⟨kept_c hb0 (hc i hi).1, kept_c hb0 (hc i hi).2.1, kept_c hb0 (hc i hi).2.2⟩ : _ ∧ _ ∧ _)
  have hx' := fun i hi => (hx i hi).below hb0
  replace hT := hT.below hb0
  clear hc hx
  go_enter Tryz.func19, Tryz.ntmps19
  go_wp2_with fail
  generalize w.alloc (.cells #[.bool false, .slice none 0 0, .slice none 0 0] 27) = W0 at *
  refine (greatB g cap n P A N C D M L X S _ hc' hx' hn hcap hcap1 hS hS1 hcap2 hT).mono ?_
  rintro e w1 ⟨g5, u5, m5, l5, u6, m6, l6, j, rfl, GG, hj, hM, h1⟩
  replace R0 := R0.below h1
  replace hb0 := bel_tr hb0 h1
  have hs1 := Below.size h1
  have HM : Hid (∀ i, i ≤ n → X i ≤ X j) := hM
  clear h1 hc' hx' hT hM
  obtain ⟨r0, r1, r2, r3, r4, r5⟩ := id R0
  obtain ⟨VV, O⟩ := R0.set (.bool g5) (.slice u5 m5 l5) (.slice u6 m6 l6)
  have GF := (GG.mono (B' := w.heap.size + 1) (by omega)).off O (by omega)
  have hw := hb0.trans (O.below (by omega))
  clear R0 O GG hb0
  go_wp2
  refine bodyPost_ret (v := .tuple #[.agg #[.bool g5, .slice u5 m5 l5, .slice u6 m6 l6], .bool true]) (by simp [results, Tryz.results19, go_sem, VV.c0, VV.c1, VV.c2]) rfl ⟨_, _, _, _, _, _, _, j, rfl, GF.mono (by omega), hj, HM.out, hw⟩
end Go.Proofs.YtpngkbljalnfjaaGreatDoor

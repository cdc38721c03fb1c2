import Derived.Test.YtbkkepbmaadomaaGreatDoorNrCAll
import Derived.Test.YtbkkepbmaadomaaGreatDoorQAll
import Derived.Test.YtbkkepbmaadomaaGreatDoorRefShift
import Derived.Test.YtbkkepbmaadomaaGreatDoorTxAll
import Derived.Test.YtbkkepbmaadomaaGreatDoorLawAll
import Derived.Test.YtbkkepbmaadomaaGreatDoorLkAll
import Derived.Test.YtbkkepbmaadomaaGreatDoorCsAll
import Derived.Test.YtbkkepbmaadomaaGreatDoorNbA
namespace Go.Proofs.YtbkkepbmaadomaaGreatDoor
open Go.RowKit

theorem Num.offB {w w' : World} {R B o n c : Nat} {x : Int} {S : Nat} (h : Num w (some ⟨B, o, none⟩) n c x S) (ho : Off R w w') (hR : B ≠ R) : Num w' (some ⟨B, o, none⟩) n c x S := by
  obtain ⟨xs, k1, k2, k3, k4, k5, k6⟩ := h
  refine ⟨xs, k1, k2, ?_, k4, k5, k6⟩
  rcases k3 with e | ⟨b, o, e, hc⟩
  · exact .inl e
  · refine .inr ⟨b, o, e, fun i hi => ?_⟩
    simp only [Option.some.injEq, Addr.mk.injEq] at e
    obtain ⟨rfl, rfl, -⟩ := e
    have := hc i hi
    rw [← this]
    exact ho.cell hR
theorem Var3.put1 {w : World} {R : Nat} {u v z : Value} (h : Var3 w R u v z) (v' : Value) : Var3 (w.setCell ⟨R, 1, none⟩ v') R u v' z ∧ Off R w (w.setCell ⟨R, 1, none⟩ v') := by
  refine ⟨⟨?_, ?_, ?_, ?_, ?_, ?_⟩, (Off.refl _ _).set 1 v'⟩
  · rw [World.cell?_setCell_other _ _ _ _ (by simp)]; exact h.c0
  · rw [World.cell?_setCell_same _ _ _ h.c1]
  · rw [World.cell?_setCell_other _ _ _ _ (by simp)]; exact h.c2
  · rw [World.frozen?_setCell]; exact h.f0
  · rw [World.frozen?_setCell]; exact h.f1
  · rw [World.frozen?_setCell]; exact h.f2
theorem Var3.put2 {w : World} {R : Nat} {u v z : Value} (h : Var3 w R u v z) (z' : Value) : Var3 (w.setCell ⟨R, 2, none⟩ z') R u v z' ∧ Off R w (w.setCell ⟨R, 2, none⟩ z') := by
  refine ⟨⟨?_, ?_, ?_, ?_, ?_, ?_⟩, (Off.refl _ _).set 2 z'⟩
  · rw [World.cell?_setCell_other _ _ _ _ (by simp)]; exact h.c0
  · rw [World.cell?_setCell_other _ _ _ _ (by simp)]; exact h.c1
  · rw [World.cell?_setCell_same _ _ _ h.c2]
  · rw [World.frozen?_setCell]; exact h.f0
  · rw [World.frozen?_setCell]; exact h.f1
  · rw [World.frozen?_setCell]; exact h.f2
/-- two limbs and a variable of three cells, new -/
theorem box_nnr (w : World) {m k : Int} (u v z : Value) (t : TypeId) (h0 : 0 ≤ m) (h1 : m < 18446744073709551616) (k0 : 0 ≤ k) (k1 : k < 18446744073709551616) :
    let W := ((w.alloc (.cells #[.int .u64 m] 22)).alloc (.cells #[.int .u64 k] 22)).alloc (.cells #[u, v, z] t)
    Num W (some ⟨w.heap.size, 0, none⟩) 1 1 m 1 ∧ Num W (some ⟨w.heap.size + 1, 0, none⟩) 1 1 k 1 ∧ Var3 W (w.heap.size + 1 + 1) u v z ∧ Below w.heap.size w W ∧ w.heap.size + 1 + 1 < W.heap.size := by
  have n1 := (reads_one (w := w) (z := m)).2 ⟨h0, h1⟩
  have n2 := (reads_one (w := w.alloc (.cells #[.int .u64 m] 22)) (z := k)).2 ⟨k0, k1⟩
  have v3 := var3_new ((w.alloc (.cells #[.int .u64 m] 22)).alloc (.cells #[.int .u64 k] 22)) u v z t
  rw [World.size_alloc] at n2
  rw [World.size_alloc, World.size_alloc] at v3
  exact ⟨(n1.below (bel_d0 _ _)).below (bel_d0 _ _), n2.below (bel_d0 _ _), v3, bel_tr (bel_tr (bel_d0 _ _) (bel_d0 _ _)) (bel_d0 _ _), by simp⟩
theorem sh_lt {m : Int} {q : Nat} (h1 : m < 18446744073709551616) (hn : q ≤ 2000) : m * 2 ^ q < pw 1026 := by
  have e : pw 1026 = pw 1 * pw 1025 := pw_add 1 1025
  have e1 : pw 1 = 18446744073709551616 := rfl
  have e2 : (2 : Int) ^ q ≤ pw 1025 := by rw [pw2]; exact pow2_mono (by omega)
  have e3 : (0 : Int) < 2 ^ q := Int.pow_pos (by decide)
  rw [e, e1]
  calc m * 2 ^ q < 18446744073709551616 * 2 ^ q := Int.mul_lt_mul_of_pos_right h1 e3
    _ ≤ 18446744073709551616 * pw 1025 := Int.mul_le_mul_of_nonneg_left e2 (by decide)
set_option maxRecDepth 100000 in
set_option maxHeartbeats 4000000 in
theorem exactDU {b : Nat} {m : Int} {q : Nat} {sg : Bool} (w : World) (h : b % 9223372036854775808 < 9218868437227405312) (HP : ∀ u, Calls Tryz.prog 48 #[.int .u64 ((b : Int) % 9223372036854775808)] u fun r w' => r = .returned (.tuple #[.int .u64 m, .int .i64 (q : Int)]) ∧ w' = u) (hm0 : 0 ≤ m) (hm1 : m < 18446744073709551616) (hn : q ≤ 2000) (hsg : decide (9223372036854775808 ≤ (b : Int)) = sg) :
    Calls Tryz.prog 21 #[.int .u64 (b : Int)] w fun e w' => ∃ f c n k c' n' k', e = .returned (.tuple #[.agg #[.bool f, .slice c n k, .slice c' n' k'], .int .i64 0]) ∧ GR w' w.heap.size f c n k c' n' k' (Rat.divInt (ws sg (m * 2 ^ q)) 1) 1026 ∧ Below w.heap.size w w' := by
  have HF := fun u => finiteD (t := true) b u (decide_eq_true (by omega))
  have hq0 : (0 : Int) ≤ (q : Int) := by omega
  have HL : Hid (m * 2 ^ q < pw 1026) := sh_lt hm1 hn
  clear h
  have R0 := var3_new w (.bool false) (.slice none 0 0) (.slice none 0 0) 35
  have hb0 := bel_d0 w (.cells #[.bool false, .slice none 0 0, .slice none 0 0] 35)
  have hsz : w.heap.size + 1 ≤ (w.alloc (.cells #[.bool false, .slice none 0 0, .slice none 0 0] 35)).heap.size := by simp
  go_enter Tryz.func21, Tryz.ntmps21
  go_wp2_with fail
  generalize w.alloc (.cells #[.bool false, .slice none 0 0, .slice none 0 0] 35) = W0 at *
  refine (HF _).mono ?_
  rintro e w1 ⟨rfl, rfl⟩
  clear HF
  go_wp2_with fail
  refine (HP _).mono ?_
  rintro e w2 ⟨rfl, rfl⟩
  clear HP
  go_wp2_with fail
  obtain ⟨N1, N2, V7, hx, hs7⟩ := box_nnr w2 (m := m) (k := 1) (.bool sg) (.slice (some ⟨w2.heap.size, 0, none⟩) 1 1) (.slice (some ⟨w2.heap.size + 1, 0, none⟩) 1 1) 35 hm0 hm1 (by decide) (by decide)
  generalize ((w2.alloc (.cells #[.int .u64 m] 22)).alloc (.cells #[.int .u64 1] 22)).alloc (.cells #[.bool sg, .slice (some ⟨w2.heap.size, 0, none⟩) 1 1, .slice (some ⟨w2.heap.size + 1, 0, none⟩) 1 1] 35) = W3 at *
  replace R0 := R0.below hx
  replace hb0 := bel_tr hb0 hx
  clear hx
  generalize w2.heap.size = z at *
  refine (rshlG q _ N1 (by decide) (by omega)).mono ?_
  rintro e w4 ⟨c4, n4, k4, rfl, G4, hx⟩
  replace G4 := G4.shrink HL.out
  replace N1 := N1.below hx
  replace N2 := N2.below hx
  replace V7 := V7.below hx
  replace R0 := R0.below hx
  replace hb0 := bel_tr hb0 hx
  replace G4 := G4.mono (B' := z + 1 + 1 + 1) (by omega)
  replace hs7 := Nat.lt_of_lt_of_le hs7 (Below.size hx)
  clear hx HL
  obtain ⟨v7c0, v7c1, v7c2, v7c3, v7c4, v7c5⟩ := id V7
  obtain ⟨V8, O8⟩ := V7.put1 (.slice c4 n4 k4)
  replace G4 := G4.off O8 (by omega)
  replace N2 := N2.offB O8 (by omega)
  replace R0 := R0.off O8 (by omega)
  replace hb0 := hb0.trans (O8.below (B := w.heap.size) (by omega))
  have hs8 := O8.size
  go_wp2_with fail
  generalize w4.setCell ⟨z + 1 + 1, 1, none⟩ (.slice c4 n4 k4) = w5 at *
  refine (normD _ (S := 1026) ⟨_, _, ⟨_, G4.num, rfl⟩, N2.up (by decide), rfl⟩ (by decide) (by decide)).mono ?_
  rintro e w6 ⟨f6, c6, n6, k6, d6, m6, l6, rfl, G6, hx⟩
  replace R0 := R0.below hx
  replace hb0 := bel_tr hb0 hx
  replace G6 := G6.mono (B' := w.heap.size + 1) (by omega)
  clear hx N1 N2 G4 V7 V8 O8 v7c0 v7c1 v7c2 v7c3 v7c4 v7c5
  obtain ⟨r0c0, r0c1, r0c2, r0c3, r0c4, r0c5⟩ := id R0
  obtain ⟨V, OO⟩ := R0.set (.bool f6) (.slice c6 n6 k6) (.slice d6 m6 l6)
  have hw := hb0.trans (OO.below (B := w.heap.size) (by omega))
  have GF := G6.off OO (by omega)
  clear G6 R0 OO hb0
  go_wp2
  refine bodyPost_ret (v := .tuple #[.agg #[.bool f6, .slice c6 n6 k6, .slice d6 m6 l6], .int .i64 0]) (by simp [results, Tryz.results21, go_sem, V.c0, V.c1, V.c2]) rfl ⟨_, _, _, _, _, _, _, rfl, GF.mono (B' := w.heap.size) (by omega), hw⟩
set_option maxRecDepth 100000 in
set_option maxHeartbeats 4000000 in
theorem exactDD {b : Nat} {m : Int} {q : Nat} {sg : Bool} (w : World) (h : b % 9223372036854775808 < 9218868437227405312) (HP : ∀ u, Calls Tryz.prog 48 #[.int .u64 ((b : Int) % 9223372036854775808)] u fun r w' => r = .returned (.tuple #[.int .u64 m, .int .i64 (-(q : Int))]) ∧ w' = u) (hm0 : 0 ≤ m) (hm1 : m < 18446744073709551616) (hn : 1 ≤ q ∧ q ≤ 2000) (hsg : decide (9223372036854775808 ≤ (b : Int)) = sg) :
    Calls Tryz.prog 21 #[.int .u64 (b : Int)] w fun e w' => ∃ f c n k c' n' k', e = .returned (.tuple #[.agg #[.bool f, .slice c n k, .slice c' n' k'], .int .i64 0]) ∧ GR w' w.heap.size f c n k c' n' k' (Rat.divInt (ws sg m) (1 * 2 ^ q)) 1026 ∧ Below w.heap.size w w' := by
  have HF := fun u => finiteD (t := true) b u (decide_eq_true (by omega))
  have hq0 : ¬ (0 : Int) ≤ -(q : Int) := by omega
  have hw : wrap64 (q : Int) = (q : Int) := by unfold wrap64; omega
  have hw2 : wrap64 (- -(q : Int)) = (q : Int) := by unfold wrap64; omega
  replace hn := hn.2
  clear h
  have R0 := var3_new w (.bool false) (.slice none 0 0) (.slice none 0 0) 35
  have hb0 := bel_d0 w (.cells #[.bool false, .slice none 0 0, .slice none 0 0] 35)
  have hsz : w.heap.size + 1 ≤ (w.alloc (.cells #[.bool false, .slice none 0 0, .slice none 0 0] 35)).heap.size := by simp
  go_enter Tryz.func21, Tryz.ntmps21
  go_wp2_with fail
  generalize w.alloc (.cells #[.bool false, .slice none 0 0, .slice none 0 0] 35) = W0 at *
  refine (HF _).mono ?_
  rintro e w1 ⟨rfl, rfl⟩
  clear HF
  go_wp2_with fail
  refine (HP _).mono ?_
  rintro e w2 ⟨rfl, rfl⟩
  clear HP
  go_wp2_with fail
  obtain ⟨N1, N2, V7, hx, hs7⟩ := box_nnr w2 (m := m) (k := 1) (.bool sg) (.slice (some ⟨w2.heap.size, 0, none⟩) 1 1) (.slice (some ⟨w2.heap.size + 1, 0, none⟩) 1 1) 35 hm0 hm1 (by decide) (by decide)
  generalize ((w2.alloc (.cells #[.int .u64 m] 22)).alloc (.cells #[.int .u64 1] 22)).alloc (.cells #[.bool sg, .slice (some ⟨w2.heap.size, 0, none⟩) 1 1, .slice (some ⟨w2.heap.size + 1, 0, none⟩) 1 1] 35) = W3 at *
  replace R0 := R0.below hx
  replace hb0 := bel_tr hb0 hx
  clear hx
  generalize w2.heap.size = z at *
  refine (rshlG q _ N2 (by decide) (by omega)).mono ?_
  rintro e w4 ⟨c4, n4, k4, rfl, G4, hx⟩
  replace G4 := G4.shrink (sh_lt (m := 1) (q := q) (by decide) hn)
  replace N1 := N1.below hx
  replace N2 := N2.below hx
  replace V7 := V7.below hx
  replace R0 := R0.below hx
  replace hb0 := bel_tr hb0 hx
  replace G4 := G4.mono (B' := z + 1 + 1 + 1) (by omega)
  replace hs7 := Nat.lt_of_lt_of_le hs7 (Below.size hx)
  clear hx
  obtain ⟨v7c0, v7c1, v7c2, v7c3, v7c4, v7c5⟩ := id V7
  obtain ⟨V8, O8⟩ := V7.put2 (.slice c4 n4 k4)
  replace G4 := G4.off O8 (by omega)
  replace N1 := N1.offB O8 (by omega)
  replace R0 := R0.off O8 (by omega)
  replace hb0 := hb0.trans (O8.below (B := w.heap.size) (by omega))
  have hs8 := O8.size
  go_wp2_with fail
  generalize w4.setCell ⟨z + 1 + 1, 2, none⟩ (.slice c4 n4 k4) = w5 at *
  refine (normD _ (S := 1026) ⟨_, _, ⟨_, N1.up (by decide), rfl⟩, G4.num, rfl⟩ (by decide) (by decide)).mono ?_
  rintro e w6 ⟨f6, c6, n6, k6, d6, m6, l6, rfl, G6, hx⟩
  replace R0 := R0.below hx
  replace hb0 := bel_tr hb0 hx
  replace G6 := G6.mono (B' := w.heap.size + 1) (by omega)
  clear hx N1 N2 G4 V7 V8 O8 v7c0 v7c1 v7c2 v7c3 v7c4 v7c5
  obtain ⟨r0c0, r0c1, r0c2, r0c3, r0c4, r0c5⟩ := id R0
  obtain ⟨V, OO⟩ := R0.set (.bool f6) (.slice c6 n6 k6) (.slice d6 m6 l6)
  have hw := hb0.trans (OO.below (B := w.heap.size) (by omega))
  have GF := G6.off OO (by omega)
  clear G6 R0 OO hb0
  go_wp2
  refine bodyPost_ret (v := .tuple #[.agg #[.bool f6, .slice c6 n6 k6, .slice d6 m6 l6], .int .i64 0]) (by simp [results, Tryz.results21, go_sem, V.c0, V.c1, V.c2]) rfl ⟨_, _, _, _, _, _, _, rfl, GF.mono (B' := w.heap.size) (by omega), hw⟩
set_option maxHeartbeats 2000000 in
theorem exactDE {b : Nat} (w : World) (h : 9218868437227405312 ≤ b % 9223372036854775808) :
    Calls Tryz.prog 21 #[.int .u64 (b : Int)] w fun e w' => e = .returned (.tuple #[.agg #[.bool false, .slice none 0 0, .slice none 0 0], .int .i64 6]) ∧ Below w.heap.size w w' := by
  have HF := fun u => finiteD (t := false) b u (decide_eq_false (by omega))
  clear h
  have R0 := var3_new w (.bool false) (.slice none 0 0) (.slice none 0 0) 35
  have hb0 := bel_d0 w (.cells #[.bool false, .slice none 0 0, .slice none 0 0] 35)
  go_enter Tryz.func21, Tryz.ntmps21
  go_wp2_with fail
  generalize w.alloc (.cells #[.bool false, .slice none 0 0, .slice none 0 0] 35) = W0 at *
  refine (HF _).mono ?_
  rintro e w1 ⟨rfl, rfl⟩
  clear HF
  obtain ⟨r0c0, r0c1, r0c2, r0c3, r0c4, r0c5⟩ := id R0
  obtain ⟨V, OO⟩ := R0.set (.bool false) (.slice none 0 0) (.slice none 0 0)
  have hw := hb0.trans (OO.below (B := w.heap.size) (by omega))
  clear R0 OO hb0
  go_wp2
  refine bodyPost_ret (v := .tuple #[.agg #[.bool false, .slice none 0 0, .slice none 0 0], .int .i64 6]) (by simp [results, Tryz.results21, go_sem, V.c0, V.c1, V.c2]) rfl ⟨rfl, hw⟩
end Go.Proofs.YtbkkepbmaadomaaGreatDoor

namespace Go.Proofs.YtbkkepbmaadomaaGreatDoor
open Go.RowKit

theorem nearer3 (k : Nat) (w : World) (h : k < 9223372036854775808) : Calls Tryz.prog 38 #[.int .u64 (k : Int), .int .i64 3] w fun e w' => e = .returned (.int .u64 ((k : Int) + 1)) ∧ w' = w := by
  have h1 : IntKind.u64.wrap ((k : Int) + 1) = (k : Int) + 1 := by rw [IntKind.wrap_u64]; omega
  clear h
  go_enter Tryz.func38, Tryz.ntmps38
  go_wp2
  go_ret
  exact ⟨by simp, rfl⟩
theorem joinTen (w : World) : Calls Tryz.prog 124 #[.int .u64 7205759403792793, .int .i64 (-56)] w fun e w' => e = .returned (.int .u64 4591870180066957721) ∧ w' = w := by
  go_enter Tryz.func124, Tryz.ntmps124
  go_wp2
  go_ret
  exact ⟨by simp, rfl⟩
set_option maxRecDepth 100000 in
set_option maxHeartbeats 4000000 in
theorem count11 {a b : Option Addr} {na nb ca cb : Nat} {x y : Int} {S R : Nat} (k : Nat) (w : World) (ha : Num w a na ca x S) (hb : Num w b nb cb y R) (hS : S ≤ 9000000) (hR : R ≤ 9000000) (hy : 0 < y) (hq : x * 2 ^ 1 / y = (k : Int)) (hk : k < 18446744073709551616) (ho : k % 2 = 1) (hr : 0 < x * 2 ^ 1 % y) :
    Calls Tryz.prog 81 #[.slice a na ca, .slice b nb cb] w fun e w' => e = .returned (.tuple #[.int .u64 ((k / 2 : Nat) : Int), .int .i64 3]) ∧ Below w.heap.size w w' := by
  have ho' : (k : Int) % 2 = 1 := by omega
  have hu : uw (k : Int) = (k : Int) := by unfold uw; omega
  go_enter Tryz.func81, Tryz.ntmps81
  go_wp2_with fail
  refine (twosF 1 _ ha (by omega) (by decide)).mono ?_
  rintro e w1 ⟨c1, n1, k1, rfl, G1, hx⟩
  replace hb := hb.below hx
  have hb0 := hx
  clear hx ha
  go_wp2_with fail
  refine (divG _ G1.num hb (by omega) (by omega) hy).mono ?_
  rintro e w2 ⟨c2, n2, k2, c3, n3, k3, rfl, G2, G3, -, hx⟩
  replace hb0 := bel_tr hb0 hx
  clear hx hb G1
  rw [hq] at G2
  clear hq hy
  go_wp2_with fail
  refine (uintV _ G2.num (by omega)).mono ?_
  rintro e w3 ⟨rfl, rfl⟩
  rw [hu]
  clear G2 hu
  generalize uf (k : Int) = fl
  go_wp2_with fail
  refine (bitsP _ G3.num (by omega) hr).mono ?_
  rintro e w4 ⟨t, rfl, ht, rfl⟩
  clear G3 hr
  go_wp2
  go_ret2
  exact ⟨by simp, hb0⟩
set_option maxRecDepth 100000 in
set_option maxHeartbeats 4000000 in
theorem count01 {a b : Option Addr} {na nb ca cb : Nat} {x y : Int} {S R : Nat} (k : Nat) (w : World) (ha : Num w a na ca x S) (hb : Num w b nb cb y R) (hS : S ≤ 9000000) (hR : R ≤ 9000000) (hy : 0 < y) (hq : x * 2 ^ 1 / y = (k : Int)) (hk : k < 18446744073709551616) (ho : k % 2 = 0) (hr : 0 < x * 2 ^ 1 % y) :
    Calls Tryz.prog 81 #[.slice a na ca, .slice b nb cb] w fun e w' => e = .returned (.tuple #[.int .u64 ((k / 2 : Nat) : Int), .int .i64 1]) ∧ Below w.heap.size w w' := by
  have ho' : (k : Int) % 2 = 0 := by omega
  have hu : uw (k : Int) = (k : Int) := by unfold uw; omega
  go_enter Tryz.func81, Tryz.ntmps81
  go_wp2_with fail
  refine (twosF 1 _ ha (by omega) (by decide)).mono ?_
  rintro e w1 ⟨c1, n1, k1, rfl, G1, hx⟩
  replace hb := hb.below hx
  have hb0 := hx
  clear hx ha
  go_wp2_with fail
  refine (divG _ G1.num hb (by omega) (by omega) hy).mono ?_
  rintro e w2 ⟨c2, n2, k2, c3, n3, k3, rfl, G2, G3, -, hx⟩
  replace hb0 := bel_tr hb0 hx
  clear hx hb G1
  rw [hq] at G2
  clear hq hy
  go_wp2_with fail
  refine (uintV _ G2.num (by omega)).mono ?_
  rintro e w3 ⟨rfl, rfl⟩
  rw [hu]
  clear G2 hu
  generalize uf (k : Int) = fl
  go_wp2_with fail
  refine (bitsP _ G3.num (by omega) hr).mono ?_
  rintro e w4 ⟨t, rfl, ht, rfl⟩
  clear G3 hr
  go_wp2
  go_ret2
  exact ⟨by simp, hb0⟩
set_option maxRecDepth 100000 in
set_option maxHeartbeats 4000000 in
theorem count10 {a b : Option Addr} {na nb ca cb : Nat} {x y : Int} {S R : Nat} (k : Nat) (w : World) (ha : Num w a na ca x S) (hb : Num w b nb cb y R) (hS : S ≤ 9000000) (hR : R ≤ 9000000) (hy : 0 < y) (hq : x * 2 ^ 1 / y = (k : Int)) (hk : k < 18446744073709551616) (ho : k % 2 = 1) (hr : x * 2 ^ 1 % y = 0) :
    Calls Tryz.prog 81 #[.slice a na ca, .slice b nb cb] w fun e w' => e = .returned (.tuple #[.int .u64 ((k / 2 : Nat) : Int), .int .i64 2]) ∧ Below w.heap.size w w' := by
  have ho' : (k : Int) % 2 = 1 := by omega
  have hu : uw (k : Int) = (k : Int) := by unfold uw; omega
  go_enter Tryz.func81, Tryz.ntmps81
  go_wp2_with fail
  refine (twosF 1 _ ha (by omega) (by decide)).mono ?_
  rintro e w1 ⟨c1, n1, k1, rfl, G1, hx⟩
  replace hb := hb.below hx
  have hb0 := hx
  clear hx ha
  go_wp2_with fail
  refine (divG _ G1.num hb (by omega) (by omega) hy).mono ?_
  rintro e w2 ⟨c2, n2, k2, c3, n3, k3, rfl, G2, G3, -, hx⟩
  replace hb0 := bel_tr hb0 hx
  clear hx hb G1
  rw [hq] at G2
  clear hq hy
  go_wp2_with fail
  refine (uintV _ G2.num (by omega)).mono ?_
  rintro e w3 ⟨rfl, rfl⟩
  rw [hu]
  clear G2 hu
  generalize uf (k : Int) = fl
  go_wp2_with fail
  refine (bitsV0 _ G3.num (by omega) hr).mono ?_
  rintro e w4 ⟨rfl, rfl⟩
  clear G3 hr
  go_wp2
  go_ret2
  exact ⟨by simp, hb0⟩
set_option maxRecDepth 100000 in
set_option maxHeartbeats 4000000 in
theorem count00 {a b : Option Addr} {na nb ca cb : Nat} {x y : Int} {S R : Nat} (k : Nat) (w : World) (ha : Num w a na ca x S) (hb : Num w b nb cb y R) (hS : S ≤ 9000000) (hR : R ≤ 9000000) (hy : 0 < y) (hq : x * 2 ^ 1 / y = (k : Int)) (hk : k < 18446744073709551616) (ho : k % 2 = 0) (hr : x * 2 ^ 1 % y = 0) :
    Calls Tryz.prog 81 #[.slice a na ca, .slice b nb cb] w fun e w' => e = .returned (.tuple #[.int .u64 ((k / 2 : Nat) : Int), .int .i64 0]) ∧ Below w.heap.size w w' := by
  have ho' : (k : Int) % 2 = 0 := by omega
  have hu : uw (k : Int) = (k : Int) := by unfold uw; omega
  go_enter Tryz.func81, Tryz.ntmps81
  go_wp2_with fail
  refine (twosF 1 _ ha (by omega) (by decide)).mono ?_
  rintro e w1 ⟨c1, n1, k1, rfl, G1, hx⟩
  replace hb := hb.below hx
  have hb0 := hx
  clear hx ha
  go_wp2_with fail
  refine (divG _ G1.num hb (by omega) (by omega) hy).mono ?_
  rintro e w2 ⟨c2, n2, k2, c3, n3, k3, rfl, G2, G3, -, hx⟩
  replace hb0 := bel_tr hb0 hx
  clear hx hb G1
  rw [hq] at G2
  clear hq hy
  go_wp2_with fail
  refine (uintV _ G2.num (by omega)).mono ?_
  rintro e w3 ⟨rfl, rfl⟩
  rw [hu]
  clear G2 hu
  generalize uf (k : Int) = fl
  go_wp2_with fail
  refine (bitsV0 _ G3.num (by omega) hr).mono ?_
  rintro e w4 ⟨rfl, rfl⟩
  clear G3 hr
  go_wp2
  go_ret2
  exact ⟨by simp, hb0⟩
end Go.Proofs.YtbkkepbmaadomaaGreatDoor

namespace Go.Proofs.YtbkkepbmaadomaaGreatDoor
open Go.RowKit

set_option maxRecDepth 100000 in
set_option maxHeartbeats 4000000 in
theorem rankTen {a b : Option Addr} {na nb ca cb : Nat} {S R : Nat} (w : World) (ha : Num w a na ca 1 S) (hb : Num w b nb cb 10 R) (hS : S ≤ 1000) (hR : R ≤ 1000) :
    Calls Tryz.prog 104 #[.slice a na ca, .slice b nb cb, .int .i64 (-3)] w fun e w' => e = .returned (.tuple #[.int .u64 4591870180066957721, .int .i64 3]) ∧ Below w.heap.size w w' := by
  go_enter Tryz.func104, Tryz.ntmps104
  go_wp2_with fail
  refine wp_loop_once ?_
  go_wp2_with fail
  refine (scaleU 56 _ ha (by omega) (by decide)).mono ?_
  rintro e w1 ⟨c1, n1, k1, rfl, G1, hx⟩
  replace hb := hb.below hx
  have hb0 := hx
  clear hx ha
  go_wp2_with fail
  refine (count11 14411518807585587 _ G1.num hb (by omega) (by omega) (by decide) (by decide) (by decide) (by decide) (by decide)).mono ?_
  rintro e w2 ⟨rfl, hx⟩
  replace hb0 := bel_tr hb0 hx
  clear hx hb G1
  rw [show ((14411518807585587 / 2 : Nat) : Int) = 7205759403792793 by decide]
  go_wp2_with fail
  refine (joinTen _).mono ?_
  rintro e w3 ⟨rfl, rfl⟩
  go_wp2
  go_ret2
  exact ⟨by simp, hb0⟩
theorem bits1 {a : Option Addr} {na ca : Nat} {S : Nat} (w : World) (ha : Num w a na ca 1 S) (hS : S ≤ 10000000000) :
    Calls Tryz.prog 76 #[.slice a na ca] w fun e w' => e = .returned (.int .i64 1) ∧ Below w.heap.size w w' := by
  refine (bitsN w ha hS).mono ?_
  rintro e w1 ⟨t, rfl, h, hx⟩
  refine ⟨?_, hx⟩
  rcases h with ⟨_, h⟩ | ⟨h0, h1, h2⟩
  · exact absurd h (by decide)
  · rcases (by omega : t = 1 ∨ 2 ≤ t) with rfl | h
    · rfl
    · have := Nat.pow_le_pow_right (show 0 < 2 by decide) (show 1 ≤ t - 1 by omega)
      omega
theorem bits10 {a : Option Addr} {na ca : Nat} {S : Nat} (w : World) (ha : Num w a na ca 10 S) (hS : S ≤ 10000000000) :
    Calls Tryz.prog 76 #[.slice a na ca] w fun e w' => e = .returned (.int .i64 4) ∧ Below w.heap.size w w' := by
  refine (bitsN w ha hS).mono ?_
  rintro e w1 ⟨t, rfl, h, hx⟩
  refine ⟨?_, hx⟩
  rcases h with ⟨_, h⟩ | ⟨h0, h1, h2⟩
  · exact absurd h (by decide)
  · rcases (by omega : t ≤ 3 ∨ t = 4 ∨ 5 ≤ t) with h | rfl | h
    · have := Nat.pow_le_pow_right (show 0 < 2 by decide) h
      omega
    · rfl
    · have := Nat.pow_le_pow_right (show 0 < 2 by decide) (show 4 ≤ t - 1 by omega)
      omega
set_option maxRecDepth 100000 in
set_option maxHeartbeats 4000000 in
theorem belowTen {a b : Option Addr} {na nb ca cb : Nat} {S R : Nat} (w : World) (ha : Num w a na ca 1 S) (hb : Num w b nb cb 10 R) (hS : S ≤ 1000) (hR : R ≤ 1000) :
    Calls Tryz.prog 72 #[.slice a na ca, .slice b nb cb] w fun e w' => e = .returned (.tuple #[.int .u64 4591870180066957721, .int .i64 3]) ∧ Below w.heap.size w w' := by
  go_enter Tryz.func72, Tryz.ntmps72
  go_wp2_with fail
  refine (bits1 _ ha (by omega)).mono ?_
  rintro e w1 ⟨rfl, hx⟩
  replace ha := ha.below hx
  replace hb := hb.below hx
  have hb0 := hx
  clear hx
  go_wp2_with fail
  refine (bits10 _ hb (by omega)).mono ?_
  rintro e w2 ⟨rfl, hx⟩
  replace ha := ha.below hx
  replace hb := hb.below hx
  replace hb0 := bel_tr hb0 hx
  clear hx
  go_wp2_with fail
  refine (rankTen _ ha hb hS hR).mono ?_
  rintro e w3 ⟨rfl, hx⟩
  replace hb0 := bel_tr hb0 hx
  clear hx ha hb
  go_wp2
  go_ret2
  exact ⟨by simp, hb0⟩
set_option maxRecDepth 100000 in
set_option maxHeartbeats 4000000 in
theorem findTen {a b : Option Addr} {na nb ca cb : Nat} (w : World) (ha : Num w a na ca 1 1) (hb : Num w b nb cb 10 1) :
    Calls Tryz.prog 37 #[.agg #[.bool false, .slice a na ca, .slice b nb cb]] w fun e w' => e = .returned (.tuple #[.int .i64 1, .int .u64 4591870180066957721, .int .i64 3]) ∧ Below w.heap.size w w' := by
  have P0 := var3_new w (.bool false) (.slice a na ca) (.slice b nb cb) 35
  have hb0 := bel_d0 w (.cells #[.bool false, .slice a na ca, .slice b nb cb] 35)
  replace ha := ha.below hb0
  replace hb := hb.below hb0
  obtain ⟨c0, c1, c2, c3, c4, c5⟩ := id P0
  go_enter Tryz.func37, Tryz.ntmps37
  go_wp2_with fail
  generalize w.alloc (.cells #[.bool false, .slice a na ca, .slice b nb cb] 35) = W0 at *
  refine (rsignB 1 _ (r := Rat.divInt 1 10) (S := 1) ⟨1, 10, ⟨1, ha, rfl⟩, hb, rfl⟩ (by decide) (by decide) (by decide)).mono ?_
  rintro e w1 ⟨rfl, hx⟩
  replace ha := ha.below hx
  replace hb := hb.below hx
  replace P0 := P0.below hx
  replace hb0 := bel_tr hb0 hx
  clear hx c0 c1 c2 c3 c4 c5
  obtain ⟨c0, c1, c2, c3, c4, c5⟩ := id P0
  go_wp2_with fail
  refine (belowTen _ ha hb (by decide) (by decide)).mono ?_
  rintro e w2 ⟨rfl, hx⟩
  replace hb0 := bel_tr hb0 hx
  clear hx c0 c1 c2 c3 c4 c5 ha hb P0
  go_wp2
  refine bodyPost_ret (v := .tuple #[.int .i64 1, .int .u64 4591870180066957721, .int .i64 3]) (by simp [results, Tryz.results37, go_sem]) rfl ⟨rfl, hb0⟩
set_option maxRecDepth 100000 in
set_option maxHeartbeats 4000000 in
theorem floatTen {a b : Option Addr} {na nb ca cb : Nat} (w : World) (ha : Num w a na ca 1 1) (hb : Num w b nb cb 10 1) :
    Calls Tryz.prog 13 #[.agg #[.bool false, .slice a na ca, .slice b nb cb]] w fun e w' => e = .returned (.tuple #[.float .f64 4591870180066957722, .int .i64 1]) ∧ Below w.heap.size w w' := by
  have P0 := var3_new w (.bool false) (.slice a na ca) (.slice b nb cb) 35
  have hb0 := bel_d0 w (.cells #[.bool false, .slice a na ca, .slice b nb cb] 35)
  replace ha := ha.below hb0
  replace hb := hb.below hb0
  obtain ⟨c0, c1, c2, c3, c4, c5⟩ := id P0
  go_enter Tryz.func13, Tryz.ntmps13
  go_wp2_with fail
  generalize w.alloc (.cells #[.bool false, .slice a na ca, .slice b nb cb] 35) = W0 at *
  refine (findTen _ ha hb).mono ?_
  rintro e w1 ⟨rfl, hx⟩
  replace hb0 := bel_tr hb0 hx
  clear hx c0 c1 c2 c3 c4 c5 ha hb P0
  go_wp2_with fail
  refine (nearer3 4591870180066957721 _ (by decide)).mono ?_
  rintro e w2 ⟨rfl, rfl⟩
  rw [show ((4591870180066957721 : Nat) : Int) + 1 = 4591870180066957722 by decide]
  go_wp2_with fail
  refine (rankedPz 4591870180066957722 _ (by decide)).mono ?_
  rintro e w3 ⟨rfl, rfl⟩
  go_wp2
  go_ret2
  exact ⟨by simp, hb0⟩
end Go.Proofs.YtbkkepbmaadomaaGreatDoor

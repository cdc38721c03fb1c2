import Derived.Test.YtbkkepbmaadomaaGreatDoorNrAAll
import Derived.Test.YtbkkepbmaadomaaGreatDoorShift
import Derived.Test.YtbkkepbmaadomaaGreatDoorRatAll
namespace Go.Proofs.YtbkkepbmaadomaaGreatDoor
open Go.RowKit

set_option maxHeartbeats 4000000 in
theorem twosF {a : Option Addr} {na ca : Nat} {x : Int} {S : Nat} (n : Nat) (w : World) (ha : Num w a na ca x S) (hS : S ≤ 10000000) (hn : n ≤ 65536) :
    Calls Tryz.prog 33 #[.slice a na ca, .int .i64 n] w fun e w' => ∃ c m k, e = .returned (.slice c m k) ∧ Got w' w.heap.size (.slice c m k) (x * 2 ^ n) (S + 1025) ∧ Below w.heap.size w w' := by
  go_enter Tryz.func33, Tryz.ntmps33
  go_wp2_with fail
  refine (shlG n _ ha hS hn).mono ?_
  rintro e w1 ⟨c, m, k, rfl, G, hx⟩
  go_wp2
  go_ret
  exact ⟨_, _, _, rfl, G, hx⟩
set_option maxHeartbeats 4000000 in
/-- near.scale by powers of two, downwards -/
theorem scaleD {a b : Option Addr} {na nb ca cb : Nat} {y : Int} {S : Nat} (n : Nat) (w : World) (hb : Num w b nb cb y S) (hS : S ≤ 10000000) (h1 : 1 ≤ n) (hn : n ≤ 65536) :
    Calls Tryz.prog 31 #[.slice a na ca, .slice b nb cb, .int .i64 (-(n : Int)), .func (.func 33) #[] #[]] w fun e w' => ∃ c m k, e = .returned (.tuple #[.slice a na ca, .slice c m k]) ∧ Got w' w.heap.size (.slice c m k) (y * 2 ^ n) (S + 1025) ∧ Below w.heap.size w w' := by
  have hneg : -(n : Int) < 0 := by omega
  have hwn : IntKind.i64.wrap (- -(n : Int)) = (n : Int) := by rw [IntKind.wrap_i64]; omega
  go_enter Tryz.func31, Tryz.ntmps31
  go_wp2_with fail
  refine (twosF n _ hb hS hn).mono ?_
  rintro e w1 ⟨c, m, k, rfl, G, hx⟩
  go_wp2
  go_ret2
  exact ⟨_, _, _, rfl, G, hx⟩
set_option maxHeartbeats 4000000 in
/-- .. and upwards -/
theorem scaleU {a b : Option Addr} {na nb ca cb : Nat} {x : Int} {S : Nat} (n : Nat) (w : World) (ha : Num w a na ca x S) (hS : S ≤ 10000000) (hn : n ≤ 65536) :
    Calls Tryz.prog 31 #[.slice a na ca, .slice b nb cb, .int .i64 (n : Int), .func (.func 33) #[] #[]] w fun e w' => ∃ c m k, e = .returned (.tuple #[.slice c m k, .slice b nb cb]) ∧ Got w' w.heap.size (.slice c m k) (x * 2 ^ n) (S + 1025) ∧ Below w.heap.size w w' := by
  have hneg : ¬ (n : Int) < 0 := by omega
  go_enter Tryz.func31, Tryz.ntmps31
  go_wp2_with fail
  refine (twosF n _ ha hS hn).mono ?_
  rintro e w1 ⟨c, m, k, rfl, G, hx⟩
  go_wp2
  go_ret2
  exact ⟨_, _, _, rfl, G, hx⟩
theorem scaleDz {z : Int} {a b : Option Addr} {na nb ca cb : Nat} {y : Int} {S : Nat} (n : Nat) (w : World) (hz : z = -(n : Int)) (hb : Num w b nb cb y S) (hS : S ≤ 10000000) (h1 : 1 ≤ n) (hn : n ≤ 65536) :
    Calls Tryz.prog 31 #[.slice a na ca, .slice b nb cb, .int .i64 z, .func (.func 33) #[] #[]] w fun e w' => ∃ c m k, e = .returned (.tuple #[.slice a na ca, .slice c m k]) ∧ Got w' w.heap.size (.slice c m k) (y * 2 ^ n) (S + 1025) ∧ Below w.heap.size w w' := by
  subst hz; exact scaleD n w hb hS h1 hn
theorem scaleUz {z : Int} {a b : Option Addr} {na nb ca cb : Nat} {x : Int} {S : Nat} (n : Nat) (w : World) (hz : z = (n : Int)) (ha : Num w a na ca x S) (hS : S ≤ 10000000) (hn : n ≤ 65536) :
    Calls Tryz.prog 31 #[.slice a na ca, .slice b nb cb, .int .i64 z, .func (.func 33) #[] #[]] w fun e w' => ∃ c m k, e = .returned (.tuple #[.slice c m k, .slice b nb cb]) ∧ Got w' w.heap.size (.slice c m k) (x * 2 ^ n) (S + 1025) ∧ Below w.heap.size w w' := by
  subst hz; exact scaleU n w ha hS hn
end Go.Proofs.YtbkkepbmaadomaaGreatDoor

namespace Go.Proofs.YtbkkepbmaadomaaGreatDoor
open Go.RowKit

theorem isNaNq {b : Nat} {t : Bool} (h : decide (9218868437227405312 < b % 9223372036854775808) = t) (w : World) : Calls Tryz.prog 19 #[.float .f64 b] w fun e w' => e = .returned (.bool t) ∧ w' = w := by subst h; exact isNaN_f b w
theorem isInfq {b : Nat} {t : Bool} (h : decide (b % 9223372036854775808 = 9218868437227405312) = t) (hb : b < 18446744073709551616) (w : World) : Calls Tryz.prog 28 #[.float .f64 b, .int .i64 0] w fun e w' => e = .returned (.bool t) ∧ w' = w := by subst h; exact isInf0 b w hb
set_option maxRecDepth 100000 in
set_option maxHeartbeats 4000000 in
theorem exactNaN {b : Nat} (w : World) (h : 9218868437227405312 < b % 9223372036854775808) {ev : Value} (E : Errs w 0 ev) :
    Calls Tryz.prog 11 #[.float .f64 b] w fun e w' => e = .returned (.tuple #[.agg #[.bool false, .slice none 0 0, .slice none 0 0], ev]) ∧ Below w.heap.size w w' := by
  have HN := fun u => isNaNq (decide_eq_true h) u
  clear h
  have hgl : 0 < w.heap.size := World.block_lt_of_cell? _ _ E.1
  have hgn : ¬ w.heap.size = 0 := by omega
  have hgm : ¬ 0 = w.heap.size := by omega
  have R0 := var3_new w (.bool false) (.slice none 0 0) (.slice none 0 0) 35
  have hb0 := bel_d0 w (.cells #[.bool false, .slice none 0 0, .slice none 0 0] 35)
  have hsz : w.heap.size + 1 ≤ (w.alloc (.cells #[.bool false, .slice none 0 0, .slice none 0 0] 35)).heap.size := by simp
  replace E := E.below hb0
  go_enter Tryz.func11, Tryz.ntmps11
  go_wp2_with fail
  generalize w.alloc (.cells #[.bool false, .slice none 0 0, .slice none 0 0] 35) = W0 at *
  refine (HN _).mono ?_
  rintro e w1 ⟨rfl, rfl⟩
  clear HN
  obtain ⟨r0c0, r0c1, r0c2, r0c3, r0c4, r0c5⟩ := id R0
  obtain ⟨V, O⟩ := R0.set (.bool false) (.slice none 0 0) (.slice none 0 0)
  have hw := hb0.trans (O.below (B := w.heap.size) (by omega))
  have E0 := E
  obtain ⟨ec, p, rfl⟩ := E0
  clear R0 O hb0 E
  go_wp2_with fail
  go_region
  have V' := V.below (bel_d1 _)
  go_wp2
  refine bodyPost_ret (v := .tuple #[.agg #[.bool false, .slice none 0 0, .slice none 0 0], .iface 197 (.pointer (some p))]) (by simp [results, Tryz.results11, go_sem, V'.c0, V'.c1, V'.c2]) rfl ⟨rfl, belN hw 1⟩
set_option maxRecDepth 100000 in
set_option maxHeartbeats 4000000 in
theorem exactInf {b : Nat} (w : World) (hb : b < 18446744073709551616) (h : b % 9223372036854775808 = 9218868437227405312) {ev : Value} (E : Errs w 0 ev) :
    Calls Tryz.prog 11 #[.float .f64 b] w fun e w' => e = .returned (.tuple #[.agg #[.bool false, .slice none 0 0, .slice none 0 0], ev]) ∧ Below w.heap.size w w' := by
  have HN := fun u => isNaNq (b := b) (t := false) (decide_eq_false (by omega)) u
  have HI := fun u => isInfq (decide_eq_true h) hb u
  clear h hb
  have hgl : 0 < w.heap.size := World.block_lt_of_cell? _ _ E.1
  have hgn : ¬ w.heap.size = 0 := by omega
  have hgm : ¬ 0 = w.heap.size := by omega
  have R0 := var3_new w (.bool false) (.slice none 0 0) (.slice none 0 0) 35
  have hb0 := bel_d0 w (.cells #[.bool false, .slice none 0 0, .slice none 0 0] 35)
  have hsz : w.heap.size + 1 ≤ (w.alloc (.cells #[.bool false, .slice none 0 0, .slice none 0 0] 35)).heap.size := by simp
  replace E := E.below hb0
  go_enter Tryz.func11, Tryz.ntmps11
  go_wp2_with fail
  generalize w.alloc (.cells #[.bool false, .slice none 0 0, .slice none 0 0] 35) = W0 at *
  refine (HN _).mono ?_
  rintro e w1 ⟨rfl, rfl⟩
  clear HN
  go_wp2_with fail
  refine (HI _).mono ?_
  rintro e w1 ⟨rfl, rfl⟩
  clear HI
  obtain ⟨r0c0, r0c1, r0c2, r0c3, r0c4, r0c5⟩ := id R0
  obtain ⟨V, O⟩ := R0.set (.bool false) (.slice none 0 0) (.slice none 0 0)
  have hw := hb0.trans (O.below (B := w.heap.size) (by omega))
  have E0 := E
  obtain ⟨ec, p, rfl⟩ := E0
  clear R0 O hb0 E
  go_wp2_with fail
  go_region
  have V' := V.below (bel_d1 _)
  go_wp2
  refine bodyPost_ret (v := .tuple #[.agg #[.bool false, .slice none 0 0, .slice none 0 0], .iface 197 (.pointer (some p))]) (by simp [results, Tryz.results11, go_sem, V'.c0, V'.c1, V'.c2]) rfl ⟨rfl, belN hw 1⟩
set_option maxRecDepth 100000 in
set_option maxHeartbeats 4000000 in
theorem exactOkU {b : Nat} {m : Int} {q : Nat} {sg : Bool} (w : World) (hb : b < 18446744073709551616) (h : b % 9223372036854775808 < 9218868437227405312) (hm : ((b % 9223372036854775808 : Nat) : Int) - (steps (b % 9223372036854775808) : Int) * 4503599627370496 = m) (hm0 : 0 ≤ m) (hm1 : m < 18446744073709551616) (hst : (steps (b % 9223372036854775808) : Int) - 1074 = (q : Int)) (hn : q ≤ 2000) (hsg : (Ieee.double.order b 0 == some .lt) = sg) (hT : TB w) :
    Calls Tryz.prog 11 #[.float .f64 b] w fun e w' => ∃ f c n k c' n' k', e = .returned (.tuple #[.agg #[.bool f, .slice c n k, .slice c' n' k'], .nilIface]) ∧ GR w' w.heap.size f c n k c' n' k' (Rat.divInt (ws sg (m * 2 ^ q)) (ws false 1)) 1026 ∧ Below w.heap.size w w' := by
  have HN := fun u => isNaNq (b := b) (t := false) (decide_eq_false (by omega)) u
  have HI := fun u => isInfq (b := b) (t := false) (decide_eq_false (by omega)) hb u
  have HR := fun u => rankOfF b u hb
  have HP := fun u => splitF (b % 9223372036854775808) u h
  rw [hm, hst] at HP
  have hsg' : (FloatKind.f64.format.order b 0 == some .lt) = sg := hsg
  clear h hb hm hst hsg
  generalize b % 9223372036854775808 = r at *
  have R0 := var3_new w (.bool false) (.slice none 0 0) (.slice none 0 0) 35
  have hb0 := bel_d0 w (.cells #[.bool false, .slice none 0 0, .slice none 0 0] 35)
  have hsz : w.heap.size + 1 ≤ (w.alloc (.cells #[.bool false, .slice none 0 0, .slice none 0 0] 35)).heap.size := by simp
  replace hT := hT.below hb0
  go_enter Tryz.func11, Tryz.ntmps11
  go_wp2_with fail
  generalize w.alloc (.cells #[.bool false, .slice none 0 0, .slice none 0 0] 35) = W0 at *
  refine (HN _).mono ?_
  rintro e w1 ⟨rfl, rfl⟩
  clear HN
  go_wp2_with fail
  refine (HI _).mono ?_
  rintro e w1 ⟨rfl, rfl⟩
  clear HI
  go_wp2_with fail
  refine (HR _).mono ?_
  rintro e w1 ⟨rfl, rfl⟩
  clear HR
  go_wp2_with fail
  refine (HP _).mono ?_
  rintro e w1 ⟨rfl, rfl⟩
  clear HP
  go_wp2_with fail
  refine (ofG m _ hm0 hm1).mono ?_
  rintro e w2 ⟨c1, n1, k1, rfl, G1, hx⟩
  replace R0 := R0.below hx
  replace hT := hT.below hx
  replace hb0 := bel_tr hb0 hx
  replace G1 := G1.mono (B' := w.heap.size + 1) hsz
  replace hsz := Nat.le_trans hsz (Below.size hx)
  clear hx
  go_wp2_with fail
  refine (ofG 1 _ (by decide) (by decide)).mono ?_
  rintro e w3 ⟨c2, n2, k2, rfl, G2, hx⟩
  replace G1 := G1.below hx
  replace R0 := R0.below hx
  replace hT := hT.below hx
  replace hb0 := bel_tr hb0 hx
  replace G2 := G2.mono (B' := w.heap.size + 1) hsz
  replace hsz := Nat.le_trans hsz (Below.size hx)
  clear hx
  go_wp2_with fail
  refine (scaleUz q _ (by first | rfl | omega) G1.num (by decide) (by omega)).mono ?_
  rintro e w4 ⟨c3, n3, k3, rfl, G3, hx⟩
  replace G1 := G1.below hx
  replace G2 := G2.below hx
  replace R0 := R0.below hx
  replace hT := hT.below hx
  replace hb0 := bel_tr hb0 hx
  replace G3 := G3.mono (B' := w.heap.size + 1) hsz
  replace hsz := Nat.le_trans hsz (Below.size hx)
  clear hx
  go_wp2_with fail
  refine (fromI _ _ G3.num (by decide)).mono ?_
  rintro e w5 ⟨v5, rfl, K5, hx⟩
  replace G1 := G1.below hx
  replace G2 := G2.below hx
  replace G3 := G3.below hx
  replace R0 := R0.below hx
  replace hT := hT.below hx
  replace hb0 := bel_tr hb0 hx
  replace K5 := K5.mono (B' := w.heap.size + 1) hsz
  replace hsz := Nat.le_trans hsz (Below.size hx)
  clear hx
  obtain ⟨f5, c5, n5, k5, rfl⟩ := K5.form
  go_wp2_with fail
  refine (fromI _ _ G2.num (by decide)).mono ?_
  rintro e w6 ⟨v6, rfl, K6, hx⟩
  replace G1 := G1.below hx
  replace G2 := G2.below hx
  replace G3 := G3.below hx
  replace K5 := K5.below hx
  replace R0 := R0.below hx
  replace hT := hT.below hx
  replace hb0 := bel_tr hb0 hx
  replace K6 := K6.mono (B' := w.heap.size + 1) hsz
  replace hsz := Nat.le_trans hsz (Below.size hx)
  clear hx
  obtain ⟨f6, c6, n6, k6, rfl⟩ := K6.form
  go_wp2_with fail
  refine (makeQ _ (K5.le (S' := 1026) (by decide)).ti (K6.le (S' := 1026) (by decide)).ti (by decide) (by decide) hT).mono ?_
  rintro e w7 ⟨f7, c7, n7, k7, d7, m7, l7, rfl, G7, hx⟩
  replace R0 := R0.below hx
  replace hT := hT.below hx
  replace hb0 := bel_tr hb0 hx
  replace G7 := G7.mono (B' := w.heap.size + 1) hsz
  replace hsz := Nat.le_trans hsz (Below.size hx)
  clear hx
  clear hT G1 G2 G3 K5 K6
  obtain ⟨r0c0, r0c1, r0c2, r0c3, r0c4, r0c5⟩ := id R0
  obtain ⟨V, OO⟩ := R0.set (.bool f7) (.slice c7 n7 k7) (.slice d7 m7 l7)
  have hw := hb0.trans (OO.below (B := w.heap.size) (by omega))
  have GF := G7.off OO (by omega)
  clear G7 R0 OO hb0
  go_wp2
  refine bodyPost_ret (v := .tuple #[.agg #[.bool f7, .slice c7 n7 k7, .slice d7 m7 l7], .nilIface]) (by simp [results, Tryz.results11, go_sem, V.c0, V.c1, V.c2]) rfl ⟨_, _, _, _, _, _, _, rfl, GF.mono (B' := w.heap.size) (by omega), hw⟩
set_option maxRecDepth 100000 in
set_option maxHeartbeats 4000000 in
theorem exactOkD {b : Nat} {m : Int} {q : Nat} {sg : Bool} (w : World) (hb : b < 18446744073709551616) (h : b % 9223372036854775808 < 9218868437227405312) (hm : ((b % 9223372036854775808 : Nat) : Int) - (steps (b % 9223372036854775808) : Int) * 4503599627370496 = m) (hm0 : 0 ≤ m) (hm1 : m < 18446744073709551616) (hst : (steps (b % 9223372036854775808) : Int) - 1074 = -(q : Int)) (hn : 1 ≤ q ∧ q ≤ 2000) (hsg : (Ieee.double.order b 0 == some .lt) = sg) (hT : TB w) :
    Calls Tryz.prog 11 #[.float .f64 b] w fun e w' => ∃ f c n k c' n' k', e = .returned (.tuple #[.agg #[.bool f, .slice c n k, .slice c' n' k'], .nilIface]) ∧ GR w' w.heap.size f c n k c' n' k' (Rat.divInt (ws sg m) (ws false (1 * 2 ^ q))) 1026 ∧ Below w.heap.size w w' := by
  have HN := fun u => isNaNq (b := b) (t := false) (decide_eq_false (by omega)) u
  have HI := fun u => isInfq (b := b) (t := false) (decide_eq_false (by omega)) hb u
  have HR := fun u => rankOfF b u hb
  have HP := fun u => splitF (b % 9223372036854775808) u h
  rw [hm, hst] at HP
  have hsg' : (FloatKind.f64.format.order b 0 == some .lt) = sg := hsg
  clear h hb hm hst hsg
  generalize b % 9223372036854775808 = r at *
  have R0 := var3_new w (.bool false) (.slice none 0 0) (.slice none 0 0) 35
  have hb0 := bel_d0 w (.cells #[.bool false, .slice none 0 0, .slice none 0 0] 35)
  have hsz : w.heap.size + 1 ≤ (w.alloc (.cells #[.bool false, .slice none 0 0, .slice none 0 0] 35)).heap.size := by simp
  replace hT := hT.below hb0
  go_enter Tryz.func11, Tryz.ntmps11
  go_wp2_with fail
  generalize w.alloc (.cells #[.bool false, .slice none 0 0, .slice none 0 0] 35) = W0 at *
  refine (HN _).mono ?_
  rintro e w1 ⟨rfl, rfl⟩
  clear HN
  go_wp2_with fail
  refine (HI _).mono ?_
  rintro e w1 ⟨rfl, rfl⟩
  clear HI
  go_wp2_with fail
  refine (HR _).mono ?_
  rintro e w1 ⟨rfl, rfl⟩
  clear HR
  go_wp2_with fail
  refine (HP _).mono ?_
  rintro e w1 ⟨rfl, rfl⟩
  clear HP
  go_wp2_with fail
  refine (ofG m _ hm0 hm1).mono ?_
  rintro e w2 ⟨c1, n1, k1, rfl, G1, hx⟩
  replace R0 := R0.below hx
  replace hT := hT.below hx
  replace hb0 := bel_tr hb0 hx
  replace G1 := G1.mono (B' := w.heap.size + 1) hsz
  replace hsz := Nat.le_trans hsz (Below.size hx)
  clear hx
  go_wp2_with fail
  refine (ofG 1 _ (by decide) (by decide)).mono ?_
  rintro e w3 ⟨c2, n2, k2, rfl, G2, hx⟩
  replace G1 := G1.below hx
  replace R0 := R0.below hx
  replace hT := hT.below hx
  replace hb0 := bel_tr hb0 hx
  replace G2 := G2.mono (B' := w.heap.size + 1) hsz
  replace hsz := Nat.le_trans hsz (Below.size hx)
  clear hx
  go_wp2_with fail
  refine (scaleDz q _ (by first | rfl | omega) G2.num (by decide) hn.1 (by omega)).mono ?_
  rintro e w4 ⟨c3, n3, k3, rfl, G3, hx⟩
  replace G1 := G1.below hx
  replace G2 := G2.below hx
  replace R0 := R0.below hx
  replace hT := hT.below hx
  replace hb0 := bel_tr hb0 hx
  replace G3 := G3.mono (B' := w.heap.size + 1) hsz
  replace hsz := Nat.le_trans hsz (Below.size hx)
  clear hx
  go_wp2_with fail
  refine (fromI _ _ G1.num (by decide)).mono ?_
  rintro e w5 ⟨v5, rfl, K5, hx⟩
  replace G1 := G1.below hx
  replace G2 := G2.below hx
  replace G3 := G3.below hx
  replace R0 := R0.below hx
  replace hT := hT.below hx
  replace hb0 := bel_tr hb0 hx
  replace K5 := K5.mono (B' := w.heap.size + 1) hsz
  replace hsz := Nat.le_trans hsz (Below.size hx)
  clear hx
  obtain ⟨f5, c5, n5, k5, rfl⟩ := K5.form
  go_wp2_with fail
  refine (fromI _ _ G3.num (by decide)).mono ?_
  rintro e w6 ⟨v6, rfl, K6, hx⟩
  replace G1 := G1.below hx
  replace G2 := G2.below hx
  replace G3 := G3.below hx
  replace K5 := K5.below hx
  replace R0 := R0.below hx
  replace hT := hT.below hx
  replace hb0 := bel_tr hb0 hx
  replace K6 := K6.mono (B' := w.heap.size + 1) hsz
  replace hsz := Nat.le_trans hsz (Below.size hx)
  clear hx
  obtain ⟨f6, c6, n6, k6, rfl⟩ := K6.form
  go_wp2_with fail
  refine (makeQ _ (K5.le (S' := 1026) (by decide)).ti (K6.le (S' := 1026) (by decide)).ti (by show (1 : Int) * 2 ^ q ≠ 0; rw [Int.one_mul]; exact Int.ne_of_gt (Int.pow_pos (by decide))) (by decide) hT).mono ?_
  rintro e w7 ⟨f7, c7, n7, k7, d7, m7, l7, rfl, G7, hx⟩
  replace R0 := R0.below hx
  replace hT := hT.below hx
  replace hb0 := bel_tr hb0 hx
  replace G7 := G7.mono (B' := w.heap.size + 1) hsz
  replace hsz := Nat.le_trans hsz (Below.size hx)
  clear hx
  clear hT G1 G2 G3 K5 K6
  obtain ⟨r0c0, r0c1, r0c2, r0c3, r0c4, r0c5⟩ := id R0
  obtain ⟨V, OO⟩ := R0.set (.bool f7) (.slice c7 n7 k7) (.slice d7 m7 l7)
  have hw := hb0.trans (OO.below (B := w.heap.size) (by omega))
  have GF := G7.off OO (by omega)
  clear G7 R0 OO hb0
  go_wp2
  refine bodyPost_ret (v := .tuple #[.agg #[.bool f7, .slice c7 n7 k7, .slice d7 m7 l7], .nilIface]) (by simp [results, Tryz.results11, go_sem, V.c0, V.c1, V.c2]) rfl ⟨_, _, _, _, _, _, _, rfl, GF.mono (B' := w.heap.size) (by omega), hw⟩
end Go.Proofs.YtbkkepbmaadomaaGreatDoor

namespace Go.Proofs.YtbkkepbmaadomaaGreatDoor
open Go.RowKit

theorem isInf1q {b : Nat} {t : Bool} (h : (decide (b % 9223372036854775808 = 9218868437227405312) && !(b / 9223372036854775808 % 2 == 1)) = t) (w : World) : Calls Tryz.prog 28 #[.float .f64 b, .int .i64 1] w fun e w' => e = .returned (.bool t) ∧ w' = w := by subst h; exact isInf1 b w
theorem nextNaN {b : Nat} (w : World) (h : 9218868437227405312 < b % 9223372036854775808) : Calls Tryz.prog 12 #[.float .f64 b] w fun e w' => e = .returned (.float .f64 b) ∧ w' = w := by
  have HN := fun u => isNaNq (decide_eq_true h) u
  clear h
  go_enter Tryz.func12, Tryz.ntmps12
  go_wp2_with fail
  refine (HN _).mono ?_
  rintro e w1 ⟨rfl, rfl⟩
  clear HN
  go_wp2
  go_ret
  exact ⟨rfl, rfl⟩
theorem nextInf {b : Nat} (w : World) (h : b = 9218868437227405312) : Calls Tryz.prog 12 #[.float .f64 b] w fun e w' => e = .returned (.float .f64 b) ∧ w' = w := by
  have HN := fun u => isNaNq (b := b) (t := false) (decide_eq_false (by omega)) u
  have HI := fun u => isInf1q (b := b) (t := true) (by subst h; rfl) u
  clear h
  go_enter Tryz.func12, Tryz.ntmps12
  go_wp2_with fail
  refine (HN _).mono ?_
  rintro e w1 ⟨rfl, rfl⟩
  clear HN
  go_wp2_with fail
  refine (HI _).mono ?_
  rintro e w1 ⟨rfl, rfl⟩
  clear HI
  go_wp2
  go_ret
  exact ⟨rfl, rfl⟩
theorem rankedNz {z : Int} (k : Nat) (w : World) (hz : z = k) (hb : k < 9223372036854775808) : Calls Tryz.prog 36 #[.int .i64 (-1), .int .u64 z] w fun e w' => e = .returned (.float .f64 (if k = 0 then 0 else k + 9223372036854775808)) ∧ w' = w := by
  subst hz
  split
  · rename_i h; subst h; exact rankedN0 w
  · exact rankedN k w (by omega) hb
theorem rankedPz {z : Int} (k : Nat) (w : World) (hz : z = k) : Calls Tryz.prog 36 #[.int .i64 1, .int .u64 z] w fun e w' => e = .returned (.float .f64 k) ∧ w' = w := by
  subst hz; exact rankedP _ w
set_option maxHeartbeats 1000000 in
/-- below nought -/
theorem nextNeg {b r : Nat} (w : World) (hb : b < 18446744073709551616) (hr : b % 9223372036854775808 = r) (h0 : 0 < r) (h1 : r ≤ 9218868437227405312) (hs : 9223372036854775808 ≤ b) : Calls Tryz.prog 12 #[.float .f64 b] w fun e w' => e = .returned (.float .f64 (if r - 1 = 0 then 0 else r - 1 + 9223372036854775808)) ∧ w' = w := by
  have HN := fun u => isNaNq (b := b) (t := false) (decide_eq_false (by omega)) u
  have HI := fun u => isInf1q (b := b) (t := false) (by rw [show b / 9223372036854775808 = 1 by omega]; simp) u
  have HR := fun u => rankOfF b u hb
  rw [hr] at HR
  have HL : (FloatKind.f64.format.order b 0 == some .lt) = true := by
    have := lt_zero b
    rw [hr, show b / 9223372036854775808 = 1 by omega, decide_eq_true h1, decide_eq_true h0] at this
    exact this
  obtain ⟨k, rfl⟩ : ∃ k, r = k + 1 := ⟨r - 1, by omega⟩
  have hw : IntKind.u64.wrap ((k : Int) + 1 - 1) = (k : Int) := by rw [IntKind.wrap_u64]; omega
  have hw2 : IntKind.u64.wrap (k : Int) = (k : Int) := by rw [IntKind.wrap_u64]; omega
  have HZ := fun u z (hz : z = (k : Int)) => rankedNz k u hz (by omega)
  rw [show k + 1 - 1 = k by omega]
  clear hr h0 h1 hs hb
  generalize (if k = 0 then 0 else k + 9223372036854775808) = F at *
  go_enter Tryz.func12, Tryz.ntmps12
  go_wp2_with fail
  refine (HN _).mono ?_
  rintro e w1 ⟨rfl, rfl⟩
  clear HN
  go_wp2_with fail
  refine (HI _).mono ?_
  rintro e w1 ⟨rfl, rfl⟩
  clear HI
  go_wp2_with fail
  refine (HR _).mono ?_
  rintro e w1 ⟨rfl, rfl⟩
  clear HR
  go_wp2_with fail
  refine (HZ _ _ (by first | rfl | exact hw2 | simp | omega)).mono ?_
  rintro e w1 ⟨rfl, rfl⟩
  clear HZ
  go_wp2
  go_ret
  exact ⟨rfl, rfl⟩
set_option maxHeartbeats 1000000 in
/-- nought or above, below infinity -/
theorem nextPos {b r : Nat} (w : World) (hb : b < 18446744073709551616) (hr : b % 9223372036854775808 = r) (h1 : r < 9218868437227405312) (hs : r = 0 ∨ b < 9223372036854775808) : Calls Tryz.prog 12 #[.float .f64 b] w fun e w' => e = .returned (.float .f64 (r + 1)) ∧ w' = w := by
  have HN := fun u => isNaNq (b := b) (t := false) (decide_eq_false (by omega)) u
  have HI := fun u => isInf1q (b := b) (t := false) (by rw [decide_eq_false (by omega)]; rfl) u
  have HR := fun u => rankOfF b u hb
  rw [hr] at HR
  have HL : (FloatKind.f64.format.order b 0 == some .lt) = false := by
    have := lt_zero b
    rw [hr] at this
    refine Eq.trans this ?_
    rcases hs with hs | hs
    · rw [decide_eq_false (show ¬ 0 < r by omega)]; simp
    · rw [show b / 9223372036854775808 = 0 by omega]; simp
  have hw : IntKind.u64.wrap ((r : Int) + 1) = (r : Int) + 1 := by rw [IntKind.wrap_u64]; omega
  have HZ := fun u z (hz : z = ((r + 1 : Nat) : Int)) => rankedPz (r + 1) u hz
  clear hr h1 hs hb
  go_enter Tryz.func12, Tryz.ntmps12
  go_wp2_with fail
  refine (HN _).mono ?_
  rintro e w1 ⟨rfl, rfl⟩
  clear HN
  go_wp2_with fail
  refine (HI _).mono ?_
  rintro e w1 ⟨rfl, rfl⟩
  clear HI
  go_wp2_with fail
  refine (HR _).mono ?_
  rintro e w1 ⟨rfl, rfl⟩
  clear HR
  go_wp2_with fail
  refine (HZ _ _ (by first | rfl | simp | omega)).mono ?_
  rintro e w1 ⟨rfl, rfl⟩
  clear HZ
  go_wp2
  go_ret
  exact ⟨rfl, rfl⟩
end Go.Proofs.YtbkkepbmaadomaaGreatDoor

namespace Go.Proofs.YtbkkepbmaadomaaGreatDoor
open Go.RowKit

/-- the document's: is it finite? -/
theorem finiteD {t : Bool} (b : Nat) (w : World) (h : decide (b % 9223372036854775808 ≤ 9218868437227405311) = t) : Calls Tryz.prog 47 #[.int .u64 (b : Int)] w fun e w' => e = .returned (.bool t) ∧ w' = w := by
  have ht : decide ((b : Int) % 9223372036854775808 ≤ 9218868437227405311) = t := by
    rw [← h]; exact decide_eq_decide.mpr (by omega)
  clear h
  go_enter Tryz.func47, Tryz.ntmps47
  go_wp2
  go_ret
  exact ⟨by simp, rfl⟩
/-- the document's m and e -/
theorem partsD0 (b : Nat) (w : World) (h : b < 4503599627370496) : Calls Tryz.prog 48 #[.int .u64 (b : Int)] w fun e w' => e = .returned (.tuple #[.int .u64 (b : Int), .int .i64 (-1074)]) ∧ w' = w := by
  have h1 : (b : Int) / 4503599627370496 = 0 := by omega
  have h2 : (b : Int) % 4503599627370496 = b := by omega
  have h3 : IntKind.u64.wrap (b : Int) = b := by rw [IntKind.wrap_u64]; omega
  clear h
  go_enter Tryz.func48, Tryz.ntmps48
  go_wp2
  go_ret2
  exact ⟨by simp [h2], rfl⟩
theorem wrapQ' (q : Nat) (h : q < 2048) : wrap64 ((q : Int) - 1075) = (q : Int) - 1075 := by unfold wrap64; omega
theorem wrapR (r : Nat) (h : r < 4503599627370496) : IntKind.u64.wrap ((r : Int) + 4503599627370496) = (r : Int) + 4503599627370496 := by rw [IntKind.wrap_u64]; omega
theorem wrapR0 (r : Nat) (h : r < 9223372036854775808) : IntKind.u64.wrap (r : Int) = (r : Int) := by rw [IntKind.wrap_u64]; omega
set_option maxRecDepth 20000 in
set_option maxHeartbeats 2000000 in
theorem partsD1 {m e : Int} (b : Nat) (w : World) (h : 4503599627370496 ≤ b) (h' : b < 9223372036854775808) (hm : ((b % 4503599627370496 : Nat) : Int) + 4503599627370496 = m) (he : ((b / 4503599627370496 : Nat) : Int) - 1075 = e) : Calls Tryz.prog 48 #[.int .u64 (b : Int)] w fun r w' => r = .returned (.tuple #[.int .u64 m, .int .i64 e]) ∧ w' = w := by
  obtain ⟨q, r, hq, hr, hr', hq1, hq2⟩ : ∃ q r : Nat, b / 4503599627370496 = q ∧ b % 4503599627370496 = r ∧ r < 4503599627370496 ∧ 1 ≤ q ∧ q < 2048 := ⟨_, _, rfl, rfl, by omega, by omega, by omega⟩
  have h1 : (b : Int) / 4503599627370496 = q := by omega
  have h2 : (b : Int) % 4503599627370496 = r := by omega
  have h3 := wrapR0 q (by omega)
  have h4 := wrapR0 r (by omega)
  have h6 := wrapK q hq2
  have h8 : ¬ (q : Int) = 0 := by omega
  rw [hr] at hm; rw [hq] at he
  have h5 : IntKind.u64.wrap ((r : Int) + 4503599627370496) = m ∧ True := ⟨(wrapR r hr').trans hm, trivial⟩
  have h9 := (wrapQ' q hq2).trans he
  clear hm he h h' hq hr hr' hq1 hq2
  go_enter Tryz.func48, Tryz.ntmps48
  go_wp2
  go_ret2
  exact ⟨by simp [h2, h9], rfl⟩
theorem signedD0 (w : World) (g : Bool) : Calls Tryz.prog 61 #[.bool g, .int .u64 0] w fun r w' => r = .returned (.int .u64 0) ∧ w' = w := by
  cases g
  all_goals
    go_enter Tryz.func61, Tryz.ntmps61
    go_wp2
    go_ret
    simp
theorem signedDz {z : Int} (k : Nat) (w : World) (hz : z = k) (hb : k < 9223372036854775808) : Calls Tryz.prog 61 #[.bool true, .int .u64 z] w fun r w' => r = .returned (.int .u64 ((if k = 0 then 0 else k + 9223372036854775808 : Nat) : Int)) ∧ w' = w := by
  subst hz
  split
  · rename_i h; subst h; exact signedD0 w true
  · rename_i h
    have h0 : (0 : Int) < (k : Int) := by omega
    have h1 : IntKind.u64.wrap ((k : Int) + 9223372036854775808) = (k : Int) + 9223372036854775808 := by rw [IntKind.wrap_u64]; omega
    clear h hb
    go_enter Tryz.func61, Tryz.ntmps61
    go_wp2
    go_ret
    exact ⟨by simp, rfl⟩
end Go.Proofs.YtbkkepbmaadomaaGreatDoor

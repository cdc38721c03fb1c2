import Derived.Test.YtbkkepbmaadomaaGreatDoorNtGAll
import Derived.Test.YtbkkepbmaadomaaGreatDoorNtP
import Derived.Test.YtbkkepbmaadomaaGreatDoorNrTAll
import Derived.Test.YtbkkepbmaadomaaGreatDoorRefPow
import Derived.Test.YtbkkepbmaadomaaGreatDoorRefX
import Derived.Test.YtbkkepbmaadomaaGreatDoorRefBits
import Derived.Test.YtbkkepbmaadomaaGreatDoorFmAll
import Derived.Test.YtbkkepbmaadomaaGreatDoorNrCAll
import Derived.Test.YtbkkepbmaadomaaGreatDoorNrGAll
import Derived.Test.YtbkkepbmaadomaaGreatDoorNrL
namespace Go.Proofs.YtbkkepbmaadomaaGreatDoor
open Go.RowKit Go.Shelf

theorem ten_lt (n : Nat) : (10 : Int) ^ n < pw (n + 1) := by
  induction n with
  | zero => decide
  | succ n ih =>
    rw [Int.pow_succ, pw_succ]
    have := pw_pos (n + 1)
    omega
theorem nlt {w : World} {a : Option Addr} {n c : Nat} {x : Int} {S : Nat} (h : Num w a n c x S) : x < pw S := by
  obtain ⟨xs, h1, h2, h3, h4, h5, h6⟩ := h
  rw [← h5]
  have := val_lt h4
  have := pw_mono (show xs.length ≤ S by omega)
  omega
/-- ref4.ten -/
theorem tenD (n : Nat) (w : World) (hn : n ≤ 1000) : Calls Tryz.prog 52 #[.int .i64 n] w fun e w' => ∃ c m k, e = .returned (.slice c m k) ∧ Got w' w.heap.size (.slice c m k) (10 ^ n) (n + 1) ∧ Below w.heap.size w w' := by
  have N0 := (reads_one (w := w) (z := 10)).2 (by decide)
  have hb0 := bel_d0 w (.cells #[.int .u64 10] 22)
  have hs : w.heap.size ≤ (w.alloc (.cells #[.int .u64 10] 22)).heap.size := by simp
  go_enter Tryz.func52, Tryz.ntmps52
  go_wp2_with fail
  generalize w.alloc (.cells #[.int .u64 10] 22) = W0 at *
  obtain ⟨xs, h1, h2, h3, h4, h5, h6⟩ := N0
  have HP := rpowG _ _ _ xs 1 n W0 h1 h2 h6 (by decide) h3 h4 (by omega) (fun _ => by rw [h5]; decide) (fun m hm => by
    rw [h5]
    exact Int.lt_of_lt_of_le (ten_lt m) (pw_mono (by omega)))
  rw [h5] at HP
  refine HP.mono ?_
  rintro e w1 ⟨c, m, k, rfl, G, hx⟩
  replace hb0 := bel_tr hb0 hx
  clear hx h1 h2 h3 h4 h5 h6 HP
  replace G := (G.shrink (ten_lt n)).mono hs
  go_wp2
  go_ret
  exact ⟨c, m, k, rfl, G, hb0⟩
/-- ref.Bits: nought or not -/
theorem rbitsZ {a : Option Addr} {n c : Nat} {x : Int} {S : Nat} (w : World) (h : Num w a n c x S) (hS : S ≤ 400000000) : Calls Tryz.prog 23 #[.slice a n c] w fun e w' => ∃ t : Int, e = .returned (.int .i64 t) ∧ 0 ≤ t ∧ (t = 0 ↔ x = 0) ∧ Below w.heap.size w w' := by
  obtain ⟨xs, h1, h2, h3, h4, h5, h6⟩ := h
  refine (rbits_any a n c xs w h1 h2 (by omega) h3 h4).mono ?_
  rintro e w' ⟨rfl, hb⟩
  refine ⟨_, rfl, ?_⟩
  rw [bits_eq h4, ← h5]
  by_cases ht : tlen xs = 0
  · have e : bitsL xs = 0 := by unfold bitsL; rw [if_pos ht]
    rw [e]
    exact ⟨Int.le_refl _, ⟨fun _ => (tlen_zero h4).1 ht, fun _ => rfl⟩, hb⟩
  · obtain ⟨p, -⟩ := bits_low h4 ht
    exact ⟨by omega, ⟨fun h => by omega, fun h => absurd ((tlen_zero h4).2 h) ht⟩, hb⟩
/-- How twice what is left stands to one. -/
def Rh (k : Nat) (x : Int) (c : Nat) (p : Int) : Prop := p = 2 ∧ Nn k * uT x = (c : Int) * (E4 * vT x) ∨ p = -1 ∧ 2 * (Nn k * uT x) < (2 * (c : Int) + 1) * (E4 * vT x) ∨ p = 0 ∧ 2 * (Nn k * uT x) = (2 * (c : Int) + 1) * (E4 * vT x) ∨ p = 1 ∧ (2 * (c : Int) + 1) * (E4 * vT x) < 2 * (Nn k * uT x)
theorem rest_fk {A B R : Int} {k q : Nat} {x : Int} (hB : 0 < B) (a : A * E4 = Nn k * B) (e : A * uT x = (q : Int) * (B * vT x) + R) (r0 : 0 ≤ R) (r1 : R < B * vT x) : Fk k x q ∧ (R = 0 → Rh k x q 2) ∧ (∀ c : Int, (c = 0 ∧ R * 2 = B * vT x ∨ c = -1 ∧ R * 2 < B * vT x ∨ c = 1 ∧ B * vT x < R * 2) → Rh k x q c) := by
  have hE := E4_pos
  have hp := ev_pos x
  have e1 : Nn k * uT x * B = (q : Int) * (E4 * vT x) * B + R * E4 := by
    have h := congrArg (fun z : Int => z * E4) e
    have h' : A * uT x * E4 = ((q : Int) * (B * vT x) + R) * E4 := h
    rw [show A * uT x * E4 = A * E4 * uT x by generalize E4 = E; ac_rfl, a, Int.add_mul] at h'
    rw [show Nn k * uT x * B = Nn k * B * uT x by ac_rfl, h']
    congr 1
    generalize E4 = E
    ac_rfl
  have hR0 := Int.mul_nonneg r0 (Int.le_of_lt hE)
  have eY : B * vT x * E4 = E4 * vT x * B := by generalize E4 = E; ac_rfl
  have hR1 := Int.mul_lt_mul_of_pos_right r1 hE
  rw [eY] at hR1
  have t1 : ∀ b c : Int, b < c → b * E4 < c * E4 := fun b c h => Int.mul_lt_mul_of_pos_right h hE
  have t2 : R * 2 < B * vT x → R * E4 * 2 < E4 * vT x * B := fun h => by have := t1 _ _ h; rw [eY, show R * 2 * E4 = R * E4 * 2 by generalize E4 = E; ac_rfl] at this; exact this
  have t3 : B * vT x < R * 2 → E4 * vT x * B < R * E4 * 2 := fun h => by have := t1 _ _ h; rw [eY, show R * 2 * E4 = R * E4 * 2 by generalize E4 = E; ac_rfl] at this; exact this
  have t4 : R * 2 = B * vT x → R * E4 * 2 = E4 * vT x * B := fun h => by rw [← eY, ← h]; generalize E4 = E; ac_rfl
  have t0 : R = 0 → R * E4 = 0 := fun h => by rw [h, Int.zero_mul]
  clear t1 eY
  unfold Fk Rh
  generalize R * E4 = RE at *
  generalize Nn k * uT x = V at *
  generalize E4 * vT x = Y at *
  have c1 : ∀ u v : Int, u * B < v * B → u < v := fun u v h => Int.lt_of_mul_lt_mul_right h (Int.le_of_lt hB)
  have c2 : ∀ u v : Int, u * B ≤ v * B → u ≤ v := fun u v h => Int.le_of_mul_le_mul_right h hB
  have c3 : ∀ u v : Int, u * B = v * B → u = v := fun u v h => Int.eq_of_mul_eq_mul_right (by omega) h
  refine ⟨⟨c2 _ _ (by omega), c1 _ _ (by rw [Int.add_mul, Int.add_mul, Int.one_mul]; omega)⟩, fun h => .inl ⟨rfl, c3 _ _ ?_⟩, fun c hc => ?_⟩
  · rw [e1, t0 h, Int.add_zero]
  · have k1 : 2 * V * B = 2 * ((q : Int) * Y * B) + RE * 2 := by rw [Int.mul_assoc, e1]; omega
    have k2 : (2 * (q : Int) + 1) * Y * B = 2 * ((q : Int) * Y * B) + Y * B := by rw [Int.add_mul, Int.add_mul, Int.one_mul]; congr 1; rw [Int.mul_assoc, Int.mul_assoc, Int.mul_assoc]
    rcases hc with ⟨rfl, h⟩ | ⟨rfl, h⟩ | ⟨rfl, h⟩
    · exact .inr (.inr (.inl ⟨rfl, c3 _ _ (by rw [k1, k2, t4 h])⟩))
    · exact .inr (.inl ⟨rfl, c1 _ _ (by rw [k1, k2]; have := t2 h; omega)⟩)
    · exact .inr (.inr (.inr ⟨rfl, c1 _ _ (by rw [k1, k2]; have := t3 h; omega)⟩))
end Go.Proofs.YtbkkepbmaadomaaGreatDoor

namespace Go.Proofs.YtbkkepbmaadomaaGreatDoor
open Go.RowKit Go.Shelf

set_option maxRecDepth 100000 in
set_option maxHeartbeats 4000000 in
/-- ref4.scaled -/
theorem scaledD {f : Bool} {c c' : Option Addr} {n k0 n' k' : Nat} {A B : Int} {k : Nat} (x : Int) (w : World) (ha : Num w c n k0 A 1100) (hb : Num w c' n' k' B 1100) (hB : 0 < B) (ea : A * E4 = Nn k * B) (h1 : -400 ≤ x) (h2 : x ≤ 400) :
    Calls Tryz.prog 22 #[.agg #[.bool f, .slice c n k0, .slice c' n' k'], .int .i64 x] w fun e w' => ∃ (c1 : Option Addr) (n1 k1 q : Nat) (p : Int), e = .returned (.tuple #[.slice c1 n1 k1, .int .i64 p]) ∧ Got w' w.heap.size (.slice c1 n1 k1) (q : Int) 9000 ∧ Fk k x q ∧ Rh k x q p ∧ Below w.heap.size w w' := by
  have HB : Hid (0 < B ∧ A * E4 = Nn k * B) := ⟨hB, ea⟩
  clear hB ea
  have hb0 := bel_d0 w (.cells #[.bool f, .slice c n k0, .slice c' n' k'] 35)
  have V := var3_new w (.bool f) (.slice c n k0) (.slice c' n' k') 35
  replace ha := ha.below hb0
  replace hb := hb.below hb0
  have hs : w.heap.size ≤ (w.alloc (.cells #[.bool f, .slice c n k0, .slice c' n' k'] 35)).heap.size := by simp
  obtain ⟨v0, v1, v2, v3, v4, v5⟩ := id V
  go_enter Tryz.func22, Tryz.ntmps22
  by_cases hx0 : 0 ≤ x
  · obtain ⟨m, hm⟩ := Int.eq_ofNat_of_zero_le hx0
    have hu : A = A * uT x := by unfold uT; rw [show (-x).toNat = 0 by omega, Int.pow_zero, Int.mul_one]
    have hv : B * 10 ^ m = B * vT x := by unfold vT; rw [show x.toNat = m by omega]
    have HT := fun u => tenD m u (by omega)
    rw [← hm] at HT
    have hm2 : m ≤ 400 := by omega
    clear hm
    go_wp2_with fail
    generalize w.alloc (.cells #[.bool f, .slice c n k0, .slice c' n' k'] 35) = W0 at *
    refine (HT _).mono ?_
    rintro e w2 ⟨c4, n4, k4, rfl, G4, hx⟩
    replace ha := ha.below hx
    replace hb := hb.below hx
    replace hs := Nat.le_trans hs hx.size
    replace hb0 := bel_tr hb0 hx
    clear hx HT V v0 v1 v2 v3 v4 v5
    go_wp2_with fail
    refine (rmulV _ (S := 1100) hb (G4.le (by omega)).num (by decide)).mono ?_
    rintro e w3 ⟨c5, n5, k5, rfl, G5, hx⟩
    have N1 := (ha.below hx).upto (show 1100 ≤ 9000 by decide)
    have N2 := (G5.le (show 4 * 1100 + 1 ≤ 9000 by decide)).num
    replace hs := Nat.le_trans hs hx.size
    replace hb0 := bel_tr hb0 hx
    rw [hv] at N2
    rw [hu] at N1
    clear hx ha hb G4 G5 hu hv
    obtain ⟨X, hX⟩ : ∃ X, A * uT x = X := ⟨_, rfl⟩
    obtain ⟨Y, hY⟩ : ∃ Y, B * vT x = Y := ⟨_, rfl⟩
    rw [hX] at N1
    rw [hY] at N2
    have hY0 : 0 < Y := by rw [← hY]; exact Int.mul_pos HB.out.1 (vT_pos x)
    have hX0 := N1.nn
    obtain ⟨q, hq⟩ := Int.eq_ofNat_of_zero_le (Int.ediv_nonneg hX0 (Int.le_of_lt hY0))
    obtain ⟨R, hR⟩ : ∃ R, X % Y = R := ⟨_, rfl⟩
    have hR0 : 0 ≤ R := by rw [← hR]; exact Int.emod_nonneg _ (by omega)
    have hR1 : R < Y := by rw [← hR]; exact Int.emod_lt_of_pos _ hY0
    have hXe : X = (q : Int) * Y + R := by
      have := Int.mul_ediv_add_emod X Y
      rw [hq, hR, Int.mul_comm] at this; omega
    have HRF : Hid (Fk k x q ∧ (R = 0 → Rh k x q 2) ∧ (∀ c : Int, (c = 0 ∧ R * 2 = Y ∨ c = -1 ∧ R * 2 < Y ∨ c = 1 ∧ Y < R * 2) → Rh k x q c)) := by
      have := rest_fk (A := A) (B := B) (R := R) (q := q) (x := x) HB.out.1 HB.out.2 (by rw [hX, hY]; exact hXe) hR0 (by rw [hY]; exact hR1)
      rwa [hY] at this
    have hqX : (q : Int) ≤ X := by
      have : (q : Int) * 1 ≤ (q : Int) * Y := Int.mul_le_mul_of_nonneg_left (by omega) (by omega)
      omega
    have hXl := nlt N1
    have hYl := nlt N2
    clear hX hY hXe HB
    go_wp2_with fail
    refine (rdivV _ N1 N2 (by decide) (by decide) hY0).mono ?_
    rintro e w4 ⟨c1, n1, k1, c2, n2, k2, rfl, G1, G2, hx⟩
    replace N2 := N2.below hx
    replace G1 := G1.mono (B' := w.heap.size) hs
    replace hs := Nat.le_trans hs hx.size
    replace hb0 := bel_tr hb0 hx
    rw [hq] at G1
    rw [hR] at G2
    replace G1 := G1.shrink (m := 9000) (by omega)
    replace G2 := G2.shrink (m := 9000) (by omega)
    clear hx N1 hq hR hXl hYl hqX hX0
    go_wp2_with fail
    refine (rbitsZ _ G2.num (by decide)).mono ?_
    rintro e w5 ⟨t, rfl, ht0, ht, hx⟩
    replace N2 := N2.below hx
    replace G1 := G1.below hx
    replace G2 := G2.below hx
    replace hs := Nat.le_trans hs hx.size
    replace hb0 := bel_tr hb0 hx
    clear hx
    by_cases hz : t = 0
    · have HZ : Hid (Rh k x q 2) := HRF.out.2.1 (ht.1 hz)
      subst hz
      clear ht G2 N2
      go_wp2
      go_ret2
      exact ⟨c1, n1, k1, q, 2, rfl, G1, HRF.out.1, HZ.out, hb0⟩
    · have hz' : (t == 0) = false := beq_false_of_ne hz
      clear ht
      go_wp2_with fail
      refine (rshlG 1 _ G2.num (by decide) (by decide)).mono ?_
      rintro e w6 ⟨c3, n3, k3, rfl, G3, hx⟩
      replace N2 := N2.below hx
      replace G1 := G1.below hx
      replace hb0 := bel_tr hb0 hx
      clear hx G2
      go_wp2_with fail
      refine (refcmpV _ G3.num N2 (by decide) (by decide)).mono ?_
      rintro e w7 ⟨cc, rfl, hc, hx⟩
      replace G1 := G1.below hx
      replace hb0 := bel_tr hb0 hx
      clear hx G3 N2
      have HC : Hid (Rh k x q cc) := HRF.out.2.2 cc hc
      clear hc
      go_wp2
      go_ret2
      exact ⟨c1, n1, k1, q, cc, rfl, G1, HRF.out.1, HC.out, hb0⟩
  · obtain ⟨m, hm⟩ : ∃ m : Nat, -x = (m : Int) := ⟨(-x).toNat, by omega⟩
    have hwm : IntKind.i64.wrap (-x) = (m : Int) := by rw [IntKind.wrap_i64]; omega
    have hu : A * 10 ^ m = A * uT x := by unfold uT; rw [show (-x).toNat = m by omega]
    have hv : B = B * vT x := by unfold vT; rw [show x.toNat = 0 by omega, Int.pow_zero, Int.mul_one]
    have HT := fun u => tenD m u (by omega)
    have hm2 : m ≤ 400 := by omega
    clear hm
    go_wp2_with fail
    generalize w.alloc (.cells #[.bool f, .slice c n k0, .slice c' n' k'] 35) = W0 at *
    refine (HT _).mono ?_
    rintro e w2 ⟨c4, n4, k4, rfl, G4, hx⟩
    replace ha := ha.below hx
    replace hb := hb.below hx
    replace hs := Nat.le_trans hs hx.size
    replace hb0 := bel_tr hb0 hx
    clear hx HT V v0 v1 v2 v3 v4 v5
    go_wp2_with fail
    refine (rmulV _ (S := 1100) ha (G4.le (by omega)).num (by decide)).mono ?_
    rintro e w3 ⟨c5, n5, k5, rfl, G5, hx⟩
    have N2 := (hb.below hx).upto (show 1100 ≤ 9000 by decide)
    have N1 := (G5.le (show 4 * 1100 + 1 ≤ 9000 by decide)).num
    replace hs := Nat.le_trans hs hx.size
    replace hb0 := bel_tr hb0 hx
    rw [hv] at N2
    rw [hu] at N1
    clear hx ha hb G4 G5 hu hv hwm
    obtain ⟨X, hX⟩ : ∃ X, A * uT x = X := ⟨_, rfl⟩
    obtain ⟨Y, hY⟩ : ∃ Y, B * vT x = Y := ⟨_, rfl⟩
    rw [hX] at N1
    rw [hY] at N2
    have hY0 : 0 < Y := by rw [← hY]; exact Int.mul_pos HB.out.1 (vT_pos x)
    have hX0 := N1.nn
    obtain ⟨q, hq⟩ := Int.eq_ofNat_of_zero_le (Int.ediv_nonneg hX0 (Int.le_of_lt hY0))
    obtain ⟨R, hR⟩ : ∃ R, X % Y = R := ⟨_, rfl⟩
    have hR0 : 0 ≤ R := by rw [← hR]; exact Int.emod_nonneg _ (by omega)
    have hR1 : R < Y := by rw [← hR]; exact Int.emod_lt_of_pos _ hY0
    have hXe : X = (q : Int) * Y + R := by
      have := Int.mul_ediv_add_emod X Y
      rw [hq, hR, Int.mul_comm] at this; omega
    have HRF : Hid (Fk k x q ∧ (R = 0 → Rh k x q 2) ∧ (∀ c : Int, (c = 0 ∧ R * 2 = Y ∨ c = -1 ∧ R * 2 < Y ∨ c = 1 ∧ Y < R * 2) → Rh k x q c)) := by
      have := rest_fk (A := A) (B := B) (R := R) (q := q) (x := x) HB.out.1 HB.out.2 (by rw [hX, hY]; exact hXe) hR0 (by rw [hY]; exact hR1)
      rwa [hY] at this
    have hqX : (q : Int) ≤ X := by
      have : (q : Int) * 1 ≤ (q : Int) * Y := Int.mul_le_mul_of_nonneg_left (by omega) (by omega)
      omega
    have hXl := nlt N1
    have hYl := nlt N2
    clear hX hY hXe HB
    go_wp2_with fail
    refine (rdivV _ N1 N2 (by decide) (by decide) hY0).mono ?_
    rintro e w4 ⟨c1, n1, k1, c2, n2, k2, rfl, G1, G2, hx⟩
    replace N2 := N2.below hx
    replace G1 := G1.mono (B' := w.heap.size) hs
    replace hs := Nat.le_trans hs hx.size
    replace hb0 := bel_tr hb0 hx
    rw [hq] at G1
    rw [hR] at G2
    replace G1 := G1.shrink (m := 9000) (by omega)
    replace G2 := G2.shrink (m := 9000) (by omega)
    clear hx N1 hq hR hXl hYl hqX hX0
    go_wp2_with fail
    refine (rbitsZ _ G2.num (by decide)).mono ?_
    rintro e w5 ⟨t, rfl, ht0, ht, hx⟩
    replace N2 := N2.below hx
    replace G1 := G1.below hx
    replace G2 := G2.below hx
    replace hs := Nat.le_trans hs hx.size
    replace hb0 := bel_tr hb0 hx
    clear hx
    by_cases hz : t = 0
    · have HZ : Hid (Rh k x q 2) := HRF.out.2.1 (ht.1 hz)
      subst hz
      clear ht G2 N2
      go_wp2
      go_ret2
      exact ⟨c1, n1, k1, q, 2, rfl, G1, HRF.out.1, HZ.out, hb0⟩
    · have hz' : (t == 0) = false := beq_false_of_ne hz
      clear ht
      go_wp2_with fail
      refine (rshlG 1 _ G2.num (by decide) (by decide)).mono ?_
      rintro e w6 ⟨c3, n3, k3, rfl, G3, hx⟩
      replace N2 := N2.below hx
      replace G1 := G1.below hx
      replace hb0 := bel_tr hb0 hx
      clear hx G2
      go_wp2_with fail
      refine (refcmpV _ G3.num N2 (by decide) (by decide)).mono ?_
      rintro e w7 ⟨cc, rfl, hc, hx⟩
      replace G1 := G1.below hx
      replace hb0 := bel_tr hb0 hx
      clear hx G3 N2
      have HC : Hid (Rh k x q cc) := HRF.out.2.2 cc hc
      clear hc
      go_wp2
      go_ret2
      exact ⟨c1, n1, k1, q, cc, rfl, G1, HRF.out.1, HC.out, hb0⟩
set_option maxRecDepth 100000 in
set_option maxHeartbeats 4000000 in
/-- ref4.decimal -/
theorem decimalD {c : Option Addr} {n k0 : Nat} (D : Nat) (x : Int) (w : World) (hd : Num w c n k0 (D : Int) 9100) (h1 : -400 ≤ x) (h2 : x ≤ 400) :
    Calls Tryz.prog 26 #[.slice c n k0, .int .i64 x] w fun e w' => ∃ c1 n1 k1 c2 n2 k2, e = .returned (.agg #[.bool false, .slice c1 n1 k1, .slice c2 n2 k2]) ∧ TR w' false c1 n1 k1 c2 n2 k2 (dec D x) 40000 ∧ Below w.heap.size w w' := by
  have hdl := hd
  have R0 := var3_new w (.bool false) (.slice none 0 0) (.slice none 0 0) 35
  have hb0 := bel_d0 w (.cells #[.bool false, .slice none 0 0, .slice none 0 0] 35)
  have hsz : w.heap.size + 1 ≤ (w.alloc (.cells #[.bool false, .slice none 0 0, .slice none 0 0] 35)).heap.size := by simp
  replace hd := hd.below hb0
  go_enter Tryz.func26, Tryz.ntmps26
  by_cases hx0 : 0 ≤ x
  · obtain ⟨m, hm⟩ := Int.eq_ofNat_of_zero_le hx0
    have hv : (D : Int) * 10 ^ m = (D : Int) * vT x := by unfold vT; rw [show x.toNat = m by omega]
    have HU : Hid (uT x = 1) := by show _ = _; unfold uT; rw [show (-x).toNat = 0 by omega, Int.pow_zero]
    have HT := fun u => tenD m u (by omega)
    rw [← hm] at HT
    have hm2 : m ≤ 400 := by omega
    clear hm
    go_wp2_with fail
    generalize w.alloc (.cells #[.bool false, .slice none 0 0, .slice none 0 0] 35) = W0 at *
    refine (HT _).mono ?_
    rintro e w2 ⟨c4, n4, k4, rfl, G4, hx⟩
    replace hd := hd.below hx
    replace R0 := R0.below hx
    replace hsz := Nat.le_trans hsz hx.size
    replace hb0 := bel_tr hb0 hx
    clear hx HT
    go_wp2_with fail
    refine (rmulV _ (S := 9100) hd (G4.le (by omega)).num (by decide)).mono ?_
    rintro e w3 ⟨c5, n5, k5, rfl, G5, hx⟩
    replace R0 := R0.below hx
    replace G5 := (G5.le (show 4 * 9100 + 1 ≤ 40000 by decide)).mono (B' := w.heap.size + 1) hsz
    replace hsz := Nat.le_trans hsz hx.size
    replace hb0 := bel_tr hb0 hx
    rw [hv] at G5
    clear hx hd G4 hv
    have N9 := (reads_one (w := w3) (z := 1)).2 (by decide)
    have hx := bel_d0 w3 (.cells #[.int .u64 1] 22)
    replace R0 := R0.below hx
    replace G5 := G5.below hx
    replace hb0 := bel_tr hb0 hx
    clear hx
    obtain ⟨r0c0, r0c1, r0c2, r0c3, r0c4, r0c5⟩ := id R0
    obtain ⟨V, OO⟩ := R0.set (.bool false) (.slice c5 n5 k5) (.slice (some ⟨w3.heap.size, 0, none⟩) 1 1)
    have hw := hb0.trans (OO.below (B := w.heap.size) (by omega))
    have GF := G5.off OO (by omega)
    have NF := N9.offB OO (by omega)
    clear G5 R0 OO hb0 N9
    go_wp2
    refine bodyPost_ret (v := .agg #[.bool false, .slice c5 n5 k5, .slice (some ⟨w3.heap.size, 0, none⟩) 1 1]) (by simp [results, Tryz.results26, go_sem, V.c0, V.c1, V.c2]) rfl ⟨_, _, _, _, _, _, rfl, ⟨_, _, ⟨_, GF.num, rfl⟩, NF.upto (by decide), ?_⟩, hw⟩
    show Rat.divInt _ _ = dec D x
    unfold dec
    rw [HU.out]
    rfl
  · obtain ⟨m, hm⟩ : ∃ m : Nat, -x = (m : Int) := ⟨(-x).toNat, by omega⟩
    have hwm : IntKind.i64.wrap (-x) = (m : Int) := by rw [IntKind.wrap_i64]; omega
    have hu : (10 : Int) ^ m = uT x := by unfold uT; rw [show (-x).toNat = m by omega]
    have HV : Hid (vT x = 1) := by show _ = _; unfold vT; rw [show x.toNat = 0 by omega, Int.pow_zero]
    have HT := fun u => tenD m u (by omega)
    have hm2 : m ≤ 400 := by omega
    clear hm
    go_wp2_with fail
    generalize w.alloc (.cells #[.bool false, .slice none 0 0, .slice none 0 0] 35) = W0 at *
    refine (HT _).mono ?_
    rintro e w2 ⟨c4, n4, k4, rfl, G4, hx⟩
    replace R0 := R0.below hx
    replace hb0 := bel_tr hb0 hx
    replace G4 := (G4.le (show m + 1 ≤ 40000 by omega)).mono (B' := w.heap.size + 1) (by omega)
    have hd2 := hd.below hx
    rw [hu] at G4
    clear hx HT hwm hu
    obtain ⟨r0c0, r0c1, r0c2, r0c3, r0c4, r0c5⟩ := id R0
    obtain ⟨V, OO⟩ := R0.set (.bool false) (.slice c n k0) (.slice c4 n4 k4)
    have hw := hb0.trans (OO.below (B := w.heap.size) (by omega))
    have GF := G4.off OO (by omega)
    have NF := (hdl.below hw).upto (show 9100 ≤ 40000 by decide)
    clear G4 R0 OO hb0 hd2
    go_wp2
    refine bodyPost_ret (v := .agg #[.bool false, .slice c n k0, .slice c4 n4 k4]) (by simp [results, Tryz.results26, go_sem, V.c0, V.c1, V.c2]) rfl ⟨_, _, _, _, _, _, rfl, ⟨_, _, ⟨_, NF, rfl⟩, GF.num, ?_⟩, hw⟩
    show Rat.divInt _ _ = dec D x
    unfold dec
    rw [HV.out, Int.mul_one]
    rfl
end Go.Proofs.YtbkkepbmaadomaaGreatDoor

namespace Go.Proofs.YtbkkepbmaadomaaGreatDoor
open Go.RowKit Go.Shelf

theorem vS_par (us : List Int) (n : Nat) : ∃ z : Int, vS us (n + 1) = lm us 0 + 2 * z := by
  induction n with
  | zero => exact ⟨0, by show vS us 0 + lm us 0 * pw 0 = _; show 0 + lm us 0 * 1 = _; omega⟩
  | succ n ih =>
    obtain ⟨z, hz⟩ := ih
    refine ⟨z + lm us (n + 1) * pw n * 9223372036854775808, ?_⟩
    show vS us (n + 1) + lm us (n + 1) * pw (n + 1) = _
    rw [hz, pw_succ, ← Int.mul_assoc]
    generalize lm us (n + 1) * pw n = t
    omega
/-- The first limb of a number above nought: its cell, and whether it is even. -/
theorem num_limb {w : World} {a : Option Addr} {n c : Nat} {q : Nat} {S : Nat} (h : Num w a n c (q : Int) S) (hq : 1 ≤ q) : ∃ (g o : Nat) (v : Int), a = some ⟨g, o, none⟩ ∧ 0 < n ∧ w.cell? ⟨g, o, none⟩ = some (.int .u64 v) ∧ 0 ≤ v ∧ (v % 2 = 0 ↔ q % 2 = 0) := by
  obtain ⟨xs, h1, h2, h3, h4, h5, h6⟩ := h
  rcases h3 with h3 | ⟨g, o, rfl, hc⟩
  · subst h3
    exfalso
    have : (0 : Int) = q := h5
    omega
  · have hl : 0 < xs.length := by
      rcases Nat.eq_zero_or_pos xs.length with h | h
      · exfalso
        have e : val xs = 0 := by unfold val; rw [h]; rfl
        omega
      · exact h
    have hc0 := hc 0 hl
    obtain ⟨z, hz⟩ := vS_par xs (xs.length - 1)
    rw [show xs.length - 1 + 1 = xs.length by omega] at hz
    have hv : (q : Int) = lm xs 0 + 2 * z := by rw [← h5]; exact hz
    have h0 := (h4.at 0).1
    exact ⟨g, o, lm xs 0, rfl, by omega, by rw [Nat.add_zero] at hc0; exact hc0, h0, by omega⟩
theorem exact_rk {k c : Nat} {x : Int} (hk : k < 9218868437227405312) (h : Nn k * uT x = (c : Int) * (E4 * vT x)) : Rk k c x := by
  refine ⟨4 * k, ⟨by omega, .inl ⟨by omega, ?_⟩⟩, by unfold nrz; omega⟩
  rw [show 4 * k / 2 = 2 * k by omega, Nn_two, Int.mul_assoc, h]
  generalize E4 = E
  congr 1
  ac_rfl
theorem Fk.ex (k : Nat) (x : Int) : ∃ q, Fk k x q := by
  have hY := ev_pos x
  have hN : 0 ≤ Nn k * uT x := Int.mul_nonneg (by unfold Nn; omega) (Int.le_of_lt (uT_pos x))
  obtain ⟨q, hq⟩ := Int.eq_ofNat_of_zero_le (Int.ediv_nonneg hN (Int.le_of_lt hY))
  refine ⟨q, ?_⟩
  unfold Fk
  have h1 := Int.mul_ediv_add_emod (Nn k * uT x) (E4 * vT x)
  have h2 := Int.emod_nonneg (Nn k * uT x) (show E4 * vT x ≠ 0 by omega)
  have h3 := Int.emod_lt_of_pos (Nn k * uT x) hY
  rw [hq, Int.mul_comm] at h1
  refine ⟨by omega, ?_⟩
  rw [Int.add_mul, Int.one_mul]; omega
theorem Fk.mul {k q : Nat} {x : Int} (h : Fk k x q) (n : Nat) {p : Nat} (g : Fk k (x + n) p) : q / 10 ^ n = p := by
  induction n generalizing p with
  | zero =>
    rw [show x + ((0 : Nat) : Int) = x by omega] at g
    rw [Nat.pow_zero, Nat.div_one]; exact h.uniq g
  | succ n ih =>
    obtain ⟨m, hm⟩ := Fk.ex k (x + n)
    have e := ih hm
    have hu := hm.up
    rw [show x + ((n : Nat) : Int) + 1 = x + ((n + 1 : Nat) : Int) by omega] at hu
    rw [Nat.pow_succ, ← Nat.div_div_eq_div_mul, e]
    exact hu.uniq g
theorem low330 : (2 : Int) ^ 1074 ≤ 10 ^ 330 := by decide +kernel
theorem Fk.first {k : Nat} (hk : 1 ≤ k) : ∃ q, Fk k (-330) q ∧ 1 ≤ q := by
  obtain ⟨q, hq⟩ := Fk.ex k (-330)
  refine ⟨q, hq, ?_⟩
  rcases Nat.eq_zero_or_pos q with h | h
  · exfalso
    subst h
    have h2 := hq.2
    have hv : vT (-330) = 1 := by decide
    have hu : (2 : Int) ^ 1074 ≤ uT (-330) := low330
    rw [hv, Int.mul_one] at h2
    have hE : E4 = 2 ^ 1074 := rfl
    have h3 : 1 * uT (-330) ≤ Nn k * uT (-330) := Int.mul_le_mul_of_nonneg_right (by have := Nn_pos (n := k) (by omega); omega) (Int.le_of_lt (uT_pos _))
    rw [← hE] at hu
    generalize uT (-330) = u at *
    generalize Nn k * u = V at *
    have h4 : V < E4 := by simpa using h2
    omega
  · exact h
theorem top320 : ((2 ^ (53 + 2046) : Nat) : Int) < E4 * vT 320 := by decide +kernel
theorem Fk.last {k q : Nat} {x : Int} (hk : k < 9218868437227405312) (h : Fk k x q) (hq : 1 ≤ q) : x < 320 := by
  rcases Int.lt_or_le x 320 with h1 | h1
  · exact h1
  · exfalso
    obtain ⟨N, hN⟩ : ∃ N, N = 2046 := ⟨_, rfl⟩
    have hn : Nn k < ((2 ^ (53 + N) : Nat) : Int) := by
      obtain ⟨m, s, e, hm⟩ := NB_at (B := 4503599627370496) (by decide) k
      rw [(Nn_m e hm).1]
      exact nn_lt (by omega) (by omega)
    have ht : ((2 ^ (53 + N) : Nat) : Int) < E4 * vT 320 := by subst hN; exact top320
    have h2 : Nn k * uT 320 < E4 * vT 320 := by
      have e1 : uT 320 = 1 := by decide
      rw [e1, Int.mul_one]
      exact Int.lt_trans hn ht
    have h3 := above_up h2 (x - 320).toNat
    rw [show (320 : Int) + ((x - 320).toNat : Int) = x by omega] at h3
    have h4 := Int.lt_of_le_of_lt h.1 h3
    have h5 : 1 * (E4 * vT x) ≤ (q : Int) * (E4 * vT x) := Int.mul_le_mul_of_nonneg_right (by omega) (Int.le_of_lt (ev_pos x))
    omega
theorem Rh.lw {k c : Nat} {x p : Int} (h : Rh k x c p) : Lw k x c ↔ p = 2 ∨ p = -1 ∨ p = 0 ∧ c % 2 = 0 := by
  have hY := ev_pos x
  unfold Lw
  unfold Rh at h
  have e : (2 * (c : Int) + 1) * (E4 * vT x) = 2 * ((c : Int) * (E4 * vT x)) + E4 * vT x := by rw [Int.add_mul, Int.one_mul, Int.mul_assoc]
  simp only [e] at h ⊢
  clear e
  generalize (c : Int) * (E4 * vT x) = cy at *
  generalize E4 * vT x = Y at *
  generalize Nn k * uT x = V at *
  omega
/-- What is picked at x. -/
theorem pick {k q d1 : Nat} {x x1 p : Int} {dn up ev : Bool} (O : Ou k d1 x1) (hx : x1 ≤ x) (hq : 1 ≤ q) (h : Fk k x q) (R : Rh k x q p) (hdn : dn = true ↔ Rk k q x) (hup : up = true ↔ Rk k (q + 1) x) (hev : ev = true ↔ q % 2 = 0) :
    (dn = true → (p = 2 ∨ p = -1 ∨ p = 0 ∧ ev = true ∨ up = false) → x = x1 ∧ d1 = q) ∧ (up = true → (dn = false ∨ ¬ p = 2 ∧ ¬ p = -1 ∧ ¬ (p = 0 ∧ ev = true)) → x = x1 ∧ d1 = q + 1) ∧ (dn = false → up = false → x1 < x) := by
  have hL := R.lw
  rw [← hev] at hL
  obtain ⟨hb, c, hc, c1, hd⟩ := O
  have hxx : (Rk k q x ∨ Rk k (q + 1) x) → x = x1 := fun hr => by
    rcases (by omega : x = x1 ∨ x1 < x) with h1 | h1
    · exact h1
    · exfalso
      rcases hb x q h1 h with h2 | ⟨h2, h3⟩
      · omega
      · exact hr.elim h2 h3
  refine ⟨fun e1 e2 => ?_, fun e1 e2 => ?_, fun e1 e2 => ?_⟩
  · have e := hxx (.inl (hdn.1 e1))
    subst e
    obtain rfl := hc.uniq h
    refine ⟨rfl, ?_⟩
    rcases hd with ⟨h1, -, -⟩ | ⟨h1, h2, h3⟩
    · exact h1
    · exfalso
      rcases h3 with h3 | h3
      · rw [hL] at h3
        have := hup.2 h2
        rcases e2 with e2 | e2 | e2 | e2
        · exact h3 (.inl e2)
        · exact h3 (.inr (.inl e2))
        · exact h3 (.inr (.inr e2))
        · rw [e2] at this; cases this
      · exact h3 (hdn.1 e1)
  · have e := hxx (.inr (hup.1 e1))
    subst e
    obtain rfl := hc.uniq h
    refine ⟨rfl, ?_⟩
    rcases hd with ⟨h1, h2, h3⟩ | ⟨h1, -, -⟩
    · exfalso
      have e3 := hdn.2 h2
      rcases e2 with e2 | e2
      · rw [e2] at e3; cases e3
      · rcases h3 with h3 | h3
        · rcases hL.1 h3 with h4 | h4 | h4
          · exact e2.1 h4
          · exact e2.2.1 h4
          · exact e2.2.2 h4
        · exact h3 (hup.1 e1)
    · exact h1
  · rcases (by omega : x = x1 ∨ x1 < x) with h1 | h1
    · exfalso
      subst h1
      obtain rfl := hc.uniq h
      rcases hd with ⟨-, h2, -⟩ | ⟨-, h2, -⟩
      · have := hdn.2 h2; rw [e1] at this; cases this
      · have := hup.2 h2; rw [e2] at this; cases this
    · exact h1
/-- At most seventeen rounds. -/
theorem rounds17 {k d1 q : Nat} {x1 j : Int} (O : Ou k d1 x1) (hk : 1 ≤ k) (hki : k < 9218868437227405312) (h : Fk k j q) (hq : 1 ≤ q) (h0 : Fk k (j + 1) 0) : x1 ≤ j ∧ j - 16 ≤ x1 := by
  obtain ⟨hb, c, hc, c1, -⟩ := O
  have hu := hc.up
  have hcs : c / 10 < 10000000000000000 := by
    rcases Nat.lt_or_ge (c / 10) 10000000000000000 with h | h
    · exact h
    · exfalso
      rcases hb (x1 + 1) (c / 10) (by omega) hu with hn | ⟨n1, n2⟩
      · omega
      · rcases stop17 hk hki hu h with h | h
        · exact n1 h
        · exact n2 h
  constructor
  · rcases Int.lt_or_le j x1 with h1 | h1
    · exfalso
      obtain ⟨n, hn⟩ : ∃ n : Nat, x1 = j + 1 + n := ⟨(x1 - (j + 1)).toNat, by omega⟩
      rw [hn] at hc
      have := h0.mul n hc
      rw [Nat.zero_div] at this
      omega
    · exact h1
  · rcases Int.lt_or_le x1 (j - 16) with h1 | h1
    · exfalso
      obtain ⟨n, hn⟩ : ∃ n : Nat, j = x1 + ((n + 17 : Nat) : Int) := ⟨(j - 17 - x1).toNat, by omega⟩
      rw [hn] at h
      have e := hc.mul (n + 17) h
      have h2 : 10 ^ 17 ≤ 10 ^ (n + 17) := Nat.pow_le_pow_right (by decide) (by omega)
      have h3 : c < 10 ^ (n + 17) := by have : (10 : Nat) ^ 17 = 100000000000000000 := by decide
                                        omega
      rw [Nat.div_eq_of_lt h3] at e
      omega
    · exact h1
theorem gr_num {w : World} {B : Nat} {f : Bool} {c : Option Addr} {n k : Nat} {c' : Option Addr} {n' k' : Nat} {r : Rat} {S : Nat} (h : GR w B f c n k c' n' k' r S) (h0 : 0 < r.num) : Num w c n k r.num S ∧ Num w c' n' k' r.den S := by
  obtain ⟨⟨a, m, l, e, G⟩, H⟩ := h
  simp only [Value.agg.injEq, Array.mk.injEq, List.cons.injEq, Value.slice.injEq, and_true] at e
  obtain ⟨-, rfl, rfl, rfl⟩ := e
  rw [show (r.num.natAbs : Int) = r.num by omega] at G
  exact ⟨G.num, H.num⟩
theorem exr_pos {k : Nat} (hk : 1 ≤ k) : 0 < (exr (k : Int)).num ∧ (exr (k : Int)).num * E4 = Nn k * (exr (k : Int)).den := by
  have e := gz_eq (k : Int)
  rw [Gz_pos (by omega) rfl] at e
  have hd := den_pos (exr (k : Int))
  have hp := Int.mul_pos (Nn_pos (n := k) (by omega)) hd
  exact ⟨sg_pos (by rw [← e]; exact hp), e.symm⟩
/-- ref4.Exact by a rank -/
theorem exactDk (k : Nat) (w : World) (h : k < 9218868437227405312) :
    Calls Tryz.prog 21 #[.int .u64 (k : Int)] w fun e w' => ∃ f c n k2 c' n' k', e = .returned (.tuple #[.agg #[.bool f, .slice c n k2, .slice c' n' k'], .int .i64 0]) ∧ GR w' w.heap.size f c n k2 c' n' k' (exr k) 1026 ∧ Below w.heap.size w w' := by
  have hm : (k : Int) % 9223372036854775808 = (k : Int) := by omega
  have hm2 : k % 9223372036854775808 = k := by omega
  have hsg : decide (9223372036854775808 ≤ (k : Int)) = false := decide_eq_false (by omega)
  have hG : exr (k : Int) = Rat.divInt (ws false (Nn k)) E4 := by unfold exr; rw [Gz_pos (by omega) rfl]; rfl
  rw [hG]
  by_cases hk : k < 4503599627370496
  · have hN : Nn k = (k : Int) * 2 ^ 0 := (Nn_m (k := k) (s := 0) (m := k) (by omega) (.inl ⟨rfl, by omega⟩)).1
    refine (exactDD (m := (k : Int)) (q := 1074) w (by omega) (fun u => ?_) (by omega) (by omega) (by decide) hsg).mono ?_
    · rw [hm]; exact partsD0 _ u hk
    · rintro e w' ⟨f, c, n, k2, c', n', k', rfl, G, hx⟩
      exact ⟨f, c, n, k2, c', n', k', rfl, G.val (exrD (b := false) hN rfl), hx⟩
  · obtain ⟨s, hs⟩ : ∃ s, k / 4503599627370496 = s + 1 := ⟨k / 4503599627370496 - 1, by omega⟩
    have hN : Nn k = ((k % 4503599627370496 + 4503599627370496 : Nat) : Int) * 2 ^ s := (Nn_m (k := k) (s := s) (m := k % 4503599627370496 + 4503599627370496) (by omega) (.inr ⟨by omega, by omega⟩)).1
    by_cases hq : 1074 ≤ s
    · refine (exactDU (m := ((k % 4503599627370496 + 4503599627370496 : Nat) : Int)) (q := s - 1074) w (by omega) (fun u => ?_) (by omega) (by omega) (by omega) hsg).mono ?_
      · rw [hm]; exact partsD1 _ u (by omega) (by omega) (by omega) (by omega)
      · rintro e w' ⟨f, c, n, k2, c', n', k', rfl, G, hx⟩
        exact ⟨f, c, n, k2, c', n', k', rfl, G.val (exrU (b := false) hN (by omega)), hx⟩
    · refine (exactDD (m := ((k % 4503599627370496 + 4503599627370496 : Nat) : Int)) (q := 1074 - s) w (by omega) (fun u => ?_) (by omega) (by omega) (by omega) hsg).mono ?_
      · rw [hm]; exact partsD1 _ u (by omega) (by omega) (by omega) (by omega)
      · rintro e w' ⟨f, c, n, k2, c', n', k', rfl, G, hx⟩
        exact ⟨f, c, n, k2, c', n', k', rfl, G.val (exrD (b := false) hN (by omega)), hx⟩
end Go.Proofs.YtbkkepbmaadomaaGreatDoor

namespace Go.Proofs.YtbkkepbmaadomaaGreatDoor
open Go.RowKit Go.Shelf

/-- A sign ahead. -/
def sgt (neg : Bool) : ByteArray := if neg then ⟨#[45]⟩ else ⟨#[]⟩
theorem nil_app (s : ByteArray) : (⟨#[]⟩ : ByteArray) ++ s = s := by apply ByteArray.ext; simp [ByteArray.data_append]
set_option maxRecDepth 100000 in
set_option maxHeartbeats 8000000 in
/-- ref4.told -/
theorem toldD {neg : Bool} {c : Option Addr} {n k0 : Nat} {D F : Nat} {x y : Int} (w : World) (hd : Num w c n k0 (D : Int) 9100) (h1 : 1 ≤ D) (hD : D < 9223372036854775808) (hF : ¬ D % 10 = 0 ∧ F = D ∧ y = x ∨ D = 10 ∧ F = 1 ∧ y = x + 1) (x1 : -400 ≤ x) (x2 : x ≤ 400) (hT : TP w) :
    Calls Tryz.prog 27 #[.bool neg, .slice c n k0, .int .i64 x] w fun e w' => e = .returned (.string (sgt neg ++ dtx F y)) ∧ Below w.heap.size w w' := by
  have hF1 : 1 ≤ F ∧ ¬ F % 10 = 0 ∧ F < 9223372036854775808 := by omega
  have hyb : -401 ≤ y ∧ y ≤ 401 := by omega
  have HIT := fun (h : ¬ y = 0) u hu => (itoa_txt y h) ▸ itoaI y (by omega) (by omega) u hu
  go_enter Tryz.func27, Tryz.ntmps27
  go_wp2_with fail
  refine (rtextV _ hd (by decide)).mono ?_
  rintro e w1 ⟨rfl, hb0⟩
  have hT2 := hT.below hb0
  clear hd hT
  go_wp2
  go_loopw [7, 2] (fun sv xv wr => wr = w1 ∧ (sv = .string (txt F) ∧ xv = .int .i64 y ∨ D = 10 ∧ F = 1 ∧ y = x + 1 ∧ sv = .string (txt 10) ∧ xv = .int .i64 x)) (fun sv _ _ => strLen sv)
  case atStart =>
    refine ⟨rfl, ?_⟩
    rcases hF with ⟨_, rfl, rfl⟩ | ⟨rfl, rfl, rfl⟩
    · exact .inl ⟨rfl, rfl⟩
    · exact .inr ⟨rfl, rfl, rfl, rfl, rfl⟩
  case round =>
    obtain ⟨rfl, hrel⟩ := hrel
    rcases hrel with ⟨rfl, rfl⟩ | ⟨_, rfl, rfl, rfl, rfl⟩
    · obtain ⟨z1, z2⟩ := size_txt18 hF1.2.2
      have hl := txt_last hF1.1
      obtain ⟨td, htd⟩ : ∃ td, txt F = td := ⟨_, rfl⟩
      have HFT : Hid (txt F = td) := htd
      rw [htd] at z1 z2 hl ⊢
      obtain ⟨M, hM⟩ : ∃ M, td.size = M + 1 := ⟨td.size - 1, by omega⟩
      have hMs : M < td.size := by omega
      have hMsI : (M : Int) < (td.size : Int) := by omega
      have hM0 : (0 : Int) ≤ (M : Int) := by omega
      have w1' : IntKind.i64.wrap ((td.size : Int) - 1) = (M : Int) := by rw [IntKind.wrap_i64]; omega
      have byM := byt_get hMs
      rw [show td.size - 1 = M by omega] at hl
      rw [hl] at byM
      obtain ⟨Z, hZ⟩ : ∃ Z, 48 + ((F % 10 : Nat) : Int) = Z := ⟨_, rfl⟩
      rw [hZ] at byM
      have hZ8 : ¬ Z = 48 := by omega
      have hZb : (Z == 48) = false := beq_false_of_ne hZ8
      by_cases h2 : 1 < td.size
      · have h2i : (1 : Int) < (td.size : Int) := by omega
        clear hM hl hZ htd hF
        have hT := hT2
        cases neg
        · by_cases hy0 : y = 0
          · have HE : Hid (sgt false ++ dtx F y = td) := by show _ = _; unfold dtx sgt; rw [if_pos hy0, HFT.out]; exact nil_app _
            subst hy0
            clear HIT
            go_wp2
            go_ret
            exact ⟨by rw [HE.out]; rfl, hb0⟩
          · have hy0' : (y == 0) = false := beq_false_of_ne hy0
            have HE : Hid (sgt false ++ dtx F y = td ++ ⟨#[101]⟩ ++ txtI y) := by show _ = _; unfold dtx sgt; rw [if_neg hy0, HFT.out]; show (⟨#[]⟩ ++ (td ++ (⟨#[101]⟩ ++ txtI y)) : ByteArray) = _; rw [nil_app, ByteArray.append_assoc]
            have HI2 := HIT hy0
            have hz1 := size_txtI (k := y) (by omega)
            clear HIT
            go_wp2_with fail
            refine (HI2 _ hT).mono ?_
            rintro e w4 ⟨rfl, hx⟩
            replace hb0 := bel_tr hb0 hx
            clear hx HI2 hT
            generalize txtI y = tx at *
            have c1 : ¬ 9223372036854775807 < td.size + 1 := by omega
            have c2 : ¬ 9223372036854775807 < td.size + 1 + tx.size := by omega
            go_wp2
            go_ret
            exact ⟨by rw [HE.out]; rfl, hb0⟩
        · have c0 : ¬ 9223372036854775807 < 1 + td.size := by omega
          by_cases hy0 : y = 0
          · have HE : Hid (sgt true ++ dtx F y = ⟨#[45]⟩ ++ td) := by show _ = _; unfold dtx sgt; rw [if_pos hy0, HFT.out]; rfl
            subst hy0
            clear HIT
            go_wp2
            go_ret
            exact ⟨by rw [HE.out]; rfl, hb0⟩
          · have hy0' : (y == 0) = false := beq_false_of_ne hy0
            have HE : Hid (sgt true ++ dtx F y = ⟨#[45]⟩ ++ td ++ ⟨#[101]⟩ ++ txtI y) := by show _ = _; unfold dtx sgt; rw [if_neg hy0, HFT.out]; show (⟨#[45]⟩ ++ (td ++ (⟨#[101]⟩ ++ txtI y)) : ByteArray) = _; rw [ByteArray.append_assoc, ByteArray.append_assoc]
            have HI2 := HIT hy0
            have hz1 := size_txtI (k := y) (by omega)
            clear HIT
            go_wp2_with fail
            refine (HI2 _ hT).mono ?_
            rintro e w4 ⟨rfl, hx⟩
            replace hb0 := bel_tr hb0 hx
            clear hx HI2 hT
            generalize txtI y = tx at *
            have c1 : ¬ 9223372036854775807 < 1 + td.size + 1 := by omega
            have c2 : ¬ 9223372036854775807 < 1 + td.size + 1 + tx.size := by omega
            go_wp2
            go_ret
            exact ⟨by rw [HE.out]; rfl, hb0⟩
      · have h2i : ¬ (1 : Int) < (td.size : Int) := by omega
        clear hM hl hZ htd hF
        have hT := hT2
        cases neg
        · by_cases hy0 : y = 0
          · have HE : Hid (sgt false ++ dtx F y = td) := by show _ = _; unfold dtx sgt; rw [if_pos hy0, HFT.out]; exact nil_app _
            subst hy0
            clear HIT
            go_wp2
            go_ret
            exact ⟨by rw [HE.out]; rfl, hb0⟩
          · have hy0' : (y == 0) = false := beq_false_of_ne hy0
            have HE : Hid (sgt false ++ dtx F y = td ++ ⟨#[101]⟩ ++ txtI y) := by show _ = _; unfold dtx sgt; rw [if_neg hy0, HFT.out]; show (⟨#[]⟩ ++ (td ++ (⟨#[101]⟩ ++ txtI y)) : ByteArray) = _; rw [nil_app, ByteArray.append_assoc]
            have HI2 := HIT hy0
            have hz1 := size_txtI (k := y) (by omega)
            clear HIT
            go_wp2_with fail
            refine (HI2 _ hT).mono ?_
            rintro e w4 ⟨rfl, hx⟩
            replace hb0 := bel_tr hb0 hx
            clear hx HI2 hT
            generalize txtI y = tx at *
            have c1 : ¬ 9223372036854775807 < td.size + 1 := by omega
            have c2 : ¬ 9223372036854775807 < td.size + 1 + tx.size := by omega
            go_wp2
            go_ret
            exact ⟨by rw [HE.out]; rfl, hb0⟩
        · have c0 : ¬ 9223372036854775807 < 1 + td.size := by omega
          by_cases hy0 : y = 0
          · have HE : Hid (sgt true ++ dtx F y = ⟨#[45]⟩ ++ td) := by show _ = _; unfold dtx sgt; rw [if_pos hy0, HFT.out]; rfl
            subst hy0
            clear HIT
            go_wp2
            go_ret
            exact ⟨by rw [HE.out]; rfl, hb0⟩
          · have hy0' : (y == 0) = false := beq_false_of_ne hy0
            have HE : Hid (sgt true ++ dtx F y = ⟨#[45]⟩ ++ td ++ ⟨#[101]⟩ ++ txtI y) := by show _ = _; unfold dtx sgt; rw [if_neg hy0, HFT.out]; show (⟨#[45]⟩ ++ (td ++ (⟨#[101]⟩ ++ txtI y)) : ByteArray) = _; rw [ByteArray.append_assoc, ByteArray.append_assoc]
            have HI2 := HIT hy0
            have hz1 := size_txtI (k := y) (by omega)
            clear HIT
            go_wp2_with fail
            refine (HI2 _ hT).mono ?_
            rintro e w4 ⟨rfl, hx⟩
            replace hb0 := bel_tr hb0 hx
            clear hx HI2 hT
            generalize txtI y = tx at *
            have c1 : ¬ 9223372036854775807 < 1 + td.size + 1 := by omega
            have c2 : ¬ 9223372036854775807 < 1 + td.size + 1 + tx.size := by omega
            go_wp2
            go_ret
            exact ⟨by rw [HE.out]; rfl, hb0⟩
    · have e10 : txt 10 = ⟨#[49, 48]⟩ := by decide
      have e1 : txt 1 = ⟨#[49]⟩ := by decide
      have wx : IntKind.i64.wrap (x + 1) = x + 1 := by rw [IntKind.wrap_i64]; omega
      rw [e10]
      clear HIT hT2
      go_wp2
      go_roundw
      case rel => exact ⟨by trivial, .inl ⟨by rw [e1]; rfl, rfl⟩⟩
      case measure =>
        simp [strLen]
        decide
end Go.Proofs.YtbkkepbmaadomaaGreatDoor

namespace Go.Proofs.YtbkkepbmaadomaaGreatDoor
open Go.RowKit Go.Shelf

theorem fbn (t : Nat) : ((fb (flz (t : Int)) : Nat) : Int) = ((nrz t : Nat) : Int) := by
  rw [flz_nat]; unfold fb; rw [if_neg (by omega)]; omega
set_option maxRecDepth 100000 in
set_option maxHeartbeats 8000000 in
/-- ref4.Show of a float that is no nought -/
theorem showD {d1 F : Nat} {x1 y : Int} (k b : Nat) (neg : Bool) (w : World) (hk : 1 ≤ k) (hki : k < 9218868437227405312) (hb : b % 9223372036854775808 = k) (hn : decide (9223372036854775808 ≤ (b : Int)) = neg) (O : Ou k d1 x1) (hF : ¬ d1 % 10 = 0 ∧ F = d1 ∧ y = x1 ∨ d1 = 10 ∧ F = 1 ∧ y = x1 + 1) (hT : TP w) :
    Calls Tryz.prog 9 #[.int .u64 (b : Int)] w fun e w' => e = .returned (.string (sgt neg ++ dtx F y)) ∧ Below w.heap.size w w' := by
  have hrm1 : (b : Int).tmod 9223372036854775808 = (k : Int) := by rw [Int.tmod_eq_emod_of_nonneg (by omega)]; omega
  have hrm2 : (b : Int) % 9223372036854775808 = (k : Int) := by omega
  have g1 : ¬ (9218868437227405312 : Int) < (k : Int) := by omega
  have g2 : ¬ (k : Int) = 9218868437227405312 := by omega
  have g2b : ((k : Int) == 9218868437227405312) = false := beq_false_of_ne g2
  have g3 : ¬ (k : Int) = 0 := by omega
  have g3b : ((k : Int) == 0) = false := beq_false_of_ne g3
  obtain ⟨hA, hEA⟩ := exr_pos hk
  have hden := den_pos (exr (k : Int))
  have HO : Hid (Ou k d1 x1) := O
  have HD1 : Hid (d1 ≤ 100000000000000000) := (O.lt hk hki).2.1
  have HFF : Hid (¬ d1 % 10 = 0 ∧ F = d1 ∧ y = x1 ∨ d1 = 10 ∧ F = 1 ∧ y = x1 + 1) := hF
  have HK : Hid (1 ≤ k ∧ k < 9218868437227405312) := ⟨hk, hki⟩
  have HX := fun u => exactDk k u hki
  obtain ⟨q00, F00, Q00⟩ := Fk.first hk
  have HF00 : Hid (Fk k (-330) q00 ∧ 1 ≤ q00) := ⟨F00, Q00⟩
  clear O hF hk hki hb F00 Q00
  go_enter Tryz.func9, Tryz.ntmps9
  go_wp2_with fail
  refine (HX _).mono ?_
  rintro e w1 ⟨f, c, n, k2, c', n', k', rfl, G, hb0⟩
  obtain ⟨N1, N2⟩ := gr_num G hA
  replace N1 := N1.upto (show 1026 ≤ 1100 by decide)
  replace N2 := N2.upto (show 1026 ≤ 1100 by decide)
  obtain ⟨A, hAe⟩ : ∃ A, (exr (k : Int)).num = A := ⟨_, rfl⟩
  obtain ⟨B, hBe⟩ : ∃ B, ((exr (k : Int)).den : Int) = B := ⟨_, rfl⟩
  rw [hAe] at N1 hEA
  rw [hBe] at N2 hEA hden
  have HEA : Hid (0 < B ∧ A * E4 = Nn k * B) := ⟨hden, hEA⟩
  clear hA hAe hBe hEA hden G HX
  have V := var3_new w1 (.bool f) (.slice c n k2) (.slice c' n' k') 35
  have hx := bel_d0 w1 (.cells #[.bool f, .slice c n k2, .slice c' n' k'] 35)
  replace N1 := N1.below hx
  replace N2 := N2.below hx
  replace hb0 := bel_tr hb0 hx
  clear hx
  obtain ⟨v0, v1, v2, v3, v4, v5⟩ := id V
  go_wp2_with fail
  generalize w1.alloc (.cells #[.bool f, .slice c n k2, .slice c' n' k'] 35) = w2 at *
  refine (scaledD (k := k) (-329) _ N1 N2 HEA.out.1 HEA.out.2 (by decide) (by decide)).mono ?_
  rintro e w3 ⟨c1, n1, k1, q0, p0, rfl, G1, F1, -, hx⟩
  replace N1 := N1.below hx
  replace N2 := N2.below hx
  replace V := V.below hx
  replace hb0 := bel_tr hb0 hx
  clear hx v0 v1 v2 v3 v4 v5
  have HG1 : Hid (Fk k (-329) q0) := F1
  clear F1
  go_wp2
  go_loopw [7, 8] (fun fv wv wr => ∃ (j : Int) (cc : Option Addr) (nn kk q : Nat), fv = .int .i64 j ∧ wv = .slice cc nn kk ∧ -330 ≤ j ∧ j ≤ 320 ∧ Num wr cc nn kk (q : Int) 9000 ∧ Hid (Fk k (j + 1) q ∧ ∃ q', Fk k j q' ∧ 1 ≤ q') ∧ Below w3.heap.size w3 wr) (fun fv _ _ => (400 - intOf fv).toNat)
  case atStart => exact ⟨-330, c1, n1, k1, q0, rfl, rfl, by decide, by decide, G1.num, ⟨HG1.out, q00, HF00.out.1, HF00.out.2⟩, Below.refl _ _⟩
  case round =>
    clear G1 HG1 HF00
    obtain ⟨j, cc, nn, kk, q, rfl, rfl, j1, j2, NQ, FQ, hbl⟩ := hrel
    have M1 := N1.below hbl
    have M2 := N2.below hbl
    have VV := V.below hbl
    clear N1 N2 V
    go_wp2_with fail
    refine (rbitsZ _ NQ (by decide)).mono ?_
    rintro e u1 ⟨t, rfl, ht0, ht, hx⟩
    replace M1 := M1.below hx
    replace M2 := M2.below hx
    replace VV := VV.below hx
    replace hbl := bel_tr hbl hx
    clear hx NQ
    by_cases hz : q = 0
    · have ht1 : t = 0 := ht.2 (by omega)
      subst ht1
      subst hz
      obtain ⟨FQ0, q', Fq', hq'⟩ := FQ.out
      obtain ⟨r1, r2⟩ := rounds17 HO.out HK.out.1 HK.out.2 Fq' hq' FQ0
      have HQ' : Hid (Fk k j q' ∧ 1 ≤ q') := ⟨Fq', hq'⟩
      have hTu := (hT.below hb0).below hbl
      clear FQ FQ0 Fq' hq' ht ht0 hT
      go_wp2
      go_loopw [10] (fun kv wr => ∃ K : Nat, kv = .int .i64 K ∧ 1 ≤ K ∧ x1 ≤ j - K + 1 ∧ Below u1.heap.size u1 wr) (fun kv _ => 20 - (intOf kv).toNat)
      case atStart => exact ⟨1, rfl, by decide, by omega, Below.refl _ _⟩
      case round =>
        obtain ⟨K, rfl, K1, K2, hbk⟩ := hrel
        have hK : (K : Int) < 18 := by omega
        obtain ⟨x, hx0⟩ : ∃ x, j - (K : Int) + 1 = x := ⟨_, rfl⟩
        have wA : IntKind.i64.wrap (j - (K : Int)) = j - (K : Int) := by rw [IntKind.wrap_i64]; omega
        have wB : IntKind.i64.wrap (j - (K : Int) + 1) = x := by rw [IntKind.wrap_i64]; omega
        have wC : IntKind.i64.wrap ((K : Int) + 1) = ((K + 1 : Nat) : Int) := by rw [IntKind.wrap_i64]; omega
        have hxl : -400 ≤ x := by omega
        have hxu : x ≤ 400 := by omega
        have hxx1 : x1 ≤ x := by omega
        have HJ : Hid (j = x + ((K - 1 : Nat) : Int)) := by show _ = _; omega
        have HXK : Hid (j - (K : Int) + 1 = x) := hx0
        clear hx0
        have R1 := M1.below hbk
        have R2 := M2.below hbk
        have RV := VV.below hbk
        have hTk := hTu.below hbk
        obtain ⟨v0, v1, v2, v3, v4, v5⟩ := id RV
        go_wp2_with fail
        refine (scaledD (k := k) x _ R1 R2 HEA.out.1 HEA.out.2 hxl hxu).mono ?_
        rintro e u2 ⟨c4, n4, k4, q, p, rfl, G4, F4, P4, hx⟩
        replace hTk := hTk.below hx
        replace hbk := bel_tr hbk hx
        clear hx R1 R2 RV v0 v1 v2 v3 v4 v5 M1 M2 VV
        have hq : 1 ≤ q := by
          rcases Nat.eq_zero_or_pos q with h | h
          · exfalso
            have g := HQ'.out
            rw [HJ.out] at g
            have := F4.mul (K - 1) g.1
            rw [h, Nat.zero_div] at this
            have := g.2
            omega
          · exact h
        clear HQ' HJ
        have N9 := (reads_one (w := u2) (z := 1)).2 (by decide)
        have hx := bel_d0 u2 (.cells #[.int .u64 1] 22)
        replace G4 := G4.below hx
        replace hTk := hTk.below hx
        replace hbk := bel_tr hbk hx
        clear hx
        go_wp2_with fail
        generalize u2.alloc (.cells #[.int .u64 1] 22) = u3 at *
        generalize u2.heap.size = z2 at *
        refine (raddV _ (S := 9000) G4.num (N9.upto (by decide)) (by decide)).mono ?_
        rintro e u4 ⟨c5, n5, k5, rfl, G5, hx⟩
        have hql := nlt G4.num
        replace G4 := G4.below hx
        replace hTk := hTk.below hx
        replace hbk := bel_tr hbk hx
        clear hx N9
        replace G5 := (G5.val (show (q : Int) + 1 = ((q + 1 : Nat) : Int) by omega)).shrink (m := 9001) (by
          have h1 := pw_pos 9000
          have h2 := pw_succ 9000
          generalize pw 9001 = P1 at *
          generalize pw 9000 = P0 at *
          omega)
        clear hql
        obtain ⟨t1, S1, Z1, -⟩ := dec_at (d := q) x hq
        obtain ⟨t2, S2, Z2, -⟩ := dec_at (d := q + 1) x (by omega)
        obtain ⟨a1, ha1⟩ : ∃ a1 : Int, ((nrz t1 : Nat) : Int) = a1 := ⟨_, rfl⟩
        obtain ⟨a2, ha2⟩ : ∃ a2 : Int, ((nrz t2 : Nat) : Int) = a2 := ⟨_, rfl⟩
        obtain ⟨dn, hdn⟩ : ∃ dn, (a1 == (k : Int)) = dn := ⟨_, rfl⟩
        obtain ⟨up, hup⟩ : ∃ up, (a2 == (k : Int)) = up := ⟨_, rfl⟩
        have Hdn : Hid (dn = true ↔ Rk k q x) := by
          show _ ↔ _
          rw [← hdn, beq_iff_eq, ← ha1]
          exact ⟨fun h => ⟨t1, S1, by omega⟩, fun ⟨u, hu, e⟩ => by rw [S1.uniq hu (uT_pos x), e]⟩
        have Hup : Hid (up = true ↔ Rk k (q + 1) x) := by
          show _ ↔ _
          rw [← hup, beq_iff_eq, ← ha2]
          exact ⟨fun h => ⟨t2, S2, by omega⟩, fun ⟨u, hu, e⟩ => by rw [S2.uniq hu (uT_pos x), e]⟩
        have HA1 : Hid (((fb (flz (t1 : Int)) : Nat) : Int) = a1) := by show _ = _; rw [fbn]; exact ha1
        have HA2 : Hid (((fb (flz (t2 : Int)) : Nat) : Int) = a2) := by show _ = _; rw [fbn]; exact ha2
        clear ha1 ha2 S1 S2
        go_wp2_with fail
        refine (decimalD q x _ (G4.num.upto (by decide)) hxl hxu).mono ?_
        rintro e u5 ⟨c6, n6, k6, c7, n7, k7, rfl, T6, hx⟩
        replace G4 := G4.below hx
        replace G5 := G5.below hx
        replace hTk := hTk.below hx
        replace hbk := bel_tr hbk hx
        clear hx
        obtain ⟨s1, hs1⟩ : ∃ s1, sdz (t1 : Int) = s1 := ⟨_, rfl⟩
        obtain ⟨s2, hs2⟩ : ∃ s2, sdz (t2 : Int) = s2 := ⟨_, rfl⟩
        have HS1 : Hid (sdz (t1 : Int) = s1) := hs1
        have HS2 : Hid (sdz (t2 : Int) = s2) := hs2
        clear hs1 hs2
        go_wp2_with fail
        refine (floatD (t1 : Int) _ T6 (by decide) (by decide) Z1 HA1.out HS1.out).mono ?_
        rintro e u6 ⟨rfl, hx⟩
        replace G4 := G4.below hx
        replace G5 := G5.below hx
        replace hTk := hTk.below hx
        replace hbk := bel_tr hbk hx
        clear hx T6 HA1 HS1 Z1
        go_wp2_with fail
        refine (decimalD (q + 1) x _ (G5.num.upto (by decide)) hxl hxu).mono ?_
        rintro e u7 ⟨c8, n8, k8, c9, n9, k9, rfl, T8, hx⟩
        replace G4 := G4.below hx
        replace G5 := G5.below hx
        replace hTk := hTk.below hx
        replace hbk := bel_tr hbk hx
        clear hx
        go_wp2_with fail
        refine (floatD (t2 : Int) _ T8 (by decide) (by decide) Z2 HA2.out HS2.out).mono ?_
        rintro e u8 ⟨rfl, hx⟩
        replace G4 := G4.below hx
        replace G5 := G5.below hx
        replace hTk := hTk.below hx
        replace hbk := bel_tr hbk hx
        clear hx T8 HA2 HS2 Z2
        obtain ⟨g, o, v, rfl, hn4, hcv, hv0, hpar⟩ := num_limb G4.num hq
        have hn4i : (0 : Int) < (n4 : Int) := by omega
        obtain ⟨ev, hev⟩ : ∃ ev, (v % 2 == 0) = ev := ⟨_, rfl⟩
        have hev1 : (v.tmod 2 == 0) = ev := by rw [Int.tmod_eq_emod_of_nonneg hv0]; exact hev
        have Hev : Hid (ev = true ↔ q % 2 = 0) := by
          show _ ↔ _
          rw [← hev, beq_iff_eq]; exact hpar
        have PK : Hid ((dn = true → (p = 2 ∨ p = -1 ∨ p = 0 ∧ ev = true ∨ up = false) → x = x1 ∧ d1 = q) ∧ (up = true → (dn = false ∨ ¬ p = 2 ∧ ¬ p = -1 ∧ ¬ (p = 0 ∧ ev = true)) → x = x1 ∧ d1 = q + 1) ∧ (dn = false → up = false → x1 < x)) := pick HO.out hxx1 hq F4 P4 Hdn.out Hup.out Hev.out
        have hp4 : p = 2 ∨ p = -1 ∨ p = 0 ∨ p = 1 := by
          rcases P4 with h | h | h | h <;> omega
        clear Hdn Hup Hev hpar F4 P4
        rcases hp4 with hp | hp | hp | hp
        · obtain rfl : p = 2 := hp
          cases dn
          · cases up
            · have HL : Hid (x1 < x) := PK.out.2.2 rfl rfl
              clear PK
              go_wp2
              go_roundw
              case rel => exact ⟨K + 1, by go_num, by omega, by have := HL.out; have := HXK.out; omega, hbk⟩
              case measure => simp [intOf]; omega
            · obtain ⟨e1, e2⟩ := PK.out.2.1 rfl (by simp)
              have hF2 : ¬ (q + 1) % 10 = 0 ∧ F = q + 1 ∧ y = x ∨ (q + 1) = 10 ∧ F = 1 ∧ y = x + 1 := by rw [e1, ← e2]; exact HFF.out
              have hq9 : q + 1 < 9223372036854775808 := by rw [← e2]; have := HD1.out; omega
              clear PK e1 e2
              go_wp2_with fail
              refine (toldD (D := q + 1) _ (G5.num.upto (by decide)) (by omega) hq9 hF2 (by omega) (by omega) hTk).mono ?_
              rintro e z1 ⟨rfl, hx⟩
              have hw := bel_tr (bel_tr hb0 hbl) (bel_tr hbk hx)
              clear hx hF2 hq9
              obtain ⟨sr, hsr⟩ : ∃ sr, sgt neg ++ dtx F y = sr := ⟨_, rfl⟩
              have HSR : Hid (sgt neg ++ dtx F y = sr) := hsr
              rw [hsr]
              clear hsr
              go_wp2
              go_ret
              exact ⟨by rw [HSR.out]; rfl, hw⟩
          · cases up
            · obtain ⟨e1, e2⟩ := PK.out.1 rfl (by simp)
              have hF2 : ¬ (q) % 10 = 0 ∧ F = q ∧ y = x ∨ (q) = 10 ∧ F = 1 ∧ y = x + 1 := by rw [e1, ← e2]; exact HFF.out
              have hq9 : q < 9223372036854775808 := by rw [← e2]; have := HD1.out; omega
              clear PK e1 e2
              go_wp2_with fail
              refine (toldD (D := q) _ (G4.num.upto (by decide)) (by omega) hq9 hF2 (by omega) (by omega) hTk).mono ?_
              rintro e z1 ⟨rfl, hx⟩
              have hw := bel_tr (bel_tr hb0 hbl) (bel_tr hbk hx)
              clear hx hF2 hq9
              obtain ⟨sr, hsr⟩ : ∃ sr, sgt neg ++ dtx F y = sr := ⟨_, rfl⟩
              have HSR : Hid (sgt neg ++ dtx F y = sr) := hsr
              rw [hsr]
              clear hsr
              go_wp2
              go_ret
              exact ⟨by rw [HSR.out]; rfl, hw⟩
            · obtain ⟨e1, e2⟩ := PK.out.1 rfl (by simp)
              have hF2 : ¬ (q) % 10 = 0 ∧ F = q ∧ y = x ∨ (q) = 10 ∧ F = 1 ∧ y = x + 1 := by rw [e1, ← e2]; exact HFF.out
              have hq9 : q < 9223372036854775808 := by rw [← e2]; have := HD1.out; omega
              clear PK e1 e2
              go_wp2_with fail
              refine (toldD (D := q) _ (G4.num.upto (by decide)) (by omega) hq9 hF2 (by omega) (by omega) hTk).mono ?_
              rintro e z1 ⟨rfl, hx⟩
              have hw := bel_tr (bel_tr hb0 hbl) (bel_tr hbk hx)
              clear hx hF2 hq9
              obtain ⟨sr, hsr⟩ : ∃ sr, sgt neg ++ dtx F y = sr := ⟨_, rfl⟩
              have HSR : Hid (sgt neg ++ dtx F y = sr) := hsr
              rw [hsr]
              clear hsr
              go_wp2
              go_ret
              exact ⟨by rw [HSR.out]; rfl, hw⟩
        · obtain rfl : p = -1 := hp
          cases dn
          · cases up
            · have HL : Hid (x1 < x) := PK.out.2.2 rfl rfl
              clear PK
              go_wp2
              go_roundw
              case rel => exact ⟨K + 1, by go_num, by omega, by have := HL.out; have := HXK.out; omega, hbk⟩
              case measure => simp [intOf]; omega
            · obtain ⟨e1, e2⟩ := PK.out.2.1 rfl (by simp)
              have hF2 : ¬ (q + 1) % 10 = 0 ∧ F = q + 1 ∧ y = x ∨ (q + 1) = 10 ∧ F = 1 ∧ y = x + 1 := by rw [e1, ← e2]; exact HFF.out
              have hq9 : q + 1 < 9223372036854775808 := by rw [← e2]; have := HD1.out; omega
              clear PK e1 e2
              go_wp2_with fail
              refine (toldD (D := q + 1) _ (G5.num.upto (by decide)) (by omega) hq9 hF2 (by omega) (by omega) hTk).mono ?_
              rintro e z1 ⟨rfl, hx⟩
              have hw := bel_tr (bel_tr hb0 hbl) (bel_tr hbk hx)
              clear hx hF2 hq9
              obtain ⟨sr, hsr⟩ : ∃ sr, sgt neg ++ dtx F y = sr := ⟨_, rfl⟩
              have HSR : Hid (sgt neg ++ dtx F y = sr) := hsr
              rw [hsr]
              clear hsr
              go_wp2
              go_ret
              exact ⟨by rw [HSR.out]; rfl, hw⟩
          · cases up
            · obtain ⟨e1, e2⟩ := PK.out.1 rfl (by simp)
              have hF2 : ¬ (q) % 10 = 0 ∧ F = q ∧ y = x ∨ (q) = 10 ∧ F = 1 ∧ y = x + 1 := by rw [e1, ← e2]; exact HFF.out
              have hq9 : q < 9223372036854775808 := by rw [← e2]; have := HD1.out; omega
              clear PK e1 e2
              go_wp2_with fail
              refine (toldD (D := q) _ (G4.num.upto (by decide)) (by omega) hq9 hF2 (by omega) (by omega) hTk).mono ?_
              rintro e z1 ⟨rfl, hx⟩
              have hw := bel_tr (bel_tr hb0 hbl) (bel_tr hbk hx)
              clear hx hF2 hq9
              obtain ⟨sr, hsr⟩ : ∃ sr, sgt neg ++ dtx F y = sr := ⟨_, rfl⟩
              have HSR : Hid (sgt neg ++ dtx F y = sr) := hsr
              rw [hsr]
              clear hsr
              go_wp2
              go_ret
              exact ⟨by rw [HSR.out]; rfl, hw⟩
            · obtain ⟨e1, e2⟩ := PK.out.1 rfl (by simp)
              have hF2 : ¬ (q) % 10 = 0 ∧ F = q ∧ y = x ∨ (q) = 10 ∧ F = 1 ∧ y = x + 1 := by rw [e1, ← e2]; exact HFF.out
              have hq9 : q < 9223372036854775808 := by rw [← e2]; have := HD1.out; omega
              clear PK e1 e2
              go_wp2_with fail
              refine (toldD (D := q) _ (G4.num.upto (by decide)) (by omega) hq9 hF2 (by omega) (by omega) hTk).mono ?_
              rintro e z1 ⟨rfl, hx⟩
              have hw := bel_tr (bel_tr hb0 hbl) (bel_tr hbk hx)
              clear hx hF2 hq9
              obtain ⟨sr, hsr⟩ : ∃ sr, sgt neg ++ dtx F y = sr := ⟨_, rfl⟩
              have HSR : Hid (sgt neg ++ dtx F y = sr) := hsr
              rw [hsr]
              clear hsr
              go_wp2
              go_ret
              exact ⟨by rw [HSR.out]; rfl, hw⟩
        · obtain rfl : p = 0 := hp
          cases ev
          · cases dn
            · cases up
              · have HL : Hid (x1 < x) := PK.out.2.2 rfl rfl
                clear PK
                go_wp2
                go_roundw
                case rel => exact ⟨K + 1, by go_num, by omega, by have := HL.out; have := HXK.out; omega, hbk⟩
                case measure => simp [intOf]; omega
              · obtain ⟨e1, e2⟩ := PK.out.2.1 rfl (by simp)
                have hF2 : ¬ (q + 1) % 10 = 0 ∧ F = q + 1 ∧ y = x ∨ (q + 1) = 10 ∧ F = 1 ∧ y = x + 1 := by rw [e1, ← e2]; exact HFF.out
                have hq9 : q + 1 < 9223372036854775808 := by rw [← e2]; have := HD1.out; omega
                clear PK e1 e2
                go_wp2_with fail
                refine (toldD (D := q + 1) _ (G5.num.upto (by decide)) (by omega) hq9 hF2 (by omega) (by omega) hTk).mono ?_
                rintro e z1 ⟨rfl, hx⟩
                have hw := bel_tr (bel_tr hb0 hbl) (bel_tr hbk hx)
                clear hx hF2 hq9
                obtain ⟨sr, hsr⟩ : ∃ sr, sgt neg ++ dtx F y = sr := ⟨_, rfl⟩
                have HSR : Hid (sgt neg ++ dtx F y = sr) := hsr
                rw [hsr]
                clear hsr
                go_wp2
                go_ret
                exact ⟨by rw [HSR.out]; rfl, hw⟩
            · cases up
              · obtain ⟨e1, e2⟩ := PK.out.1 rfl (by simp)
                have hF2 : ¬ (q) % 10 = 0 ∧ F = q ∧ y = x ∨ (q) = 10 ∧ F = 1 ∧ y = x + 1 := by rw [e1, ← e2]; exact HFF.out
                have hq9 : q < 9223372036854775808 := by rw [← e2]; have := HD1.out; omega
                clear PK e1 e2
                go_wp2_with fail
                refine (toldD (D := q) _ (G4.num.upto (by decide)) (by omega) hq9 hF2 (by omega) (by omega) hTk).mono ?_
                rintro e z1 ⟨rfl, hx⟩
                have hw := bel_tr (bel_tr hb0 hbl) (bel_tr hbk hx)
                clear hx hF2 hq9
                obtain ⟨sr, hsr⟩ : ∃ sr, sgt neg ++ dtx F y = sr := ⟨_, rfl⟩
                have HSR : Hid (sgt neg ++ dtx F y = sr) := hsr
                rw [hsr]
                clear hsr
                go_wp2
                go_ret
                exact ⟨by rw [HSR.out]; rfl, hw⟩
              · obtain ⟨e1, e2⟩ := PK.out.2.1 rfl (by simp)
                have hF2 : ¬ (q + 1) % 10 = 0 ∧ F = q + 1 ∧ y = x ∨ (q + 1) = 10 ∧ F = 1 ∧ y = x + 1 := by rw [e1, ← e2]; exact HFF.out
                have hq9 : q + 1 < 9223372036854775808 := by rw [← e2]; have := HD1.out; omega
                clear PK e1 e2
                go_wp2_with fail
                refine (toldD (D := q + 1) _ (G5.num.upto (by decide)) (by omega) hq9 hF2 (by omega) (by omega) hTk).mono ?_
                rintro e z1 ⟨rfl, hx⟩
                have hw := bel_tr (bel_tr hb0 hbl) (bel_tr hbk hx)
                clear hx hF2 hq9
                obtain ⟨sr, hsr⟩ : ∃ sr, sgt neg ++ dtx F y = sr := ⟨_, rfl⟩
                have HSR : Hid (sgt neg ++ dtx F y = sr) := hsr
                rw [hsr]
                clear hsr
                go_wp2
                go_ret
                exact ⟨by rw [HSR.out]; rfl, hw⟩
          · cases dn
            · cases up
              · have HL : Hid (x1 < x) := PK.out.2.2 rfl rfl
                clear PK
                go_wp2
                go_roundw
                case rel => exact ⟨K + 1, by go_num, by omega, by have := HL.out; have := HXK.out; omega, hbk⟩
                case measure => simp [intOf]; omega
              · obtain ⟨e1, e2⟩ := PK.out.2.1 rfl (by simp)
                have hF2 : ¬ (q + 1) % 10 = 0 ∧ F = q + 1 ∧ y = x ∨ (q + 1) = 10 ∧ F = 1 ∧ y = x + 1 := by rw [e1, ← e2]; exact HFF.out
                have hq9 : q + 1 < 9223372036854775808 := by rw [← e2]; have := HD1.out; omega
                clear PK e1 e2
                go_wp2_with fail
                refine (toldD (D := q + 1) _ (G5.num.upto (by decide)) (by omega) hq9 hF2 (by omega) (by omega) hTk).mono ?_
                rintro e z1 ⟨rfl, hx⟩
                have hw := bel_tr (bel_tr hb0 hbl) (bel_tr hbk hx)
                clear hx hF2 hq9
                obtain ⟨sr, hsr⟩ : ∃ sr, sgt neg ++ dtx F y = sr := ⟨_, rfl⟩
                have HSR : Hid (sgt neg ++ dtx F y = sr) := hsr
                rw [hsr]
                clear hsr
                go_wp2
                go_ret
                exact ⟨by rw [HSR.out]; rfl, hw⟩
            · cases up
              · obtain ⟨e1, e2⟩ := PK.out.1 rfl (by simp)
                have hF2 : ¬ (q) % 10 = 0 ∧ F = q ∧ y = x ∨ (q) = 10 ∧ F = 1 ∧ y = x + 1 := by rw [e1, ← e2]; exact HFF.out
                have hq9 : q < 9223372036854775808 := by rw [← e2]; have := HD1.out; omega
                clear PK e1 e2
                go_wp2_with fail
                refine (toldD (D := q) _ (G4.num.upto (by decide)) (by omega) hq9 hF2 (by omega) (by omega) hTk).mono ?_
                rintro e z1 ⟨rfl, hx⟩
                have hw := bel_tr (bel_tr hb0 hbl) (bel_tr hbk hx)
                clear hx hF2 hq9
                obtain ⟨sr, hsr⟩ : ∃ sr, sgt neg ++ dtx F y = sr := ⟨_, rfl⟩
                have HSR : Hid (sgt neg ++ dtx F y = sr) := hsr
                rw [hsr]
                clear hsr
                go_wp2
                go_ret
                exact ⟨by rw [HSR.out]; rfl, hw⟩
              · obtain ⟨e1, e2⟩ := PK.out.1 rfl (by simp)
                have hF2 : ¬ (q) % 10 = 0 ∧ F = q ∧ y = x ∨ (q) = 10 ∧ F = 1 ∧ y = x + 1 := by rw [e1, ← e2]; exact HFF.out
                have hq9 : q < 9223372036854775808 := by rw [← e2]; have := HD1.out; omega
                clear PK e1 e2
                go_wp2_with fail
                refine (toldD (D := q) _ (G4.num.upto (by decide)) (by omega) hq9 hF2 (by omega) (by omega) hTk).mono ?_
                rintro e z1 ⟨rfl, hx⟩
                have hw := bel_tr (bel_tr hb0 hbl) (bel_tr hbk hx)
                clear hx hF2 hq9
                obtain ⟨sr, hsr⟩ : ∃ sr, sgt neg ++ dtx F y = sr := ⟨_, rfl⟩
                have HSR : Hid (sgt neg ++ dtx F y = sr) := hsr
                rw [hsr]
                clear hsr
                go_wp2
                go_ret
                exact ⟨by rw [HSR.out]; rfl, hw⟩
        · obtain rfl : p = 1 := hp
          cases dn
          · cases up
            · have HL : Hid (x1 < x) := PK.out.2.2 rfl rfl
              clear PK
              go_wp2
              go_roundw
              case rel => exact ⟨K + 1, by go_num, by omega, by have := HL.out; have := HXK.out; omega, hbk⟩
              case measure => simp [intOf]; omega
            · obtain ⟨e1, e2⟩ := PK.out.2.1 rfl (by simp)
              have hF2 : ¬ (q + 1) % 10 = 0 ∧ F = q + 1 ∧ y = x ∨ (q + 1) = 10 ∧ F = 1 ∧ y = x + 1 := by rw [e1, ← e2]; exact HFF.out
              have hq9 : q + 1 < 9223372036854775808 := by rw [← e2]; have := HD1.out; omega
              clear PK e1 e2
              go_wp2_with fail
              refine (toldD (D := q + 1) _ (G5.num.upto (by decide)) (by omega) hq9 hF2 (by omega) (by omega) hTk).mono ?_
              rintro e z1 ⟨rfl, hx⟩
              have hw := bel_tr (bel_tr hb0 hbl) (bel_tr hbk hx)
              clear hx hF2 hq9
              obtain ⟨sr, hsr⟩ : ∃ sr, sgt neg ++ dtx F y = sr := ⟨_, rfl⟩
              have HSR : Hid (sgt neg ++ dtx F y = sr) := hsr
              rw [hsr]
              clear hsr
              go_wp2
              go_ret
              exact ⟨by rw [HSR.out]; rfl, hw⟩
          · cases up
            · obtain ⟨e1, e2⟩ := PK.out.1 rfl (by simp)
              have hF2 : ¬ (q) % 10 = 0 ∧ F = q ∧ y = x ∨ (q) = 10 ∧ F = 1 ∧ y = x + 1 := by rw [e1, ← e2]; exact HFF.out
              have hq9 : q < 9223372036854775808 := by rw [← e2]; have := HD1.out; omega
              clear PK e1 e2
              go_wp2_with fail
              refine (toldD (D := q) _ (G4.num.upto (by decide)) (by omega) hq9 hF2 (by omega) (by omega) hTk).mono ?_
              rintro e z1 ⟨rfl, hx⟩
              have hw := bel_tr (bel_tr hb0 hbl) (bel_tr hbk hx)
              clear hx hF2 hq9
              obtain ⟨sr, hsr⟩ : ∃ sr, sgt neg ++ dtx F y = sr := ⟨_, rfl⟩
              have HSR : Hid (sgt neg ++ dtx F y = sr) := hsr
              rw [hsr]
              clear hsr
              go_wp2
              go_ret
              exact ⟨by rw [HSR.out]; rfl, hw⟩
            · obtain ⟨e1, e2⟩ := PK.out.2.1 rfl (by simp)
              have hF2 : ¬ (q + 1) % 10 = 0 ∧ F = q + 1 ∧ y = x ∨ (q + 1) = 10 ∧ F = 1 ∧ y = x + 1 := by rw [e1, ← e2]; exact HFF.out
              have hq9 : q + 1 < 9223372036854775808 := by rw [← e2]; have := HD1.out; omega
              clear PK e1 e2
              go_wp2_with fail
              refine (toldD (D := q + 1) _ (G5.num.upto (by decide)) (by omega) hq9 hF2 (by omega) (by omega) hTk).mono ?_
              rintro e z1 ⟨rfl, hx⟩
              have hw := bel_tr (bel_tr hb0 hbl) (bel_tr hbk hx)
              clear hx hF2 hq9
              obtain ⟨sr, hsr⟩ : ∃ sr, sgt neg ++ dtx F y = sr := ⟨_, rfl⟩
              have HSR : Hid (sgt neg ++ dtx F y = sr) := hsr
              rw [hsr]
              clear hsr
              go_wp2
              go_ret
              exact ⟨by rw [HSR.out]; rfl, hw⟩
    · have ht1 : 0 < t := by
        have : ¬ t = 0 := fun h => hz (by have := ht.1 h; omega)
        omega
      have hj := FQ.out.1.last HK.out.2 (by omega)
      have wA : IntKind.i64.wrap (j + 1) = j + 1 := by rw [IntKind.wrap_i64]; omega
      have wB : IntKind.i64.wrap (j + 1 + 1) = j + 1 + 1 := by rw [IntKind.wrap_i64]; omega
      have HQ1 : Hid (∃ q', Fk k (j + 1) q' ∧ 1 ≤ q') := ⟨q, FQ.out.1, by omega⟩
      clear FQ ht hz
      obtain ⟨v0, v1, v2, v3, v4, v5⟩ := id VV
      go_wp2_with fail
      refine (scaledD (k := k) (j + 1 + 1) _ M1 M2 HEA.out.1 HEA.out.2 (by omega) (by omega)).mono ?_
      rintro e u2 ⟨c3, n3, k3, q3, p3, rfl, G3, F3, -, hx⟩
      replace hbl := bel_tr hbl hx
      have HR : Hid (Fk k (j + 1 + 1) q3 ∧ ∃ q', Fk k (j + 1) q' ∧ 1 ≤ q') := ⟨F3, HQ1.out⟩
      clear hx v0 v1 v2 v3 v4 v5 F3 HQ1
      go_wp2
      go_roundw
      case rel => exact ⟨j + 1, c3, n3, k3, q3, rfl, rfl, by omega, by omega, G3.num, HR.out, hbl⟩
      case measure => simp [intOf]; omega
end Go.Proofs.YtbkkepbmaadomaaGreatDoor

namespace Go.Proofs.YtbkkepbmaadomaaGreatDoor
open Go.RowKit Go.Shelf

attribute [local go_sem] neg_f
theorem showI (w : World) : Calls Tryz.prog 20 #[.float .f64 9218868437227405312] w fun e w' => e = .returned (.string ⟨#[73, 110, 102]⟩) ∧ Below w.heap.size w w' := by
  have HI := fun u => isInf1 9218868437227405312 u
  have hi : (decide (9218868437227405312 % 9223372036854775808 = 9218868437227405312) && !(9218868437227405312 / 9223372036854775808 % 2 == 1)) = true := by decide
  rw [hi] at HI
  clear hi
  go_enter Tryz.func20, Tryz.ntmps20
  go_wp2_with fail
  refine (HI _).mono ?_
  rintro e w1 ⟨rfl, e1⟩
  subst e1
  clear HI
  go_wp2
  go_ret
  exact ⟨rfl, Below.refl _ _⟩
theorem showNaN {b : Nat} (w : World) (h : 9218868437227405312 < b % 9223372036854775808) : Calls Tryz.prog 7 #[.float .f64 b] w fun e w' => e = .returned (.string ⟨#[78, 97, 78]⟩) ∧ Below w.heap.size w w' := by
  have HN := fun u => isNaN_f b u
  rw [decide_eq_true h] at HN
  clear h
  go_enter Tryz.func7, Tryz.ntmps7
  go_wp2_with fail
  refine (HN _).mono ?_
  rintro e w1 ⟨rfl, e1⟩
  subst e1
  clear HN
  go_wp2
  go_ret
  exact ⟨rfl, Below.refl _ _⟩
theorem showInf (w : World) : Calls Tryz.prog 7 #[.float .f64 9218868437227405312] w fun e w' => e = .returned (.string ⟨#[73, 110, 102]⟩) ∧ Below w.heap.size w w' := by
  have HN := fun u => isNaN_f 9218868437227405312 u
  rw [decide_eq_false (by decide)] at HN
  have ho : (FloatKind.f64.format.order 9218868437227405312 0 == some .lt) = false := by decide +kernel
  have HS := fun u => showI u
  generalize 9218868437227405312 = b at *
  go_enter Tryz.func7, Tryz.ntmps7
  go_wp2_with fail
  refine (HN _).mono ?_
  rintro e w1 ⟨rfl, e1⟩
  subst e1
  clear HN
  go_wp2_with fail
  refine (HS _).mono ?_
  rintro e w2 ⟨rfl, hb0⟩
  clear HS ho
  go_wp2
  go_ret
  exact ⟨rfl, hb0⟩
theorem showInfN (w : World) : Calls Tryz.prog 7 #[.float .f64 18442240474082181120] w fun e w' => e = .returned (.string ⟨#[45, 73, 110, 102]⟩) ∧ Below w.heap.size w w' := by
  have HN := fun u => isNaN_f 18442240474082181120 u
  rw [decide_eq_false (by decide)] at HN
  have ho : (FloatKind.f64.format.order 18442240474082181120 0 == some .lt) = true := by decide +kernel
  have HG : Op.negFloat .f64 18442240474082181120 = 9218868437227405312 := by decide +kernel
  have HS := fun u => showI u
  generalize 18442240474082181120 = b at *
  generalize 9218868437227405312 = c at *
  go_enter Tryz.func7, Tryz.ntmps7
  go_wp2_with fail
  refine (HN _).mono ?_
  rintro e w1 ⟨rfl, e1⟩
  subst e1
  clear HN
  go_wp2_with fail
  refine (HS _).mono ?_
  rintro e w2 ⟨rfl, hb0⟩
  clear HS ho HG
  go_wp2
  go_ret
  exact ⟨rfl, hb0⟩
/-- ref4.Show of what is told by a word -/
theorem showDW {s : ByteArray} (b : Nat) (w : World) (h : 9218868437227405312 < b % 9223372036854775808 ∧ s = ⟨#[78, 97, 78]⟩ ∨ b = 9218868437227405312 ∧ s = ⟨#[73, 110, 102]⟩ ∨ b = 18442240474082181120 ∧ s = ⟨#[45, 73, 110, 102]⟩ ∨ b % 9223372036854775808 = 0 ∧ s = ⟨#[48]⟩) :
    Calls Tryz.prog 9 #[.int .u64 (b : Int)] w fun e w' => e = .returned (.string s) ∧ Below w.heap.size w w' := by
  obtain ⟨k, hk⟩ : ∃ k, b % 9223372036854775808 = k := ⟨_, rfl⟩
  have hrm1 : (b : Int).tmod 9223372036854775808 = (k : Int) := by rw [Int.tmod_eq_emod_of_nonneg (by omega)]; omega
  have hrm2 : (b : Int) % 9223372036854775808 = (k : Int) := by omega
  rw [hk] at h
  rcases h with ⟨h, rfl⟩ | ⟨h, rfl⟩ | ⟨h, rfl⟩ | ⟨h, rfl⟩
  · have g1 : (9218868437227405312 : Int) < (k : Int) := by omega
    clear hk h
    go_enter Tryz.func9, Tryz.ntmps9
    go_wp2
    go_ret
    exact ⟨rfl, Below.refl _ _⟩
  · obtain rfl : k = 9218868437227405312 := by omega
    have g1 : ¬ (9223372036854775808 : Int) ≤ (b : Int) := by omega
    clear hk h
    go_enter Tryz.func9, Tryz.ntmps9
    go_wp2
    go_ret
    exact ⟨rfl, Below.refl _ _⟩
  · obtain rfl : k = 9218868437227405312 := by omega
    have g1 : (9223372036854775808 : Int) ≤ (b : Int) := by omega
    clear hk h
    go_enter Tryz.func9, Tryz.ntmps9
    go_wp2
    go_ret
    exact ⟨rfl, Below.refl _ _⟩
  · obtain rfl : k = 0 := h
    clear hk
    go_enter Tryz.func9, Tryz.ntmps9
    go_wp2
    go_ret
    exact ⟨rfl, Below.refl _ _⟩
set_option maxRecDepth 100000 in
theorem shows_c {b : Nat} (w : World) (hT : TB w) (hP : TP w) (HS : ∀ u, TP u → Calls Tryz.prog 7 #[.float .f64 b] u fun e w' => ∃ s, e = .returned (.string s) ∧ (∀ v, TP v → Calls Tryz.prog 9 #[.int .u64 (b : Int)] v fun e w'' => e = .returned (.string s) ∧ Below v.heap.size v w'') ∧ Below u.heap.size u w') :
    Calls Tryz.prog 3 #[.int .u64 (b : Int)] w fun e w' => e = .returned (.bool true) ∧ Below w.heap.size w w' := by
  have HB := fun u => ext_from (b : Int) u
  go_enter Tryz.func3, Tryz.ntmps3
  go_wp2_with fail
  refine (awake4 _ hT).mono ?_
  rintro e w1 ⟨rfl, hx⟩
  replace hP := hP.below hx
  have hb0 := hx
  clear hx hT
  go_wp2_with fail
  refine (HS _ hP).mono ?_
  rintro e w2 ⟨s, rfl, HD, hx⟩
  replace hP := hP.below hx
  replace hb0 := bel_tr hb0 hx
  clear hx HS HB
  go_wp2_with fail
  refine (HD _ hP).mono ?_
  rintro e w3 ⟨rfl, hx⟩
  replace hb0 := bel_tr hb0 hx
  clear hx HD hP
  go_wp2
  go_ret
  exact ⟨by simp, hb0⟩
/-- What is shown, in the document's form. -/
theorem sd_show {k b d : Nat} {x : Int} {neg : Bool} (S : Sd k d x) (hk : 1 ≤ k) (hki : k < 9218868437227405312) (hb : b % 9223372036854775808 = k) (hn : decide (9223372036854775808 ≤ (b : Int)) = neg) (v : World) (hv : TP v) :
    Calls Tryz.prog 9 #[.int .u64 (b : Int)] v fun e w'' => e = .returned (.string (sgt neg ++ dtx d x)) ∧ Below v.heap.size v w'' := by
  have hs := (S.short hk hki).2.2.1
  rcases S with ⟨h, rfl⟩ | ⟨h, h10⟩
  · exact showD (d1 := 10) (x1 := x - 1) k b neg v hk hki hb hn h (.inr ⟨rfl, rfl, by omega⟩) hv
  · exact showD (d1 := d) (x1 := x) k b neg v hk hki hb hn h (.inl ⟨hs, rfl, rfl⟩) hv
theorem shows_walk4 (z : Int) (w : World) (h0 : 0 ≤ z) (h1 : z < 18446744073709551616) (hT : TB w) (hP : TP w) :
    Calls Tryz.prog 3 #[.int .u64 z] w fun e w' => e = .returned (.bool true) ∧ Below w.heap.size w w' := by
  obtain ⟨b, rfl⟩ := Int.eq_ofNat_of_zero_le h0
  have hl : b < 18446744073709551616 := by omega
  refine shows_c w hT hP fun u hu => ?_
  by_cases hn : 9218868437227405312 < b % 9223372036854775808
  · refine (showNaN u hn).mono ?_
    rintro e w' ⟨rfl, hx⟩
    exact ⟨_, rfl, fun v _ => showDW b v (.inl ⟨hn, rfl⟩), hx⟩
  · by_cases hi : b % 9223372036854775808 = 9218868437227405312
    · rcases (by omega : b = 9218868437227405312 ∨ b = 18442240474082181120) with rfl | rfl
      · refine (showInf u).mono ?_
        rintro e w' ⟨rfl, hx⟩
        exact ⟨_, rfl, fun v _ => showDW _ v (.inr (.inl ⟨rfl, rfl⟩)), hx⟩
      · refine (showInfN u).mono ?_
        rintro e w' ⟨rfl, hx⟩
        exact ⟨_, rfl, fun v _ => showDW _ v (.inr (.inr (.inl ⟨rfl, rfl⟩))), hx⟩
    · by_cases hz : b % 9223372036854775808 = 0
      · refine (showZ b u (by omega)).mono ?_
        rintro e w' ⟨rfl, hx⟩
        exact ⟨_, rfl, fun v _ => showDW b v (.inr (.inr (.inr ⟨hz, rfl⟩))), hx⟩
      · by_cases hs : b < 9223372036854775808
        · refine (showP b u (by omega) (by omega) hu).mono ?_
          rintro e w' ⟨d, x, rfl, -, S, hx⟩
          refine ⟨_, rfl, fun v hv => ?_, hx⟩
          have := sd_show (b := b) (neg := false) S (by omega) (by omega) (by omega) (decide_eq_false (by omega)) v hv
          rwa [show sgt false ++ dtx d x = dtx d x from nil_app _] at this
        · obtain ⟨k, rfl⟩ : ∃ k, b = k + 9223372036854775808 := ⟨b - 9223372036854775808, by omega⟩
          refine (showN k u (by omega) (by omega) hu).mono ?_
          rintro e w' ⟨d, x, rfl, -, S, hx⟩
          refine ⟨_, rfl, fun v hv => ?_, hx⟩
          exact sd_show (b := k + 9223372036854775808) (neg := true) S (by omega) (by omega) (by omega) (decide_eq_true (by omega)) v hv
end Go.Proofs.YtbkkepbmaadomaaGreatDoor

import Derived.Test.YtbkkepbmaadomaaGreatDoorNtAAll
import Derived.Test.YtbkkepbmaadomaaGreatDoorLkAll
import Derived.Test.YtbkkepbmaadomaaGreatDoorNbA
import Derived.Test.YtbkkepbmaadomaaGreatDoorNrTAll
import Derived.WalkMore
namespace Go.Proofs.YtbkkepbmaadomaaGreatDoor
open Go.RowKit

theorem bits_ten {xs : List Int} (hx : AllW xs) (hv : val xs = 10) : 0 ≤ bitsL xs ∧ bitsL xs ≤ 4 := by
  have ht : tlen xs ≠ 0 := fun e => by have := (tlen_zero hx).1 e; omega
  obtain ⟨h1, h2⟩ := bits_low hx ht
  refine ⟨by omega, ?_⟩
  rcases Int.lt_or_le 4 (bitsL xs) with h | h
  · have := Nat.pow_le_pow_right (show 0 < 2 by decide) (show 4 ≤ (bitsL xs).toNat - 1 by omega)
    rw [hv] at h2
    omega
  · exact h
set_option maxHeartbeats 1000000 in
/-- near.tens -/
theorem tensQ {a : Option Addr} {na ca : Nat} {x : Int} {S : Nat} (n : Nat) (w : World) (ha : Num w a na ca x S) (hS : S ≤ 10000) (hn : n ≤ 1000) :
    Calls Tryz.prog 82 #[.slice a na ca, .int .i64 n] w fun e w' => ∃ c m k, e = .returned (.slice c m k) ∧ Got w' w.heap.size (.slice c m k) (x * 10 ^ n) (S + 2048) ∧ Below w.heap.size w w' := by
  go_enter Tryz.func82, Tryz.ntmps82
  go_wp2_with fail
  refine (ofG 10 _ (by decide) (by decide)).mono ?_
  rintro e w1 ⟨c1, n1, k1, rfl, G1, hx⟩
  replace ha := ha.below hx
  have hb0 := hx
  clear hx
  have N1 := G1.num
  obtain ⟨xs, h1, h2, h3, h4, h5, h6⟩ := N1
  have hbt := bits_ten h4 h5
  clear G1
  have HP := fun u (hr : Reads u c1 xs) => powV c1 n1 k1 xs 1 n u h1 h2 h6 (by decide) hr h4 hn (by
    have := Int.mul_le_mul_of_nonneg_left hbt.2 (show (0 : Int) ≤ (n : Int) by omega)
    omega)
  rw [h5] at HP
  clear h1 h4 h5 hbt
  go_wp2_with fail
  refine (HP _ h3).mono ?_
  rintro e w2 ⟨c2, n2, k2, rfl, N2, hx⟩
  replace ha := ha.below hx
  have hb1 := bel_tr hb0 hx
  clear hx HP h3 hb0
  go_wp2_with fail
  refine (mulG _ ha N2 (by omega) (by omega)).mono ?_
  rintro e w3 ⟨c3, n3, k3, rfl, G3, hx⟩
  have hb2 := bel_tr hb1 hx
  have hs := Below.size hb1
  clear hb1 ha N2
  go_wp2
  go_ret
  exact ⟨_, _, _, rfl, (G3.mono hs).le (by omega), hb2⟩
set_option maxHeartbeats 1000000 in
/-- near.scale by tens -/
theorem scaleT {z : Int} {a b : Option Addr} {na nb ca cb : Nat} {A B : Int} {S : Nat} (x : Int) (w : World) (hz : z = -x) (ha : Num w a na ca A S) (hb : Num w b nb cb B S) (hS : S ≤ 10000) (h1 : -1000 ≤ x) (h2 : x ≤ 1000) :
    Calls Tryz.prog 31 #[.slice a na ca, .slice b nb cb, .int .i64 z, .func (.func 82) #[] #[]] w fun e w' => ∃ a' na' ca' b' nb' cb', e = .returned (.tuple #[.slice a' na' ca', .slice b' nb' cb']) ∧ Num w' a' na' ca' (A * uT x) (S + 2048) ∧ Num w' b' nb' cb' (B * vT x) (S + 2048) ∧ Below w.heap.size w w' := by
  by_cases h : z < 0
  · obtain ⟨n, hn⟩ : ∃ n : Nat, x = (n : Int) := ⟨x.toNat, by omega⟩
    have hwn : IntKind.i64.wrap (-z) = (n : Int) := by rw [IntKind.wrap_i64]; omega
    have hu : uT x = 1 := by unfold uT; rw [show (-x).toNat = 0 by omega]; rfl
    have hv : vT x = 10 ^ n := by unfold vT; rw [show x.toNat = n by omega]
    have hn2 : n ≤ 1000 := by omega
    rw [hu, hv, Int.mul_one]
    clear hz hn hu hv h1 h2
    go_enter Tryz.func31, Tryz.ntmps31
    go_wp2_with fail
    refine (tensQ n _ hb hS hn2).mono ?_
    rintro e w1 ⟨c, m, k, rfl, G, hx⟩
    replace ha := ha.below hx
    go_wp2
    go_ret2
    exact ⟨_, _, _, _, _, _, rfl, ha.upto (by omega), G.num, hx⟩
  · obtain ⟨n, hn⟩ : ∃ n : Nat, z = (n : Int) := ⟨z.toNat, by omega⟩
    have hv : vT x = 1 := by unfold vT; rw [show x.toNat = 0 by omega]; rfl
    have hu : uT x = 10 ^ n := by unfold uT; rw [show (-x).toNat = n by omega]
    have hn2 : n ≤ 1000 := by omega
    rw [hu, hv, Int.mul_one]
    subst hn
    clear hz hu hv h1 h2
    go_enter Tryz.func31, Tryz.ntmps31
    go_wp2_with fail
    refine (tensQ n _ ha hS hn2).mono ?_
    rintro e w1 ⟨c, m, k, rfl, G, hx⟩
    replace hb := hb.below hx
    go_wp2
    go_ret2
    exact ⟨_, _, _, _, _, _, rfl, G.num, hb.upto (by omega), hx⟩
/-- d 10^x as a fraction -/
def dec (d : Nat) (x : Int) : Rat := Rat.divInt ((d : Int) * vT x) (uT x)
set_option maxRecDepth 100000 in
set_option maxHeartbeats 1000000 in
/-- near.reads -/
theorem readsQ {F : Nat} (d : Nat) (x z : Int) (w : World) (hd : d < 18446744073709551616) (h1 : -1000 ≤ x) (h2 : x ≤ 1000) (hP : Pz (dec d x) z) (hF : fb (flz z) = F) :
    Calls Tryz.prog 83 #[.int .u64 (d : Int), .int .i64 x] w fun e w' => e = .returned (.float .f64 F) ∧ Below w.heap.size w w' := by
  have HF : Hid (fb (flz z) = F) := hF
  clear hF
  go_enter Tryz.func83, Tryz.ntmps83
  go_wp2_with fail
  refine (ofG (d : Int) _ (by omega) (by omega)).mono ?_
  rintro e w1 ⟨c1, n1, k1, rfl, G1, hb0⟩
  go_wp2_with fail
  refine (ofG 1 _ (by decide) (by decide)).mono ?_
  rintro e w2 ⟨c2, n2, k2, rfl, G2, hx⟩
  replace G1 := G1.below hx
  replace hb0 := bel_tr hb0 hx
  clear hx
  go_wp2_with fail
  refine (scaleT (-x) _ (by omega) G1.num G2.num (by omega) (by omega) (by omega)).mono ?_
  rintro e w3 ⟨c3, n3, k3, c4, n4, k4, rfl, N3, N4, hx⟩
  replace hb0 := bel_tr hb0 hx
  clear hx G1 G2
  have e1 : uT (-x) = vT x := by unfold uT vT; rw [Int.neg_neg]
  have e2 : (1 : Int) * vT (-x) = uT x := by rw [Int.one_mul]; rfl
  rw [e1] at N3
  rw [e2] at N4
  have HT : TR w3 false c3 n3 k3 c4 n4 k4 (dec d x) (1 + 2048) := ⟨_, _, ⟨_, N3, rfl⟩, N4, rfl⟩
  clear N3 N4 e1 e2
  go_wp2_with fail
  refine (floatQ z _ HT (by omega) (by omega) hP HF.out rfl).mono ?_
  rintro e w4 ⟨rfl, hx⟩
  replace hb0 := bel_tr hb0 hx
  clear hx HT hP HF
  generalize sdz z = sd
  go_wp2
  go_ret
  exact ⟨rfl, hb0⟩
end Go.Proofs.YtbkkepbmaadomaaGreatDoor

namespace Go.Proofs.YtbkkepbmaadomaaGreatDoor
open Go.RowKit

theorem pow2_le {a b : Nat} (h : a ≤ b) : ((2 ^ a : Nat) : Int) ≤ ((2 ^ b : Nat) : Int) := Int.ofNat_le.2 (Nat.pow_le_pow_right (by decide) h)
theorem two_nat (n : Nat) : (2 : Int) ^ n = ((2 ^ n : Nat) : Int) := by rw [Int.natCast_pow]; rfl
theorem E4_nat : E4 = ((2 ^ 1074 : Nat) : Int) := two_nat 1074
theorem pow2_pos (n : Nat) : (0 : Int) < ((2 ^ n : Nat) : Int) := Int.natCast_pos.2 (Nat.two_pow_pos n)
theorem lt_of_pow2 {a b : Nat} (h : ((2 ^ a : Nat) : Int) < ((2 ^ b : Nat) : Int)) : a < b := by
  have : 2 ^ a < 2 ^ b := by omega
  exact (Nat.pow_lt_pow_iff_right (by decide)).1 this
theorem nn_lt {m s N : Nat} (hm : m < 9007199254740992) (hs : s ≤ N) : (m : Int) * 2 ^ s < ((2 ^ (53 + N) : Nat) : Int) := by
  have q1 := two_nat s
  have q2 := pow2_le hs
  have q3 : (m : Int) < ((2 ^ 53 : Nat) : Int) := by
    have : (2 ^ 53 : Nat) = 9007199254740992 := by decide
    rw [this]; omega
  have q4 := Int.mul_le_mul_of_nonneg_left q2 (show (0 : Int) ≤ (m : Int) by omega)
  have q5 := Int.mul_lt_mul_of_pos_right q3 (pow2_pos N)
  rw [← pwI] at q5
  rw [q1]
  exact Int.lt_of_le_of_lt q4 q5
/-- The size of a float. -/
theorem size_bd {A B : Int} {k s m bx bY : Nat} (hB : 0 < B) (a : A * E4 = Nn k * B) (e : k = s * 4503599627370496 + m) (hc : s = 0 ∧ m < 2 * 4503599627370496 ∨ 4503599627370496 ≤ m ∧ m < 2 * 4503599627370496) (hk : 1 ≤ k) (hs : s ≤ 2046)
    (bx1 : 1 ≤ bx) (b1 : 1 ≤ bY) (x1 : ((2 ^ (bx - 1) : Nat) : Int) ≤ A) (x2 : A < ((2 ^ bx : Nat) : Int)) (y1 : ((2 ^ (bY - 1) : Nat) : Int) ≤ B) (y2 : B < ((2 ^ bY : Nat) : Int)) : -1090 < (bx : Int) - bY + 1 ∧ (bx : Int) - bY + 1 < 1090 := by
  have hE := E4_pos
  have n1 := Nn_ge e hc hk
  obtain ⟨N, hN⟩ : ∃ N, N = 2046 := ⟨_, rfl⟩
  obtain ⟨M, hM, hEM⟩ : ∃ M : Nat, M = 1074 ∧ E4 = ((2 ^ M : Nat) : Int) := ⟨1074, rfl, E4_nat⟩
  have n2 : Nn k < ((2 ^ (53 + N) : Nat) : Int) := by rw [(Nn_m e hc).1]; exact nn_lt (by omega) (by omega)
  have hp : (1 : Int) ≤ 2 ^ s := by have : (0 : Int) < 2 ^ s := Int.pow_pos (by decide); omega
  constructor
  · have h1 : B ≤ A * E4 := by
      rw [a]
      have := Int.mul_le_mul_of_nonneg_right (show (1 : Int) ≤ Nn k by omega) (Int.le_of_lt hB)
      rwa [Int.one_mul] at this
    have h2 := Int.mul_lt_mul_of_pos_right x2 hE
    rw [hEM, ← pwI] at h2
    rw [hEM] at h1
    have h3 : ((2 ^ (bY - 1) : Nat) : Int) < ((2 ^ (bx + M) : Nat) : Int) := Int.lt_of_le_of_lt y1 (Int.lt_of_le_of_lt h1 h2)
    have := lt_of_pow2 h3
    omega
  · have h1 : A * E4 < ((2 ^ (53 + N) : Nat) : Int) * ((2 ^ bY : Nat) : Int) := by
      rw [a]
      have q1 := Int.mul_lt_mul_of_pos_right n2 hB
      have q2 := Int.mul_lt_mul_of_pos_left y2 (pow2_pos (53 + N))
      exact Int.lt_trans q1 q2
    have h2 := Int.mul_le_mul_of_nonneg_right x1 (Int.le_of_lt hE)
    rw [hEM, ← pwI] at h2
    rw [hEM, ← pwI] at h1
    have := lt_of_pow2 (Int.lt_of_le_of_lt h2 h1)
    omega
set_option maxHeartbeats 1000000 in
/-- near.powerAbove -/
theorem powAb {a b : Option Addr} {na nb ca cb : Nat} {A B : Int} {k s m : Nat} (w : World) (ha : Num w a na ca A 2000) (hb : Num w b nb cb B 2000) (hA : 0 < A) (hB : 0 < B) (ea : A * E4 = Nn k * B) (e : k = s * 4503599627370496 + m) (hc : s = 0 ∧ m < 2 * 4503599627370496 ∨ 4503599627370496 ≤ m ∧ m < 2 * 4503599627370496) (hk : 1 ≤ k) (hs : s ≤ 2046) :
    Calls Tryz.prog 80 #[.slice a na ca, .slice b nb cb] w fun e w' => ∃ x : Int, e = .returned (.int .i64 x) ∧ Iv s x ∧ Bd k x ∧ x ≤ 330 ∧ Below w.heap.size w w' := by
  have HI : ∀ bx bY : Nat, 0 < bx ∧ ((2 ^ (bx - 1) : Nat) : Int) ≤ A ∧ A < ((2 ^ bx : Nat) : Int) → 0 < bY ∧ ((2 ^ (bY - 1) : Nat) : Int) ≤ B ∧ B < ((2 ^ bY : Nat) : Int) → (-1090 < (bx : Int) - bY + 1 ∧ (bx : Int) - bY + 1 < 1090) ∧ Hid (Iv s ((((bx : Int) - bY + 1) * 30103).tdiv 100000) ∧ Bd k ((((bx : Int) - bY + 1) * 30103).tdiv 100000)) := by
    intro bx bY h1 h2
    have h3 := size_bd hB ea e hc hk hs h1.1 h2.1 h1.2.1 h1.2.2 h2.2.1 h2.2.2
    exact ⟨h3, Iv.init hB (Int.le_of_lt hA) ea e hc hk h2.1 h1.2.2 h2.2.1 h3.1 h3.2 rfl, Bd.init (above_init hB hA ea h2.1 h1.2.2 h2.2.1 h3.1 h3.2 rfl)⟩
  clear ea e hc hk hs
  go_enter Tryz.func80, Tryz.ntmps80
  go_wp2_with fail
  refine (bitsN _ ha (by omega)).mono ?_
  rintro e w1 ⟨bx, rfl, h1, hx⟩
  replace hb := hb.below hx
  have hb0 := hx
  clear hx
  go_wp2_with fail
  refine (bitsN _ hb (by omega)).mono ?_
  rintro e w2 ⟨bY, rfl, h2, hx⟩
  replace hb0 := bel_tr hb0 hx
  clear hx
  obtain ⟨⟨n1, n2⟩, I⟩ := HI bx bY (by rcases h1 with ⟨_, h⟩ | h; omega; exact h) (by rcases h2 with ⟨_, h⟩ | h; omega; exact h)
  clear HI h1 h2 ha hb
  have w1' : IntKind.i64.wrap ((bx : Int) - (bY : Int)) = (bx : Int) - (bY : Int) := by rw [IntKind.wrap_i64]; omega
  obtain ⟨n, hn⟩ : ∃ n, (bx : Int) - (bY : Int) + 1 = n := ⟨_, rfl⟩
  have w2' : IntKind.i64.wrap ((bx : Int) - (bY : Int) + 1) = n := by rw [IntKind.wrap_i64]; omega
  rw [hn] at I n1 n2
  obtain ⟨p, hp⟩ : ∃ p, n * 30103 = p := ⟨_, rfl⟩
  have w3' : IntKind.i64.wrap (n * 30103) = p := by rw [IntKind.wrap_i64]; omega
  rw [hp] at I
  have hq : p.tdiv 100000 ≤ 330 ∧ -330 ≤ p.tdiv 100000 := by
    rcases Int.le_total 0 p with h | h
    · rw [Int.tdiv_eq_ediv_of_nonneg h]; omega
    · obtain ⟨q, rfl⟩ : ∃ q, p = -q := ⟨-p, by omega⟩
      rw [Int.neg_tdiv, Int.tdiv_eq_ediv_of_nonneg (by omega)]; omega
  have w4' : IntKind.i64.wrap (p.tdiv 100000) = p.tdiv 100000 := by rw [IntKind.wrap_i64]; omega
  clear hn hp
  go_wp2
  go_ret
  exact ⟨_, rfl, I.out.1, I.out.2, hq.1, hb0⟩
end Go.Proofs.YtbkkepbmaadomaaGreatDoor

namespace Go.Proofs.YtbkkepbmaadomaaGreatDoor
open Go.RowKit

/-- A decimal that is read as the float of rank k. -/
def Dc (k d : Nat) (x : Int) : Prop := 1 ≤ d ∧ d < 9223372036854775808 ∧ -340 ≤ x ∧ x ≤ 340 ∧ ∃ z, Pz (dec d x) z ∧ flz z = (k : Int)
theorem dec_pos {d : Nat} (x : Int) (hd : 1 ≤ d) : ∃ g : Int, 0 < g ∧ (d : Int) * vT x = (dec d x).num * g ∧ uT x = ((dec d x).den : Int) * g ∧ 0 < (dec d x).num := by
  obtain ⟨g, hg, e1, e2, e3, e4⟩ := ws_pp (p := false) (x := (d : Int) * vT x) (y := uT x) (Int.mul_pos (by omega) (vT_pos x)) (uT_pos x)
  have e : Rat.divInt (ws false ((d : Int) * vT x)) (uT x) = dec d x := rfl
  rw [e] at e1 e2 e3 e4
  have h0 : ¬ (dec d x).num < 0 := fun h => by rw [decide_eq_true h] at e3; cases e3
  refine ⟨g, hg, ?_, e2, by omega⟩
  rw [show (dec d x).num = ((dec d x).num.natAbs : Int) by omega]
  exact e1
/-- .. and its place. -/
theorem dec_at {d : Nat} (x : Int) (hd : 1 ≤ d) : ∃ t : Nat, Ps ((d : Int) * vT x) (uT x) t ∧ Pz (dec d x) (t : Int) ∧ 0 < t := by
  obtain ⟨g, hg, e1, e2, e3⟩ := dec_pos x hd
  obtain ⟨t, ht⟩ := Ps.ex (x := (dec d x).num) (y := ((dec d x).den : Int)) (by omega) (den_pos _)
  have hp := ht.pos e3
  refine ⟨t, by rw [e1, e2]; exact (Ps.scale hg).2 ht, .inr (.inl ⟨e3, by omega, by rw [Int.toNat_natCast]; exact ht⟩), hp⟩
theorem flz_nat (t : Nat) : flz (t : Int) = ((nrz t : Nat) : Int) := by unfold flz; rw [if_neg (by omega), Int.toNat_natCast]
theorem dec_ten (x : Int) : dec 10 x = dec 1 (x + 1) := by
  unfold dec
  have h1 := uT_pos x
  have h2 := uT_pos (x + 1)
  have e := shift10 (x + 1)
  rw [show x + 1 - 1 = x by omega] at e
  have a := Rat.divInt_mul_right (n := ((10 : Nat) : Int) * vT x) (d := uT x) (a := uT (x + 1)) (by omega)
  have b := Rat.divInt_mul_right (n := ((1 : Nat) : Int) * vT (x + 1)) (d := uT (x + 1)) (a := uT x) (by omega)
  rw [← a, ← b]
  congr 1
  · rw [show ((1 : Nat) : Int) = 1 from rfl, Int.one_mul, e, show ((10 : Nat) : Int) = 10 from rfl, Int.mul_assoc]
  · exact Int.mul_comm _ _
theorem Dc.ten {k : Nat} {x : Int} (h : Dc k 10 x) (hx : x ≤ 339) : Dc k 1 (x + 1) := by
  obtain ⟨_, _, h3, _, z, h5, h6⟩ := h
  exact ⟨by decide, by decide, by omega, by omega, z, by rw [← dec_ten]; exact h5, h6⟩
theorem eqF {j k : Int} (h1 : -9218868437227405312 ≤ j ∧ j ≤ 9218868437227405312) (h2 : -9218868437227405312 ≤ k ∧ k ≤ 9218868437227405312) : (FloatKind.f64.format.order (fb j) (fb k) == some .eq) = decide (j = k) := by
  have e : FloatKind.f64.format.order (fb j) (fb k) = some (compare j k) := order_fb h1.1 h1.2 h2.1 h2.2
  rw [e]
  rcases Int.lt_trichotomy j k with h | h | h
  · rw [Int.compare_eq_lt.2 h, decide_eq_false (by omega)]; rfl
  · rw [Int.compare_eq_eq.2 h, decide_eq_true h]; rfl
  · rw [Int.compare_eq_gt.2 h, decide_eq_false (by omega)]; rfl
/-- reads of a candidate: the float, and whether it is that of k -/
theorem readsC {d : Nat} {x : Int} (k : Nat) (hk : k < 9218868437227405312) (hd : 1 ≤ d) (hd2 : d < 9223372036854775808) (h1 : -340 ≤ x) (h2 : x ≤ 340) : ∃ (F : Nat) (q : Bool), (∀ w, Calls Tryz.prog 83 #[.int .u64 (d : Int), .int .i64 x] w fun e w' => e = .returned (.float .f64 F) ∧ Below w.heap.size w w') ∧ (FloatKind.f64.format.order F k == some .eq) = q ∧ (q = true → Dc k d x) ∧ (∀ t, Ps ((d : Int) * vT x) (uT x) t → nrz t = k → q = true) := by
  obtain ⟨t, P1, P2, hp⟩ := dec_at x hd
  refine ⟨fb (flz t), decide (flz t = (k : Int)), fun w => readsQ d x t w (by omega) (by omega) (by omega) P2 rfl, ?_, fun h => ?_, fun u hu hn => ?_⟩
  · have := eqF (j := flz t) (k := (k : Int)) P2.fl ⟨by omega, by omega⟩
    rwa [show fb (k : Int) = k by unfold fb; rw [if_neg (by omega)]; omega] at this
  · exact ⟨hd, hd2, h1, h2, t, P2, of_decide_eq_true h⟩
  · rw [P1.uniq hu (uT_pos x), flz_nat, hn]; exact decide_eq_true rfl
theorem Dc.rk {k d : Nat} {x : Int} (h : Dc k d x) : Rk k d x := by
  obtain ⟨h1, -, -, -, z, h5, h6⟩ := h
  obtain ⟨t, P1, P2, -⟩ := dec_at x h1
  refine ⟨t, P1, ?_⟩
  rw [h5.uniq P2, flz_nat] at h6
  omega
end Go.Proofs.YtbkkepbmaadomaaGreatDoor

namespace Go.Proofs.YtbkkepbmaadomaaGreatDoor
open Go.RowKit

theorem nrz_cand {h : Nat} {j : Nat} (hj : j ≤ 1) (hb : ¬ h / 2 = 0) (hh : h < 720575940379279360) : 1 ≤ nrz (2 * h + j) ∧ nrz (2 * h + j) ≤ h / 2 + 1 ∧ h / 2 ≤ nrz (2 * h + j) ∧ (2 * h + j) / 4 = h / 2 ∧ (2 * h + j) % 4 = 2 * (h % 2) + j := by
  unfold nrz; omega
/-- The float of a rank: num and den. -/
def Fr (w : World) (a : Option Addr) (na ca : Nat) (b : Option Addr) (nb cb : Nat) (A B : Int) (k : Nat) : Prop := Num w a na ca A 1100 ∧ Num w b nb cb B 1100 ∧ 0 < A ∧ 0 < B ∧ A * E4 = Nn k * B
theorem Fr.below {w w' : World} {a : Option Addr} {na ca : Nat} {b : Option Addr} {nb cb : Nat} {A B : Int} {k : Nat} (h : Fr w a na ca b nb cb A B k) (hb : Below w.heap.size w w') : Fr w' a na ca b nb cb A B k := ⟨h.1.below hb, h.2.1.below hb, h.2.2⟩
def Cn2 (k s m : Nat) : Prop := k = s * 4503599627370496 + m ∧ (s = 0 ∧ m < 2 * 4503599627370496 ∨ 4503599627370496 ≤ m ∧ m < 2 * 4503599627370496) ∧ 1 ≤ k ∧ s ≤ 2046
theorem fr_of {A B X Y c : Int} {k s m s2 : Nat} (hc : 0 < c) (hX : X * c = (m : Int) * E4) (hY : Y * c = 1 * 2 ^ s2) (hs : s + s2 = 2148) (h : Cn2 k s m) (e1 : X = A) (e2 : Y = B) : A * E4 = Nn k * B := by
  subst e1; subst e2
  rw [(Nn_m h.1 h.2.1).1]
  have hE : (2 : Int) ^ s * 2 ^ s2 = E4 * E4 := by unfold E4; rw [← Int.pow_add, ← Int.pow_add, hs]
  refine Int.eq_of_mul_eq_mul_right (a := c) (by omega) ?_
  rw [show X * E4 * c = X * c * E4 by generalize E4 = E; ac_rfl, hX, Int.mul_assoc ((m : Int) * 2 ^ s), hY, Int.one_mul, Int.mul_assoc, Int.mul_assoc, hE]
theorem ix0 (u v : Int) (w : World) : (Instr.index 107 (.agg #[.int .u64 u, .int .u64 v]) (.int .i64 0)).run Tryz.prog w = .ok (.int .u64 u) w := by kernel_rfl
theorem ix1 (u v : Int) (w : World) : (Instr.index 107 (.agg #[.int .u64 u, .int .u64 v]) (.int .i64 1)).run Tryz.prog w = .ok (.int .u64 v) w := by kernel_rfl
set_option maxRecDepth 100000 in
set_option maxHeartbeats 4000000 in
/-- near.shortest -/
theorem shortestQ (k : Nat) (w : World) (hk : 1 ≤ k) (hki : k < 9218868437227405312) :
    Calls Tryz.prog 44 #[.float .f64 k] w fun e w' => ∃ (d : Nat) (x : Int), e = .returned (.tuple #[.int .u64 (d : Int), .int .i64 x]) ∧ Dc k d x ∧ Sd k d x ∧ Below w.heap.size w w' := by
  obtain ⟨m, s, ek, hms⟩ := NB_at (B := 4503599627370496) (by decide) k
  have hst : steps k = s := (Nn_m ek hms).2
  have HC : Cn2 k s m := ⟨ek, hms, hk, by omega⟩
  have hm0 : m < 9007199254740992 := by omega
  have hs : s ≤ 2046 := by omega
  have HRK := fun u => rankOfF k u (by omega)
  rw [show k % 9223372036854775808 = k by omega] at HRK
  have HSP := fun u => splitF k u hki
  rw [hst, show (k : Int) - (s : Int) * 4503599627370496 = (m : Int) by omega] at HSP
  clear ek hms hst
  go_enter Tryz.func44, Tryz.ntmps44
  go_wp2_with fail
  go_step3
  go_wp2_with fail
  refine (HRK _).mono ?_
  rintro e w1 ⟨rfl, e1⟩
  subst e1
  go_wp2_with fail
  refine (HSP _).mono ?_
  rintro e w1 ⟨rfl, e1⟩
  subst e1
  clear HRK HSP
  go_wp2_with fail
  refine (ofG (m : Int) _ (by omega) (by omega)).mono ?_
  rintro e w2 ⟨c1, n1, k1, rfl, G1, hb0⟩
  go_wp2_with fail
  refine (ofG 1 _ (by decide) (by decide)).mono ?_
  rintro e w3 ⟨c2, n2, k2, rfl, G2, hx⟩
  replace G1 := G1.below hx
  replace hb0 := bel_tr hb0 hx
  clear hx
  go_wp2_with fail
  refine (scaleQ (2148 - s) _ (by omega) G1.num G2.num (by omega) (by omega) (by omega) (by decide)).mono ?_
  rintro e w4 ⟨a, na, ca, b, nb, cb, A, B, c, rfl, N1, N2, hc, hB, hX, hY, hx⟩
  replace hb0 := bel_tr hb0 hx
  clear hx G1 G2
  have hA : 0 < A := by
    have h1 : 0 < A * c := by rw [hX]; exact Int.mul_pos (by have := HC.2.1; have := HC.2.2.1; have := HC.1; omega) E4_pos
    exact Int.pos_of_mul_pos_left h1 hc
  have HFR : Fr w4 a na ca b nb cb A B k := ⟨N1.upto (by omega), N2.upto (by omega), hA, hB, fr_of hc hX hY (by omega) HC rfl rfl⟩
  clear N1 N2 hc hX hY hA hB
  go_wp2_with fail
  go_step3
  go_wp2_with fail
  refine (powAb _ (HFR.1.upto (by omega)) (HFR.2.1.upto (by omega)) HFR.2.2.1 HFR.2.2.2.1 HFR.2.2.2.2 HC.1 HC.2.1 HC.2.2.1 HC.2.2.2).mono ?_
  rintro e w5 ⟨x0, rfl, I0, B0, hx0, hx⟩
  replace HFR := HFR.below hx
  replace hb0 := bel_tr hb0 hx
  clear hx
  have hl0 := I0.low
  go_wp2
  go_loopw [3, 2] (fun v d wr => ∃ x : Int, v = .int .i64 x ∧ Iv s x ∧ Bd k x ∧ x ≤ 330 ∧ Below w5.heap.size w5 wr) (fun v _ _ => (intOf v + 400).toNat)
  case atStart => exact ⟨x0, rfl, I0, B0, hx0, Below.refl _ _⟩
  case round =>
    obtain ⟨x, rfl, I, BD, hxx, hbw⟩ := hrel
    have hl := I.low
    have F := HFR.below hbw
    clear I0 B0 hx0 hl0
    have w1' : IntKind.i64.wrap (-x) = -x := by rw [IntKind.wrap_i64]; omega
    have w2' : IntKind.i64.wrap (x - 1) = x - 1 := by rw [IntKind.wrap_i64]; omega
    go_wp2_with fail
    refine (scaleT x _ rfl F.1 F.2.1 (by omega) (by omega) (by omega)).mono ?_
    rintro e v1 ⟨a1, na1, ca1, b1, nb1, cb1, rfl, N1, N2, hx⟩
    replace hbw := bel_tr hbw hx
    clear hx
    have hY : 0 < B * vT x := Int.mul_pos F.2.2.2.1 (vT_pos x)
    obtain ⟨h, r, hq, hr, hr'⟩ := dm N1.nn hY
    have CT : Ct A B k s h r x := ⟨F.2.2.2.1, F.2.2.2.2, ⟨m, HC.1, HC.2.1⟩, hq, hr, hr'⟩
    have hsm := CT.small I
    clear hq hr hr'
    go_wp2_with fail
    refine (countQ h _ N1 N2 (by omega) (by omega) hY CT.q CT.r0 CT.r1 (by omega)).mono ?_
    rintro e v2 ⟨rfl, hx⟩
    replace hbw := bel_tr hbw hx
    clear hx N1 N2 F hY
    obtain ⟨j, hj⟩ : ∃ j : Nat, (if r = 0 then 0 else 1) = j := ⟨_, rfl⟩
    have hj1 : j ≤ 1 := by rw [← hj]; split <;> omega
    obtain ⟨b2, hb2⟩ : ∃ b2, h / 2 = b2 := ⟨_, rfl⟩
    obtain ⟨pp, hpp⟩ : ∃ pp : Int, ((2 * (h % 2) + j : Nat) : Int) = pp := ⟨_, rfl⟩
    rw [hj, hb2, hpp]
    have HJ : Hid ((if r = 0 then 0 else 1) = j) := hj
    have HB2 : Hid (h / 2 = b2) := hb2
    have HPP : Hid (((2 * (h % 2) + j : Nat) : Int) = pp) := hpp
    have hb2s : b2 < 720575940379279360 := by omega
    clear hj hb2 hpp
    by_cases h0 : b2 = 0
    · have hC : ¬ Cv s x := fun K => by have := CT.some hk K; have := HB2.out; omega
      have I' := Iv.next hC
      have BD' : Bd k (x - 1) := BD.next CT.fk (.inl (by rw [HB2.out]; exact h0))
      clear BD
      subst h0
      clear hC CT I HFR
      go_wp2
      go_roundw
      case rel => exact ⟨x - 1, rfl, I', BD', by omega, hbw⟩
      case measure => simp [intOf]; omega
    · have h0' : ¬ (b2 : Int) = 0 := by omega
      have h0'' : ((b2 : Int) == 0) = false := beq_false_of_ne h0'
      have NC := nrz_cand (h := h) hj1 (by rw [HB2.out]; exact h0) hsm
      rw [HB2.out] at NC
      obtain ⟨f1, hf1⟩ : ∃ f1, nrz (2 * h + j) = f1 := ⟨_, rfl⟩
      have HF1 : Hid (nrz (2 * h + j) = f1) := hf1
      rw [hf1] at NC
      obtain ⟨f2, hf2⟩ : ∃ f2, b2 + b2 + 1 - f1 = f2 := ⟨_, rfl⟩
      have hf2b : 1 ≤ f2 ∧ f2 ≤ b2 + 1 := by omega
      have w3' : IntKind.u64.wrap ((b2 : Int) + (b2 : Int)) = (b2 : Int) + (b2 : Int) := by rw [IntKind.wrap_u64]; omega
      have w4' : IntKind.u64.wrap ((b2 : Int) + (b2 : Int) + 1) = (b2 : Int) + (b2 : Int) + 1 := by rw [IntKind.wrap_u64]; omega
      have w5' : IntKind.u64.wrap ((b2 : Int) + (b2 : Int) + 1 - (f1 : Int)) = (f2 : Int) := by rw [IntKind.wrap_u64]; omega
      obtain ⟨F1, q1, R1, o1, D1, T1⟩ := readsC (x := x) (d := f1) k hki (by omega) (by omega) (by omega) (by omega)
      obtain ⟨F2, q2, R2, o2, D2, T2⟩ := readsC (x := x) (d := f2) k hki (by omega) (by omega) (by omega) (by omega)
      have HST : Hid (q1 = false → Iv s (x - 1)) := by
        intro hq
        refine Iv.next fun K => ?_
        obtain ⟨t, P1, -, -⟩ := dec_at (d := f1) x (by omega)
        have := T1 t P1 (CT.stop (t := t) hk hki K (by rw [HJ.out, HF1.out]; exact P1))
        rw [hq] at this
        cases this
      have HBN : Hid (q1 = false → q2 = false → Bd k (x - 1)) := by
        intro y1 y2
        refine BD.next CT.fk (.inr ?_)
        rw [HB2.out]
        have r1 : ¬ Rk k f1 x := fun ⟨t, P, e⟩ => by have := T1 t P e; rw [y1] at this; cases this
        have r2 : ¬ Rk k f2 x := fun ⟨t, P, e⟩ => by have := T2 t P e; rw [y2] at this; cases this
        rcases (by omega : f1 = b2 ∧ f2 = b2 + 1 ∨ f1 = b2 + 1 ∧ f2 = b2) with ⟨e1, e2⟩ | ⟨e1, e2⟩
        · rw [e1] at r1; rw [e2] at r2; exact ⟨r1, r2⟩
        · rw [e1] at r1; rw [e2] at r2; exact ⟨r2, r1⟩
      have HO1 : Hid (q1 = true → Ou k f1 x) := by
        intro y1
        refine ⟨BD, b2, by rw [← HB2.out]; exact CT.fk, by omega, ?_⟩
        have L := CT.lw
        rw [HJ.out, HF1.out, HB2.out] at L
        have hr := (D1 y1).rk
        by_cases hl : Lw k x b2
        · have e := L.1 hl; rw [e] at hr; exact .inl ⟨e, hr, .inl hl⟩
        · have e := L.2 hl; rw [e] at hr; exact .inr ⟨e, hr, .inl hl⟩
      have HO2 : Hid (q1 = false → q2 = true → Ou k f2 x) := by
        intro y1 y2
        refine ⟨BD, b2, by rw [← HB2.out]; exact CT.fk, by omega, ?_⟩
        have r1 : ¬ Rk k f1 x := fun ⟨t, P, e⟩ => by have := T1 t P e; rw [y1] at this; cases this
        have hr := (D2 y2).rk
        rcases (by omega : f1 = b2 ∧ f2 = b2 + 1 ∨ f1 = b2 + 1 ∧ f2 = b2) with ⟨e1, e2⟩ | ⟨e1, e2⟩
        · rw [e1] at r1; rw [e2] at hr; exact .inr ⟨e2, hr, .inr r1⟩
        · rw [e1] at r1; rw [e2] at hr; exact .inl ⟨e2, hr, .inr r1⟩
      have HNV := fun u => nearerV (2 * h + j) u (k4 := (b2 : Int)) (p4 := pp) (n4 := (f1 : Int)) (by omega) (by rw [NC.2.2.2.1]) (by rw [NC.2.2.2.2]; exact HPP.out) (by rw [hf1])
      clear NC hf1 hf2 CT I BD HJ HB2 HPP HF1 HFR h0
      go_wp2_with fail
      refine (HNV _).mono ?_
      rintro e v3 ⟨rfl, e3⟩
      subst e3
      clear HNV
      go_wp2
      go_loopw [54, 2] (fun i d wr => ∃ n : Nat, i = .int .i64 n ∧ n ≤ 2 ∧ (1 ≤ n → q1 = false) ∧ (2 ≤ n → q2 = false) ∧ Below w5.heap.size w5 wr) (fun i _ _ => 3 - (intOf i).toNat)
      case atStart => exact ⟨0, rfl, by omega, fun h => absurd h (by decide), fun h => absurd h (by decide), hbw⟩
      case round =>
        obtain ⟨n, rfl, hn, z1, z2, hbi⟩ := hrel
        rcases (by omega : n = 0 ∨ n = 1 ∨ n = 2) with rfl | rfl | rfl
        · have HX := fun u => ix0 (f1 : Int) (f2 : Int) u
          go_wp2_with fail
          refine (R1 _).mono ?_
          rintro e v4 ⟨rfl, hx⟩
          replace hbi := bel_tr hbi hx
          clear hx R1 R2 HST HBN HO2
          cases q1
          · go_wp2
            go_roundw
            case rel => exact ⟨1, rfl, by omega, fun _ => by simp, fun h => absurd h (by decide), hbi⟩
            case measure => simp [intOf]
          · by_cases ht : f1 = 10
            · have DT := (D1 rfl)
              have OT := HO1.out rfl
              rw [ht] at DT OT
              have ST : Sd k 1 (x + 1) := .inl ⟨by rw [show x + 1 - 1 = x by omega]; exact OT, rfl⟩
              clear OT HO1
              have DT2 := DT.ten (by omega)
              have hti : (f1 : Int) = 10 := by omega
              have wx : IntKind.i64.wrap (x + 1) = x + 1 := by rw [IntKind.wrap_i64]; omega
              clear D1 D2 T1 T2 o2 DT
              rw [hti]
              go_wp2
              simp only [Exit.noGoto]
              go_ret2
              exact ⟨1, x + 1, rfl, DT2, ST, bel_tr hb0 hbi⟩
            · have hti : ¬ (f1 : Int) = 10 := by omega
              have DT := (D1 rfl)
              have ST : Sd k f1 x := .inr ⟨HO1.out rfl, ht⟩
              clear HO1
              clear D1 D2 T1 T2 o2
              go_wp2
              simp only [Exit.noGoto]
              go_ret2
              exact ⟨f1, x, rfl, DT, ST, bel_tr hb0 hbi⟩
        · have HX := fun u => ix1 (f1 : Int) (f2 : Int) u
          go_wp2_with fail
          refine (R2 _).mono ?_
          rintro e v4 ⟨rfl, hx⟩
          replace hbi := bel_tr hbi hx
          have z3 := z1 (by decide)
          clear hx R1 R2 HST HBN HO1
          cases q2
          · go_wp2
            go_roundw
            case rel => exact ⟨2, rfl, by omega, fun _ => z3, fun _ => by simp, hbi⟩
            case measure => simp [intOf]
          · by_cases ht : f2 = 10
            · have DT := (D2 rfl)
              have OT := HO2.out z3 rfl
              rw [ht] at DT OT
              have ST : Sd k 1 (x + 1) := .inl ⟨by rw [show x + 1 - 1 = x by omega]; exact OT, rfl⟩
              clear OT HO2
              have DT2 := DT.ten (by omega)
              have hti : (f2 : Int) = 10 := by omega
              have wx : IntKind.i64.wrap (x + 1) = x + 1 := by rw [IntKind.wrap_i64]; omega
              clear D1 D2 T1 T2 o1 DT
              rw [hti]
              go_wp2
              simp only [Exit.noGoto]
              go_ret2
              exact ⟨1, x + 1, rfl, DT2, ST, bel_tr hb0 hbi⟩
            · have hti : ¬ (f2 : Int) = 10 := by omega
              have DT := (D2 rfl)
              have ST : Sd k f2 x := .inr ⟨HO2.out z3 rfl, ht⟩
              clear HO2
              clear D1 D2 T1 T2 o1
              go_wp2
              simp only [Exit.noGoto]
              go_ret2
              exact ⟨f2, x, rfl, DT, ST, bel_tr hb0 hbi⟩
        · have I' := HST.out (z1 (by decide))
          have BD' := HBN.out (z1 (by decide)) (z2 (by decide))
          clear R1 R2 HST z1 z2 D1 D2 T1 T2 HBN HO1 HO2
          go_wp2
          go_roundw
          case rel => exact ⟨x - 1, rfl, I', BD', by omega, hbi⟩
          case measure => simp [intOf]; omega
end Go.Proofs.YtbkkepbmaadomaaGreatDoor

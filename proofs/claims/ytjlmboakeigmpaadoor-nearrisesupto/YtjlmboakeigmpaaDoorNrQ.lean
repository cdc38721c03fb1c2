import Derived.Test.YtjlmboakeigmpaaDoorNrO
import Derived.Test.YtjlmboakeigmpaaDoorNrP
namespace Go.Proofs.YtjlmboakeigmpaaDoor
open Go.RowKit

theorem joinQ {z : Int} (m s : Nat) (w : World) (hz : z = (s : Int) - 1074) (hm : m < 9007199254740992) (hs : s ≤ 2046) : Calls Tryd.prog 85 #[.int .u64 (m : Int), .int .i64 z] w fun e w' => e = .returned (.int .u64 ((s * 4503599627370496 + m : Nat) : Int)) ∧ w' = w := by
  subst hz
  have w1 : wrap64 (s : Int) = (s : Int) := by unfold wrap64; omega
  have w2 : IntKind.u64.wrap (s : Int) = (s : Int) := by rw [IntKind.wrap_u64]; omega
  have w3 : IntKind.u64.wrap ((s : Int) * 4503599627370496) = (s : Int) * 4503599627370496 := by rw [IntKind.wrap_u64]; omega
  have w4 : IntKind.u64.wrap ((s : Int) * 4503599627370496 + (m : Int)) = (s : Int) * 4503599627370496 + (m : Int) := by rw [IntKind.wrap_u64]; omega
  have w5 : ((s * 4503599627370496 + m : Nat) : Int) = (s : Int) * 4503599627370496 + (m : Int) := by omega
  rw [w5]
  clear hm hs w5
  go_enter Tryd.func85, Tryd.ntmps85
  go_wp2
  go_ret
  exact ⟨by simp, rfl⟩
theorem dm {X Y : Int} (hX : 0 ≤ X) (hY : 0 < Y) : ∃ (h : Nat) (r : Int), X * 2 = h * Y + r ∧ 0 ≤ r ∧ r < Y := by
  obtain ⟨h, hh⟩ := Int.eq_ofNat_of_zero_le (Int.ediv_nonneg (show 0 ≤ X * 2 by omega) (Int.le_of_lt hY))
  refine ⟨h, X * 2 % Y, ?_, Int.emod_nonneg _ (by omega), Int.emod_lt_of_pos _ hY⟩
  rw [← hh, Int.mul_comm (X * 2 / Y)]
  exact (Int.mul_ediv_add_emod _ _).symm
theorem jn (s h : Nat) : s * 4503599627370496 + h / 2 = (s * 9007199254740992 + h) / 2 ∧ h % 2 = (s * 9007199254740992 + h) % 2 := by omega
/-- 2 x E4 below C y 2^s -/
def HiB (C x y : Int) (s : Nat) : Prop := 2 * (x * E4) < C * (y * 2 ^ s)
def LoB (x y : Int) (s : Nat) : Prop := s = 0 ∨ 9007199254740992 * (y * 2 ^ s) ≤ 2 * (x * E4)
def Cn (x y X Y : Int) (s : Nat) : Prop := ∃ c, 0 < c ∧ X * c = x * E4 ∧ Y * c = y * 2 ^ s
def Dm (X Y : Int) (h : Nat) (r : Int) : Prop := X * 2 = h * Y + r ∧ 0 ≤ r ∧ r < Y
theorem Cn.lt {C x y X Y r : Int} {s h : Nat} (H : Cn x y X Y s) (D : Dm X Y h r) (U : HiB C x y s) : (h : Int) < C := by
  obtain ⟨c, h1, h2, h3⟩ := H; exact h_lt h1 h2 h3 D.1 D.2.1 D.2.2 U
theorem Cn.can {x y X Y r : Int} {s h : Nat} (H : Cn x y X Y s) (D : Dm X Y h r) (L : LoB x y s) (hm : h < 18014398509481984) : s = 0 ∧ h < 2 * 9007199254740992 ∨ 9007199254740992 ≤ h ∧ h < 2 * 9007199254740992 := by
  obtain ⟨c, h1, h2, h3⟩ := H
  rcases L with L | L
  · exact .inl ⟨L, by omega⟩
  · have := h_ge h1 h2 h3 D.1 D.2.1 D.2.2 L
    exact .inr ⟨by omega, by omega⟩
def Out (x y : Int) (i j : Nat) : Prop := j ≤ 1 ∧ (i < 18437736874454810624 → Ps x y (2 * i + j)) ∧ (18437736874454810624 ≤ i → Ps x y 36875473748909621247)
theorem Cn.out {x y X Y r : Int} {s h : Nat} (H : Cn x y X Y s) (D : Dm X Y h r) (hy : 0 < y) (L : LoB x y s) (hm : h < 18014398509481984) : Out x y (s * 9007199254740992 + h) (if r = 0 then 0 else 1) := by
  have hh := H.can D L hm
  obtain ⟨c, h1, h2, h3⟩ := H
  exact ⟨by split <;> omega, fun ht => Ps.of h1 h2 h3 hh D.1 D.2.1 D.2.2 ht, fun ht => Ps.far hy h1 h2 h3 hh D.1 D.2.1 ht⟩
theorem Cn.next {x y X Y r : Int} {s h : Nat} (H : Cn x y X Y s) (D : Dm X Y h r) (hY : 0 < Y) (hm : ¬ h < 18014398509481984) : LoB x y (s + 1) := by
  obtain ⟨c, h1, h2, h3⟩ := H
  right
  rw [← half_up]
  exact h_le (C := 18014398509481984) h1 h2 h3 D.1 D.2.1 hY (by omega)
theorem HiB.next {x y : Int} {s : Nat} (U : HiB 36028797018963968 x y s) : HiB 18014398509481984 x y (s + 1) := by
  unfold HiB; rw [← half_up]; exact U
theorem HiB.up {x y : Int} {s : Nat} (hy : 0 < y) (U : HiB 18014398509481984 x y s) : HiB 36028797018963968 x y s := by
  unfold HiB at *
  have : 0 < y * 2 ^ s := Int.mul_pos hy (Int.pow_pos (by decide))
  omega
set_option maxRecDepth 100000 in
set_option maxHeartbeats 1000000 in
/-- near.rankOfSize: at most two rounds. -/
theorem rankS {z : Int} {a b : Option Addr} {na nb ca cb : Nat} {x y : Int} {S R : Nat} (bx bY : Nat) (w : World) (ha : Num w a na ca x S) (hb : Num w b nb cb y R) (hS : S ≤ 2000000) (hR : R ≤ 2000000) (hy : 0 < y)
    (hz : z = (bx : Int) - (bY : Int)) (hz1 : z ≤ 1024) (hz2 : -1000000000 ≤ z) (b1 : 1 ≤ bx) (b2 : 1 ≤ bY) (x1 : ((2 ^ (bx - 1) : Nat) : Int) ≤ x) (x2 : x < ((2 ^ bx : Nat) : Int)) (y1 : ((2 ^ (bY - 1) : Nat) : Int) ≤ y) (y2 : y < ((2 ^ bY : Nat) : Int)) :
    Calls Tryd.prog 73 #[.slice a na ca, .slice b nb cb, .int .i64 z] w fun e w' => ∃ i j : Nat, e = .returned (.tuple #[.int .u64 ((i / 2 : Nat) : Int), .int .i64 ((2 * (i % 2) + j : Nat) : Int)]) ∧ Out x y i j ∧ Below w.heap.size w w' := by
  obtain ⟨s0, hs0⟩ : ∃ s0 : Nat, max (z - 53) (-1074) = (s0 : Int) - 1074 := ⟨(max (z - 53) (-1074) + 1074).toNat, by omega⟩
  have hs1 : s0 ≤ 2045 := by omega
  have U0 : HiB 36028797018963968 x y s0 := up0 x2 y1 b2 (by omega)
  have L0 : LoB x y s0 := by
    rcases Nat.eq_zero_or_pos s0 with h | h
    · exact .inl h
    · exact .inr (lo0 x1 y2 b1 (by omega))
  have w1 : IntKind.i64.wrap (z - 53) = z - 53 := by rw [IntKind.wrap_i64]; omega
  clear x1 x2 y1 y2 b1 b2 hz
  go_enter Tryd.func73, Tryd.ntmps73
  go_wp2
  go_loopw [8] (fun v wr => ∃ s j : Nat, j ≤ 1 ∧ s = s0 + j ∧ v = .int .i64 ((s : Int) - 1074) ∧ HiB 36028797018963968 x y s ∧ (j = 1 → HiB 18014398509481984 x y s) ∧ LoB x y s ∧ Below w.heap.size w wr) (fun v _ => ((s0 : Int) + 1 - (intOf v + 1074)).toNat)
  case atStart => exact ⟨s0, 0, by omega, rfl, by rw [← hs0], U0, (fun h => absurd h (by decide)), L0, Below.refl _ _⟩
  case round =>
    obtain ⟨s, j, hj, hs, rfl, U, U2, L, hbw⟩ := hrel
    have HS : Hid (s = s0 + j) := hs
    have hs2 : s ≤ 2046 := by omega
    clear hs
    have ha' := ha.below hbw
    have hb' := hb.below hbw
    have w2 : IntKind.i64.wrap (-((s : Int) - 1074)) = 1074 - (s : Int) := by rw [IntKind.wrap_i64]; omega
    have w3 : IntKind.i64.wrap ((s : Int) - 1074 + 1) = (s : Int) - 1073 := by rw [IntKind.wrap_i64]; omega
    clear ha hb
    go_wp2_with fail
    refine (scaleQ s _ (by omega) ha' hb' (by omega) (by omega) (by omega) hy).mono ?_
    rintro e v1 ⟨a1, na1, ca1, b1, nb1, cb1, X, Y, c, rfl, N1, N2, hc, hY0, hX, hY, hx⟩
    have HC : Cn x y X Y s := ⟨c, hc, hX, hY⟩
    obtain ⟨h, r, hq⟩ := dm N1.nn hY0
    have HD : Dm X Y h r := hq
    have l1 := HC.lt HD U
    have hbw1 := bel_tr hbw hx
    clear hx ha' hb' hX hY hq hc
    go_wp2_with fail
    refine (countQ h _ N1 N2 (by omega) (by omega) hY0 HD.1 HD.2.1 HD.2.2 (by omega)).mono ?_
    rintro e v2 ⟨rfl, hx⟩
    replace hbw1 := bel_tr hbw1 hx
    clear hx N1 N2
    by_cases hm : h < 18014398509481984
    · have hsh : ((h / 2 : Nat) : Int) / 9007199254740992 = 0 := by omega
      have HO := HC.out HD hy L hm
      generalize (if r = 0 then 0 else 1) = jj at *
      clear L U U2 l1 HC HD
      have hh2 : h / 2 < 9007199254740992 := by omega
      rw [(jn s h).2]
      obtain ⟨pp, hpp⟩ : ∃ pp : Int, ((2 * ((s * 9007199254740992 + h) % 2) + jj : Nat) : Int) = pp := ⟨_, rfl⟩
      have HPP : Hid (((2 * ((s * 9007199254740992 + h) % 2) + jj : Nat) : Int) = pp) := hpp
      obtain ⟨m, hm2⟩ : ∃ m, h / 2 = m := ⟨_, rfl⟩
      have HM : Hid (h / 2 = m) := hm2
      rw [hm2] at hsh hh2 ⊢
      rw [hpp]
      clear hm hpp hm2
      go_wp2_with fail
      refine (joinQ m s _ rfl hh2 (by omega)).mono ?_
      rintro e v3 ⟨rfl, rfl⟩
      rw [← HM.out, (jn s h).1, ← HPP.out]
      generalize s * 9007199254740992 + h = i at *
      obtain ⟨i2, hi2⟩ : ∃ i2 : Int, ((i / 2 : Nat) : Int) = i2 := ⟨_, rfl⟩
      obtain ⟨i3, hi3⟩ : ∃ i3 : Int, ((2 * (i % 2) + jj : Nat) : Int) = i3 := ⟨_, rfl⟩
      have HI2 : Hid (((i / 2 : Nat) : Int) = i2) := hi2
      have HI3 : Hid (((2 * (i % 2) + jj : Nat) : Int) = i3) := hi3
      rw [hi2, hi3]
      clear hi2 hi3 HM HPP
      go_wp2
      go_ret2
      exact ⟨i, jj, by rw [HI2.out, HI3.out]; rfl, HO, hbw1⟩
    · have hsh : ¬ ((h / 2 : Nat) : Int) / 9007199254740992 = 0 := by omega
      have j0 : j = 0 := by
        rcases (by omega : j = 0 ∨ j = 1) with h1 | h1
        · exact h1
        · have := HC.lt HD (U2 h1); omega
      have G1 := HC.next HD hY0 hm
      have G2 := U.next
      have G3 := G2.up hy
      generalize ((2 * (h % 2) + (if r = 0 then 0 else 1) : Nat) : Int) = jj at *
      generalize ((h / 2 : Nat) : Int) = hh at *
      clear U U2 L l1 HC HD hm
      go_wp2
      go_roundw
      case rel => exact ⟨s + 1, 1, by omega, by have := HS.out; omega, by first | (congr 1; omega) | (congr 2; omega), G3, fun _ => G2, G1, hbw1⟩
      case measure => have := HS.out; simp [intOf]; omega
theorem last4 : ((36875473748909621247 / 4 : Nat) : Int) = 9218868437227405311 := by decide
theorem last3 : ((36875473748909621247 % 4 : Nat) : Int) = 3 := by decide
theorem bits_le {t S : Nat} {x : Int} (h : ((2 ^ (t - 1) : Nat) : Int) ≤ x) (hx : x < pw S) : t ≤ 64 * S + 1 := by
  rw [pwN] at hx
  have h1 : 2 ^ (t - 1) < 2 ^ (64 * S) := by omega
  have := (Nat.pow_lt_pow_iff_right (show 1 < 2 by decide)).1 h1
  omega
set_option maxRecDepth 100000 in
set_option maxHeartbeats 4000000 in
/-- near.rankBelow -/
theorem belowQ {a b : Option Addr} {na nb ca cb : Nat} {x y : Int} {S R : Nat} (t : Nat) (w : World) (ha : Num w a na ca x S) (hb : Num w b nb cb y R) (hS : S ≤ 2000000) (hR : R ≤ 2000000) (hx0 : 0 < x) (hy : 0 < y) (hP : Ps x y t) :
    Calls Tryd.prog 54 #[.slice a na ca, .slice b nb cb] w fun e w' => e = .returned (.tuple #[.int .u64 ((t / 4 : Nat) : Int), .int .i64 ((t % 4 : Nat) : Int)]) ∧ Below w.heap.size w w' := by
  have px := ha.below_pw
  have py := hb.below_pw
  go_enter Tryd.func54, Tryd.ntmps54
  go_wp2_with fail
  refine (bitsN _ ha (by omega)).mono ?_
  rintro e w1 ⟨bx, rfl, h1, hx⟩
  have b1 : 0 < bx ∧ ((2 ^ (bx - 1) : Nat) : Int) ≤ x ∧ x < ((2 ^ bx : Nat) : Int) := by
    rcases h1 with ⟨_, h⟩ | h
    · omega
    · exact h
  clear h1
  replace ha := ha.below hx
  replace hb := hb.below hx
  have hb0 := hx
  clear hx
  go_wp2_with fail
  refine (bitsN _ hb (by omega)).mono ?_
  rintro e w2 ⟨bY, rfl, h1, hx⟩
  have b2 : 0 < bY ∧ ((2 ^ (bY - 1) : Nat) : Int) ≤ y ∧ y < ((2 ^ bY : Nat) : Int) := by
    rcases h1 with ⟨_, h⟩ | h
    · omega
    · exact h
  clear h1
  replace ha := ha.below hx
  replace hb := hb.below hx
  replace hb0 := bel_tr hb0 hx
  clear hx
  have l1 := bits_le b1.2.1 px
  have l2 := bits_le b2.2.1 py
  have w1' : IntKind.i64.wrap ((bx : Int) - (bY : Int)) = (bx : Int) - (bY : Int) := by rw [IntKind.wrap_i64]; omega
  by_cases hz : (bx : Int) - (bY : Int) ≤ 1024
  · go_wp2_with fail
    refine (rankS bx bY _ ha hb hS hR hy rfl hz (by omega) (by omega) (by omega) b1.2.1 b1.2.2 b2.2.1 b2.2.2).mono ?_
    rintro e w3 ⟨i, j, rfl, ⟨hj, H1, H2⟩, hx⟩
    replace hb0 := bel_tr hb0 hx
    clear hx ha hb b1 b2 px py
    by_cases hi : i < 18437736874454810624
    · have hc : ((i / 2 : Nat) : Int) < 9218868437227405312 := by omega
      obtain rfl := hP.uniq (H1 hi) hy
      have e1 : i / 2 = (2 * i + j) / 4 := by omega
      have e2 : 2 * (i % 2) + j = (2 * i + j) % 4 := by omega
      obtain ⟨r4, h4⟩ : ∃ r4 : Int, ((i / 2 : Nat) : Int) = r4 := ⟨_, rfl⟩
      obtain ⟨p4, h5⟩ : ∃ p4 : Int, ((2 * (i % 2) + j : Nat) : Int) = p4 := ⟨_, rfl⟩
      have H4 : Hid ((((2 * i + j) / 4 : Nat) : Int) = r4) := by show _ = _; rw [← h4, e1]
      have H5 : Hid ((((2 * i + j) % 4 : Nat) : Int) = p4) := by show _ = _; rw [← h5, e2]
      rw [h4] at hc ⊢
      rw [h5]
      clear hz w1' H1 H2 e1 e2 h4 h5
      go_wp2
      go_ret2
      exact ⟨by rw [H4.out, H5.out]; rfl, hb0⟩
    · have hc : ¬ ((i / 2 : Nat) : Int) < 9218868437227405312 := by omega
      obtain rfl := hP.uniq (H2 (by omega)) hy
      generalize ((2 * (i % 2) + j : Nat) : Int) = jj at *
      generalize ((i / 2 : Nat) : Int) = ii at *
      clear hz w1' H1 H2
      go_wp2
      go_ret2
      exact ⟨by rw [last4, last3]; rfl, hb0⟩
  · obtain rfl := hP.uniq (Ps.big (a := bx - 1) (b := bY) hy b1.2.1 b2.2.2 (by omega)) hy
    clear ha hb b1 b2 px py
    go_wp2
    go_ret2
    exact ⟨by rw [last4, last3]; rfl, hb0⟩
end Go.Proofs.YtjlmboakeigmpaaDoor

import Derived.Test.YtjbcjapgammbhacDoorShelf
namespace Go.Proofs.YtjbcjapgammbhacDoor
open Go.RowKit

theorem mul64_any (x y p : Int) (hp : Hid (x * y = p)) (hx : 0 ≤ x) (hx' : x < 18446744073709551616) (hy : 0 ≤ y) (hy' : y < 18446744073709551616) (w : World) :
    Calls Tryd.prog 47 #[.int .u64 x, .int .u64 y] w fun e w' => e = .returned (.tuple #[.int .u64 (p / 18446744073709551616), .int .u64 (p % 18446744073709551616)]) ∧ w = w' := by
  obtain ⟨x, rfl⟩ := Int.eq_ofNat_of_zero_le hx
  obtain ⟨y, rfl⟩ := Int.eq_ofNat_of_zero_le hy
  have e : p = ((x * y : Nat) : Int) := by rw [← hp.out]; simp
  refine (mul64_nat x y (by omega) (by omega) w).mono ?_
  rintro e' w' ⟨rfl, rfl⟩
  refine ⟨?_, rfl⟩
  rw [e]
  rfl

theorem mul_bd {x y : Int} (hx : 0 ≤ x) (hx' : x < 18446744073709551616) (hy : 0 ≤ y) (hy' : y < 18446744073709551616) : 0 ≤ x * y ∧ x * y ≤ 340282366920938463426481119284349108225 := by
  refine ⟨Int.mul_nonneg hx hy, ?_⟩
  have := Int.mul_le_mul (a := x) (c := 18446744073709551615) (b := y) (d := 18446744073709551615) (by omega) (by omega) hy (by omega)
  exact this

/-- addTimes, so many rounds of it: the block, and the carry. -/
def mulR (us : List Int) (o : Nat) (ys : List Int) (l : Int) : Nat → List Int × Int
  | 0 => (us, 0)
  | k + 1 => ((mulR us o ys l k).1.set (o + k) ((lm (mulR us o ys l k).1 (o + k) + lm ys k * l + (mulR us o ys l k).2) % 18446744073709551616), (lm (mulR us o ys l k).1 (o + k) + lm ys k * l + (mulR us o ys l k).2) / 18446744073709551616)
theorem mulR_ok {us ys : List Int} (o : Nat) {l : Int} (hu : AllW us) (hy : AllW ys) (hl : Word l) (k : Nat) : AllW (mulR us o ys l k).1 ∧ (mulR us o ys l k).1.length = us.length ∧ 0 ≤ (mulR us o ys l k).2 ∧ (mulR us o ys l k).2 < 18446744073709551616 := by
  induction k with
  | zero => simp [mulR, hu]
  | succ k ih =>
    obtain ⟨h1, h2, h3, h4⟩ := ih
    have a := h1.at (o + k)
    have b := hy.at k
    have c := mul_bd b.1 b.2 hl.1 hl.2
    refine ⟨h1.set _ _ (word_mod _), by simp [mulR, h2], ?_, ?_⟩ <;> simp only [mulR] <;> omega

theorem mt_lo (a p c : Int) : (a + (p + c)) % 18446744073709551616 = (a + p + c) % 18446744073709551616 := by omega
theorem mt_hi (a p c : Int) : p / 18446744073709551616 + (p % 18446744073709551616 + c) / 18446744073709551616 + (a + (p + c) % 18446744073709551616) / 18446744073709551616 = (a + p + c) / 18446744073709551616 := by omega

set_option maxHeartbeats 1000000 in
theorem addTimes_any (g o n cap : Nat) (us : List Int) (b : Option Addr) (nb cb : Nat) (ys : List Int) (l : Int) (w : World) (hb : Blk w g us) (hfit : o + n ≤ us.length) (hm : us.length ≤ 1099511627776) (hu : AllW us)
    (hnb : nb = ys.length) (hle : nb ≤ n) (hr : Reads w b ys) (haw : ys ≠ [] → Away b g) (hy : AllW ys) (hl : Word l) :
    Calls Tryd.prog 41 #[.slice (some ⟨g, o, none⟩) n cap, .slice b nb cb, .int .u64 l] w fun e w' => e = .returned (.int .u64 (mulR us o ys l ys.length).2) ∧ Blk w' g (mulR us o ys l ys.length).1 ∧ Off g w w' := by
  subst hnb
  obtain ⟨l1, l2⟩ := hl
  go_enter Tryd.func41, Tryd.ntmps41
  go_wp2
  go_loopw [7, 15] (fun c i wr => ∃ k : Nat, k ≤ ys.length ∧ i = .int .i64 k ∧ c = .int .u64 (mulR us o ys l k).2 ∧ Blk wr g (mulR us o ys l k).1 ∧ Off g w wr) (fun _ i _ => ys.length - (intOf i).toNat)
  case atStart => exact ⟨0, Nat.zero_le _, rfl, rfl, hb, Off.refl _ _⟩
  case round =>
    obtain ⟨k, hk, rfl, rfl, hbr, hoff⟩ := hrel
    obtain ⟨ok1, ok2, ok3, ok4⟩ := mulR_ok o hu hy ⟨l1, l2⟩ k
    by_cases hlt : k < ys.length
    · obtain ⟨b2, o2, rfl, hc2⟩ := hr.at (by omega)
      have HN : Hid (mulR us o ys l (k + 1) = ((mulR us o ys l k).1.set (o + k) ((lm (mulR us o ys l k).1 (o + k) + lm ys k * l + (mulR us o ys l k).2) % 18446744073709551616), (lm (mulR us o ys l k).1 (o + k) + lm ys k * l + (mulR us o ys l k).2) / 18446744073709551616)) := rfl
      generalize hU : (mulR us o ys l k).1 = U at *
      generalize hC : (mulR us o ys l k).2 = C at *
      clear hU hC
      have HC2 : wr.cell? ⟨b2, o2 + k, none⟩ = some (.int .u64 (lm ys k)) := by rw [hoff.cell (p := ⟨b2, o2 + k, none⟩) (by exact haw (List.length_pos_iff.1 (by omega)) ⟨b2, o2, none⟩ rfl)]; exact hc2 k hlt
      have hcg := hbr.cell (i := o + k) (by omega)
      have hfg := hbr.frozen (o + k)
      obtain ⟨a10, a11⟩ := ok1.at (o + k)
      obtain ⟨a20, a21⟩ := hy.at k
      have hpb := mul_bd a20 a21 l1 l2
      obtain ⟨p, hp⟩ : ∃ p, lm ys k * l = p := ⟨_, rfl⟩
      rw [hp] at hpb
      have HP : Hid (lm ys k * l = p) := hp
      have HN2 : Hid (mulR us o ys l (k + 1) = (U.set (o + k) ((lm U (o + k) + p + C) % 18446744073709551616), (lm U (o + k) + p + C) / 18446744073709551616)) := by rw [hp] at HN; exact HN
      obtain ⟨p0, p1⟩ := hpb
      have HB := hbr.set (o + k) ((lm U (o + k) + (p + C)) % 18446744073709551616)
      have HO := hoff.set (o + k) (.int .u64 ((lm U (o + k) + (p + C)) % 18446744073709551616))
      have hkn : (k : Int) < (n : Int) := by omega
      clear hc2 hb hr haw hbr hoff hp HN
      have q0 : 0 ≤ p % 18446744073709551616 := by omega
      have q1 : 0 ≤ (p + C) % 18446744073709551616 := by omega
      go_wp2_with (first | (go_at_call 47; refine (mul64_any _ _ p HP a20 a21 l1 l2 _).mono ?_; rintro e w' ⟨rfl, rfl⟩) | simp only [add64_0 (p % 18446744073709551616) C q0 ok3] | simp only [add64_0 (lm U (o + k)) ((p + C) % 18446744073709551616) a10 q1])
      go_roundw
      case rel => exact ⟨k + 1, by omega, by go_num, by rw [HN2.out, ← mt_hi], by rw [HN2.out, ← mt_lo]; exact HB, HO⟩
      case measure => simp [intOf]; omega
    · obtain rfl : k = ys.length := by omega
      go_wp2
      go_ret
      exact ⟨rfl, hbr, hoff⟩
end Go.Proofs.YtjbcjapgammbhacDoor

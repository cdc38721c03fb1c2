import Derived.Test.YtogdpgfccbohnaaDoorDivB
namespace Go.Proofs.YtogdpgfccbohnaaDoor
open Go.RowKit

/-- takeTimes, so many rounds of it: the block, and what is borrowed. -/
def tkR (us : List Int) (o : Nat) (ys : List Int) (l : Int) : Nat → List Int × Int
  | 0 => (us, 0)
  | k + 1 => ((tkR us o ys l k).1.set (o + k) ((lm (tkR us o ys l k).1 (o + k) - (lm ys k * l + (tkR us o ys l k).2) % 18446744073709551616) % 18446744073709551616), (lm ys k * l + (tkR us o ys l k).2) / 18446744073709551616 + bor (lm (tkR us o ys l k).1 (o + k)) ((lm ys k * l + (tkR us o ys l k).2) % 18446744073709551616))
theorem tk_bd {x p c : Int} (p0 : 0 ≤ p) (p1 : p ≤ 340282366920938463426481119284349108225) (c0 : 0 ≤ c) (c1 : c < 18446744073709551616) (x0 : 0 ≤ x) : 0 ≤ (p + c) / 18446744073709551616 + bor x ((p + c) % 18446744073709551616) ∧ (p + c) / 18446744073709551616 + bor x ((p + c) % 18446744073709551616) < 18446744073709551616 := by
  unfold bor
  split <;> omega
theorem tkR_ok {us ys : List Int} (o : Nat) {l : Int} (hu : AllW us) (hy : AllW ys) (hl : Word l) (k : Nat) : AllW (tkR us o ys l k).1 ∧ (tkR us o ys l k).1.length = us.length ∧ 0 ≤ (tkR us o ys l k).2 ∧ (tkR us o ys l k).2 < 18446744073709551616 := by
  induction k with
  | zero => simp [tkR, hu]
  | succ k ih =>
    obtain ⟨h1, h2, h3, h4⟩ := ih
    have a := h1.at (o + k)
    have b := hy.at k
    have c := mul_bd b.1 b.2 hl.1 hl.2
    have d := tk_bd c.1 c.2 h3 h4 a.1
    exact ⟨h1.set _ _ (word_mod _), by simp [tkR, h2], d.1, d.2⟩
theorem tkR_val {us ys : List Int} (o : Nat) {l : Int} (hu : AllW us) (hy : AllW ys) (hl : Word l) (k N : Nat) (h : o + k ≤ N) (hll : o + k ≤ us.length) : vS (tkR us o ys l k).1 N - (tkR us o ys l k).2 * pw (o + k) = vS us N - pw o * (vS ys k * l) := by
  induction k with
  | zero => simp [tkR, vS]
  | succ k ih =>
    have ih := ih (by omega) (by omega)
    obtain ⟨h1, h2, h3, h4⟩ := tkR_ok o hu hy hl k
    simp only [tkR, vS]
    generalize (tkR us o ys l k).1 = U at *
    generalize (tkR us o ys l k).2 = C at *
    rw [vS_set _ (by omega) (by omega), show o + (k + 1) = (o + k) + 1 by omega, pw_succ, Int.add_mul (vS ys k), Int.mul_add]
    have e2 : pw o * (lm ys k * pw k * l) = lm ys k * l * pw (o + k) := by
      rw [pw_add, Int.mul_right_comm (lm ys k), Int.mul_left_comm]
    rw [e2, Int.sub_mul]
    have a := h1.at (o + k)
    have e3 := bor_mul (lm U (o + k)) ((lm ys k * l + C) % 18446744073709551616) (pw (o + k)) a.1 a.2 (by omega) (by omega)
    have e1 := mod_mul (lm ys k * l + C) (pw (o + k))
    rw [Int.sub_mul] at e3
    rw [Int.add_mul (lm ys k * l) C] at e1
    rw [Int.add_mul ((lm ys k * l + C) / 18446744073709551616)]
    generalize (lm U (o + k) - (lm ys k * l + C) % 18446744073709551616) % 18446744073709551616 * pw (o + k) = A at *
    generalize (lm ys k * l + C) % 18446744073709551616 * pw (o + k) = D at *
    generalize (lm ys k * l + C) / 18446744073709551616 * (pw (o + k) * 18446744073709551616) = E at *
    generalize bor (lm U (o + k)) ((lm ys k * l + C) % 18446744073709551616) * (pw (o + k) * 18446744073709551616) = F at *
    omega
theorem tkR_far {us ys : List Int} (o : Nat) (l : Int) (k i : Nat) (h : i < o ∨ o + k ≤ i) : lm (tkR us o ys l k).1 i = lm us i := by
  induction k with
  | zero => rfl
  | succ k ih => simp only [tkR]; rw [lm_set, if_neg (by omega), ih (by omega)]
theorem tk_lo (x y : Int) : (x - y % 18446744073709551616) % 18446744073709551616 = (x - y) % 18446744073709551616 := by omega
theorem tk_hi (p c : Int) : p / 18446744073709551616 + (p % 18446744073709551616 + c) / 18446744073709551616 = (p + c) / 18446744073709551616 := by omega

set_option maxHeartbeats 1000000 in
theorem takeTimes_any (g o n cap : Nat) (us : List Int) (b : Option Addr) (nb cb : Nat) (ys : List Int) (l : Int) (w : World) (hb : Blk w g us) (hfit : o + n ≤ us.length) (hm : us.length ≤ 1099511627776) (hu : AllW us)
    (hnb : nb = ys.length) (hle : nb ≤ n) (hr : Reads w b ys) (haw : ys ≠ [] → Away b g) (hy : AllW ys) (hl : Word l) :
    Calls Tryd.prog 70 #[.slice (some ⟨g, o, none⟩) n cap, .slice b nb cb, .int .u64 l] w fun e w' => e = .returned (.int .u64 (tkR us o ys l ys.length).2) ∧ Blk w' g (tkR us o ys l ys.length).1 ∧ Off g w w' := by
  subst hnb
  obtain ⟨l1, l2⟩ := hl
  go_enter Tryd.func70, Tryd.ntmps70
  go_wp2
  go_loopw [7, 15] (fun c i wr => ∃ k : Nat, k ≤ ys.length ∧ i = .int .i64 k ∧ c = .int .u64 (tkR us o ys l k).2 ∧ Blk wr g (tkR us o ys l k).1 ∧ Off g w wr) (fun _ i _ => ys.length - (intOf i).toNat)
  case atStart => exact ⟨0, Nat.zero_le _, rfl, rfl, hb, Off.refl _ _⟩
  case round =>
    obtain ⟨k, hk, rfl, rfl, hbr, hoff⟩ := hrel
    obtain ⟨ok1, ok2, ok3, ok4⟩ := tkR_ok o hu hy ⟨l1, l2⟩ k
    by_cases hlt : k < ys.length
    · obtain ⟨b2, o2, rfl, hc2⟩ := hr.at (by omega)
      have HN : Hid (tkR us o ys l (k + 1) = ((tkR us o ys l k).1.set (o + k) ((lm (tkR us o ys l k).1 (o + k) - (lm ys k * l + (tkR us o ys l k).2) % 18446744073709551616) % 18446744073709551616), (lm ys k * l + (tkR us o ys l k).2) / 18446744073709551616 + bor (lm (tkR us o ys l k).1 (o + k)) ((lm ys k * l + (tkR us o ys l k).2) % 18446744073709551616))) := rfl
      generalize hU : (tkR us o ys l k).1 = U at *
      generalize hC : (tkR us o ys l k).2 = C at *
      clear hU hC
      have HC2 : wr.cell? ⟨b2, o2 + k, none⟩ = some (.int .u64 (lm ys k)) := by rw [hoff.cell (p := ⟨b2, o2 + k, none⟩) (by exact haw (List.length_pos_iff.1 (by omega)) ⟨b2, o2, none⟩ rfl)]; exact hc2 k hlt
      have hcg := hbr.cell (i := o + k) (by omega)
      have hfg := hbr.frozen (o + k)
      obtain ⟨a10, a11⟩ := ok1.at (o + k)
      obtain ⟨a20, a21⟩ := hy.at k
      have hpb := mul_bd a20 a21 l1 l2
      obtain ⟨p, hp⟩ : ∃ p, lm ys k * l = p := ⟨_, rfl⟩
      rw [hp] at hpb HN
      have HP : Hid (lm ys k * l = p) := hp
      obtain ⟨p0, p1⟩ := hpb
      have HB := hbr.set (o + k) ((lm U (o + k) - (p + C)) % 18446744073709551616)
      have HO := hoff.set (o + k) (.int .u64 ((lm U (o + k) - (p + C)) % 18446744073709551616))
      have hkn : (k : Int) < (n : Int) := by omega
      have hbb := tk_bd (x := lm U (o + k)) p0 p1 ok3 ok4 a10
      have hb01 := bor_01 (lm U (o + k)) ((p + C) % 18446744073709551616)
      obtain ⟨hb0, hb1⟩ := hbb
      obtain ⟨hb2, hb3⟩ := hb01
      clear hc2 hb hr haw hbr hoff hp
      have q0 : 0 ≤ p % 18446744073709551616 := by omega
      have q1 : 0 ≤ (p + C) % 18446744073709551616 := by omega
      have q2 : (p + C) % 18446744073709551616 < 18446744073709551616 := by omega
      go_wp2_with (first | (go_at_call 59; refine (mul64_any _ _ p HP a20 a21 l1 l2 _).mono ?_; rintro e w' ⟨rfl, rfl⟩) | simp only [add64_0 (p % 18446744073709551616) C q0 ok3] | simp only [sub64_0 (lm U (o + k)) ((p + C) % 18446744073709551616) a10 q1 q2])
      go_roundw
      case rel => exact ⟨k + 1, by omega, by go_num, by rw [HN.out, tk_hi], by rw [HN.out, tk_lo]; exact HB, HO⟩
      case measure => simp [intOf]; omega
    · obtain rfl : k = ys.length := by omega
      go_wp2
      go_ret
      exact ⟨rfl, hbr, hoff⟩
end Go.Proofs.YtogdpgfccbohnaaDoor

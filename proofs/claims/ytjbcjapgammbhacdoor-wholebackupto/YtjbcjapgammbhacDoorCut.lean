import Derived.Test.YtjbcjapgammbhacDoorDiv64
namespace Go.Proofs.YtjbcjapgammbhacDoor
open Go.RowKit

/-- cut, so many rounds of it (from the topmost limb down): the block, and the rest. -/
def cutR (us : List Int) (n : Nat) (d : Int) : Nat → List Int × Int
  | 0 => (us, 0)
  | j + 1 => ((cutR us n d j).1.set (n - 1 - j) (((cutR us n d j).2 * 18446744073709551616 + lm (cutR us n d j).1 (n - 1 - j)) / d), ((cutR us n d j).2 * 18446744073709551616 + lm (cutR us n d j).1 (n - 1 - j)) % d)
theorem quo_lt {r x d : Int} (h0 : 0 ≤ r) (h1 : r < d) (x0 : 0 ≤ x) (x1 : x < 18446744073709551616) : 0 ≤ (r * 18446744073709551616 + x) / d ∧ (r * 18446744073709551616 + x) / d < 18446744073709551616 := by
  refine ⟨Int.ediv_nonneg (by omega) (by omega), ?_⟩
  apply Int.ediv_lt_of_lt_mul (by omega)
  have : (r + 1) * 18446744073709551616 ≤ d * 18446744073709551616 := Int.mul_le_mul_of_nonneg_right (by omega) (by omega)
  omega
theorem cutR_ok {us : List Int} (n : Nat) {d : Int} (hu : AllW us) (hd : 0 < d) (j : Nat) : AllW (cutR us n d j).1 ∧ (cutR us n d j).1.length = us.length ∧ 0 ≤ (cutR us n d j).2 ∧ (cutR us n d j).2 < d := by
  induction j with
  | zero => simp [cutR, hu, hd]
  | succ j ih =>
    obtain ⟨h1, h2, h3, h4⟩ := ih
    obtain ⟨a, b⟩ := h1.at (n - 1 - j)
    exact ⟨h1.set _ _ (quo_lt h3 h4 a b), by simp [cutR, h2], Int.emod_nonneg _ (by omega), Int.emod_lt_of_pos _ hd⟩

set_option maxHeartbeats 1000000 in
theorem cut_any (g n cap : Nat) (us : List Int) (d : Int) (w : World) (hb : Blk w g us) (hfit : n ≤ us.length) (hm : us.length ≤ 1099511627776) (hu : AllW us) (hd0 : 0 < d) (hd1 : d < 18446744073709551616) :
    Calls Tryd.prog 45 #[.slice (some ⟨g, 0, none⟩) n cap, .int .u64 d] w fun e w' => e = .returned (.int .u64 (cutR us n d n).2) ∧ Blk w' g (cutR us n d n).1 ∧ Off g w w' := by
  go_enter Tryd.func45, Tryd.ntmps45
  go_wp2
  go_loopw [5, 6] (fun c i wr => ∃ j : Nat, j ≤ n ∧ i = .int .i64 ((n : Int) - 1 - j) ∧ c = .int .u64 (cutR us n d j).2 ∧ Blk wr g (cutR us n d j).1 ∧ Off g w wr) (fun _ i _ => (intOf i + 1).toNat)
  case atStart => exact ⟨0, Nat.zero_le _, by go_num, rfl, hb, Off.refl _ _⟩
  case round =>
    obtain ⟨j, hj, rfl, rfl, hbr, hoff⟩ := hrel
    obtain ⟨ok1, ok2, ok3, ok4⟩ := cutR_ok n hu hd0 j
    by_cases hlt : j < n
    · have HN : Hid (cutR us n d (j + 1) = ((cutR us n d j).1.set (n - 1 - j) (((cutR us n d j).2 * 18446744073709551616 + lm (cutR us n d j).1 (n - 1 - j)) / d), ((cutR us n d j).2 * 18446744073709551616 + lm (cutR us n d j).1 (n - 1 - j)) % d)) := rfl
      generalize hU : (cutR us n d j).1 = U at *
      generalize hC : (cutR us n d j).2 = C at *
      clear hU hC
      obtain ⟨i, hi⟩ : ∃ i, n - 1 - j = i := ⟨_, rfl⟩
      rw [hi] at HN
      have hij : (n : Int) - 1 - j = i := by omega
      have hcg := hbr.cell (i := i) (by omega)
      have hfg := hbr.frozen i
      obtain ⟨a10, a11⟩ := ok1.at i
      obtain ⟨qa, qb⟩ := quo_lt ok3 ok4 a10 a11
      generalize hX : lm U i = X at *
      have HI : Hid ((n : Int) - 1 - j = i) := hij
      have hin : (i : Int) < n := by omega
      have hjn : (j : Int) + 1 + i = n := by omega
      rw [hij]
      clear hX hij hb hi
      go_wp2_with fail
      refine (div64_any C X d wr ok3 a10 a11 ok4 hd1).mono ?_
      rintro e w1 ⟨rfl, m, rfl⟩
      have hfg2 : (wr.drewN m).frozen? ⟨g, i, none⟩ = false := (hbr.drewN m).frozen i
      have HB := (hbr.drewN m).set i ((C * 18446744073709551616 + X) / d)
      have HO := (hoff.drewN m).set i (.int .u64 ((C * 18446744073709551616 + X) / d))
      generalize hq : (C * 18446744073709551616 + X) / d = q at *
      generalize hr : (C * 18446744073709551616 + X) % d = r at *
      generalize hw2 : wr.drewN m = W2 at *
      have hcg2 : W2.cell? ⟨g, i, none⟩ = some (.int .u64 X) := by rw [← hw2]; simpa using hcg
      clear hw2 hq hr hbr hoff hcg hfg
      go_wp2
      go_roundw
      case rel => exact ⟨j + 1, by omega, by go_num, by rw [HN.out], by rw [HN.out]; exact HB, HO⟩
      case measure => simp [intOf]
    · obtain rfl : j = n := by omega
      go_wp2
      go_ret
      exact ⟨rfl, hbr, hoff⟩
end Go.Proofs.YtjbcjapgammbhacDoor

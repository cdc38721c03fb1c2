import Derived.Test.YtkbbdfflodiddabDoorNumAll
namespace Go.Proofs.YtkbbdfflodiddabDoor
open Go.RowKit

set_option maxHeartbeats 1000000 in
theorem cutrow_any (g n cap : Nat) (us : List Int) (d : Int) (w : World) (hb : Row w g cap us) (hfit : n ≤ us.length) (hm : us.length ≤ 1099511627776) (hu : AllW us) (hd0 : 0 < d) (hd1 : d < 18446744073709551616) :
    Calls Tryd.prog 48 #[.slice (some ⟨g, 0, none⟩) n cap, .int .u64 d] w fun e w' => e = .returned (.int .u64 (cutR us n d n).2) ∧ Row w' g cap (cutR us n d n).1 ∧ Off g w w' := by
  go_enter Tryd.func48, Tryd.ntmps48
  go_wp2
  go_loopw [5, 6] (fun c i wr => ∃ j : Nat, j ≤ n ∧ i = .int .i64 ((n : Int) - 1 - j) ∧ c = .int .u64 (cutR us n d j).2 ∧ Row wr g cap (cutR us n d j).1 ∧ Off g w wr) (fun _ i _ => (intOf i + 1).toNat)
  case atStart => exact ⟨0, Nat.zero_le _, by go_num, rfl, hb, Off.refl _ _⟩
  case round =>
    obtain ⟨j, hj, rfl, rfl, hbr, hoff⟩ := hrel
    obtain ⟨ok1, ok2, ok3, ok4⟩ := cutR_ok n hu hd0 j
    by_cases hlt : j < n
    · have HN : Hid (cutR us n d (j + 1) = ((cutR us n d j).1.set (n - 1 - j) (((cutR us n d j).2 * 18446744073709551616 + lm (cutR us n d j).1 (n - 1 - j)) / d), ((cutR us n d j).2 * 18446744073709551616 + lm (cutR us n d j).1 (n - 1 - j)) % d)) := rfl
      generalize hU : (cutR us n d j).1 = U at *
      generalize hC : (cutR us n d j).2 = C at *
      clear hU hC
      obtain ⟨i, hi⟩ : ∃ i, n - 1 - j = i := ⟨_, rfl⟩
      rw [hi] at HN
      have hij : (n : Int) - 1 - j = i := by omega
      have hcg := hbr.cell (i := i) (by omega)
      have hfg := hbr.frozen i
      obtain ⟨a10, a11⟩ := ok1.at i
      obtain ⟨qa, qb⟩ := quo_lt ok3 ok4 a10 a11
      generalize hX : lm U i = X at *
      have HI : Hid ((n : Int) - 1 - j = i) := hij
      have hin : (i : Int) < n := by omega
      have hjn : (j : Int) + 1 + i = n := by omega
      rw [hij]
      clear hX hij hb hi
      go_wp2_with fail
      refine (div64_any C X d wr ok3 a10 a11 ok4 hd1).mono ?_
      rintro e w1 ⟨rfl, m, rfl⟩
      have hfg2 : (wr.drewN m).frozen? ⟨g, i, none⟩ = false := (hbr.drewN m).frozen i
      have HB := (hbr.drewN m).set i ((C * 18446744073709551616 + X) / d)
      have HO := (hoff.drewN m).set i (.int .u64 ((C * 18446744073709551616 + X) / d))
      generalize hq : (C * 18446744073709551616 + X) / d = q at *
      generalize hr : (C * 18446744073709551616 + X) % d = r at *
      generalize hw2 : wr.drewN m = W2 at *
      have hcg2 : W2.cell? ⟨g, i, none⟩ = some (.int .u64 X) := by rw [← hw2]; simpa using hcg
      clear hw2 hq hr hbr hoff hcg hfg
      go_wp2
      go_roundw
      case rel => exact ⟨j + 1, by omega, by go_num, by rw [HN.out], by rw [HN.out]; exact HB, HO⟩
      case measure => simp [intOf]
    · obtain rfl : j = n := by omega
      go_wp2
      go_ret
      exact ⟨rfl, hbr, hoff⟩

/-- What cut makes of a number: its quotient; the rest. -/
theorem cutR_low (us : List Int) (n : Nat) (d : Int) (j i : Nat) (h : i + j < n) : lm (cutR us n d j).1 i = lm us i := by
  induction j with
  | zero => rfl
  | succ j ih => simp only [cutR]; rw [lm_set, if_neg (by omega), ih (by omega)]
theorem div_mul (t d P : Int) : t / d * P * d + t % d * P = t * P := by
  have h : t = t / d * d + t % d := by rw [Int.mul_comm]; exact (Int.mul_ediv_add_emod t d).symm
  have e : t / d * P * d = t / d * d * P := Int.mul_right_comm _ _ _
  rw [e, ← Int.add_mul, ← h]
theorem cutR_val {us : List Int} {d : Int} (n : Nat) (hu : AllW us) (hd : 0 < d) (hn : n ≤ us.length) (j : Nat) (hj : j ≤ n) :
    (vS (cutR us n d j).1 n - vS us (n - j)) * d + (cutR us n d j).2 * pw (n - j) = vS us n - vS us (n - j) := by
  induction j with
  | zero => simp [cutR]
  | succ j ih =>
    have ih := ih (by omega)
    obtain ⟨h1, h2, h3, h4⟩ := cutR_ok (us := us) n hu hd j
    have hl := cutR_low us n d j (n - 1 - j) (by omega)
    simp only [cutR]
    generalize (cutR us n d j).1 = U at *
    generalize (cutR us n d j).2 = C at *
    rw [vS_set _ (by omega) (by omega), hl]
    obtain ⟨m, hm⟩ : ∃ m, n - j = m + 1 := ⟨n - j - 1, by omega⟩
    have em : n - (j + 1) = m := by omega
    have em2 : n - 1 - j = m := by omega
    rw [hm] at ih
    rw [em, em2]
    simp only [vS] at ih
    rw [pw_succ] at ih
    have e1 := div_mul (C * 18446744073709551616 + lm us m) d (pw m)
    rw [Int.add_mul (C * 18446744073709551616)] at e1
    have e2 : C * (pw m * 18446744073709551616) = C * 18446744073709551616 * pw m := by rw [Int.mul_comm (pw m), Int.mul_assoc]
    rw [e2] at ih
    have e3 : (vS U n + ((C * 18446744073709551616 + lm us m) / d - lm us m) * pw m - vS us m) * d = (vS U n - (vS us m + lm us m * pw m)) * d + (C * 18446744073709551616 + lm us m) / d * pw m * d := by
      rw [← Int.add_mul]
      congr 1
      rw [Int.sub_mul]
      omega
    rw [e3]
    generalize (vS U n - (vS us m + lm us m * pw m)) * d = A at *
    omega
theorem cutR_end {us : List Int} {d : Int} (hu : AllW us) (hd : 0 < d) : AllW (cutR us us.length d us.length).1 ∧ (cutR us us.length d us.length).1.length = us.length ∧ val (cutR us us.length d us.length).1 = val us / d ∧ (cutR us us.length d us.length).2 = val us % d := by
  obtain ⟨h1, h2, h3, h4⟩ := cutR_ok (us := us) us.length hu hd us.length
  have hv := cutR_val us.length hu hd (Nat.le_refl _) us.length (Nat.le_refl _)
  rw [Nat.sub_self, pw_zero] at hv
  simp only [vS] at hv
  have e1 : vS (cutR us us.length d us.length).1 us.length = val (cutR us us.length d us.length).1 := vS_long (by omega)
  have e2 : vS us us.length = val us := rfl
  rw [e1, e2] at hv
  obtain ⟨u1, u2⟩ := div_unique (x := val us) (y := d) (q := val (cutR us us.length d us.length).1) (r := (cutR us us.length d us.length).2) (by simp at hv; omega) h3 h4
  exact ⟨h1, h2, u1.symm, u2.symm⟩
end Go.Proofs.YtkbbdfflodiddabDoor

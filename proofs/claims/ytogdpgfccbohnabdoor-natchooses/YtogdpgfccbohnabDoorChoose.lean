import Derived.Test.YtogdpgfccbohnabDoorCutRow
import Derived.Test.YtogdpgfccbohnabDoorChs
import Derived.Test.YtogdpgfccbohnabDoorNum
namespace Go.Proofs.YtogdpgfccbohnabDoor
open Go.RowKit

theorem of3_any (v : Int) (w : World) (h0 : 0 < v) (h1 : v < 18446744073709551616) :
    Calls Tryd.prog 40 #[.int .u64 v] w fun e w' => ∃ a cap, e = .returned (.slice a 1 cap) ∧ OwnV w' w.heap.size (.slice a 1 cap) [v] ∧ Below w.heap.size w w' := by
  have t1 : (v == 0) = false := by simp; omega
  go_enter Tryd.func40, Tryd.ntmps40
  go_wp2
  go_ret
  refine ⟨some ⟨w.heap.size, 0, none⟩, 1, rfl, ?_, (Below.refl _ _).alloc (Nat.le_refl _) _⟩
  have hb : Blk (w.alloc (.cells #[Value.int .u64 v] 43)) w.heap.size [v] := blk_new [v]
  exact (hb.row 1 (by unfold maxLen; simp)).own (Nat.le_refl _)

/-- One round of Choose: times (n - i + 1), divided by i. -/
theorem chs_round {n i : Nat} (h1 : 1 ≤ i) (h2 : i ≤ n) : ((chs n (i - 1) : Nat) : Int) * ((n : Int) - i + 1) / (i : Int) = ((chs n i : Nat) : Int) ∧ 0 < chs n i := by
  obtain ⟨k, rfl⟩ : ∃ k, i = k + 1 := ⟨i - 1, by omega⟩
  have h := chs_step n k
  rw [show k + 1 - 1 = k by omega]
  refine ⟨?_, chs_pos n (k + 1) h2⟩
  have e : ((chs n k : Nat) : Int) * ((n : Int) - ((k + 1 : Nat) : Int) + 1) = ((chs n (k + 1) : Nat) : Int) * ((k + 1 : Nat) : Int) := by
    rw [← Int.natCast_mul, h, Int.natCast_mul]
    congr 1
    omega
  rw [e, Int.mul_ediv_cancel _ (by omega)]

set_option maxHeartbeats 2000000 in
theorem choose_any (n k : Nat) (w : World) (hn : n ≤ 4096) (hk : k ≤ n) :
    Calls Tryd.prog 22 #[.int .i64 n, .int .i64 k] w fun e w' => ∃ a m cap, e = .returned (.tuple #[.slice a m cap, .nilIface]) ∧ Num w' a m cap (chs n k) 5000 ∧ Below w.heap.size w w' := by
  obtain ⟨M, hM⟩ : ∃ M : Nat, min k (n - k) = M := ⟨_, rfl⟩
  have HM : Hid (chs n M = chs n k) := by
    show _ = _
    rw [← hM]
    rcases Nat.le_total k (n - k) with h | h
    · rw [Nat.min_eq_left h]
    · rw [Nat.min_eq_right h, chs_symm hk]
  have hM1 : M ≤ n := by omega
  have hMI : min (k : Int) ((n : Int) - k) = M := by omega
  have HMI : Hid (min (k : Int) ((n : Int) - k) = M) := hMI
  clear hMI
  go_enter Tryd.func22, Tryd.ntmps22
  go_wp2_with fail
  refine (of3_any 1 _ (by omega) (by omega)).mono ?_
  rintro e w1 ⟨a0, c0, rfl, ho, hbel⟩
  go_wp2
  go_loopw [6, 7] (fun v s wr => ∃ (i : Nat) (a : Option Addr) (m cap : Nat) (xs : List Int), 1 ≤ i ∧ i ≤ M + 1 ∧ s = .int .i64 i ∧ v = .slice a m cap ∧ OwnV wr w.heap.size v xs ∧ AllW xs ∧ val xs = chs n (i - 1) ∧ xs.length ≤ i ∧ Below w.heap.size w wr) (fun _ s _ => M + 1 - (intOf s).toNat)
  case atStart => exact ⟨1, a0, 1, c0, [1], by omega, by omega, rfl, rfl, ho, fun x hx => by simp at hx; subst hx; unfold Word; omega, by simp [val, vS, lm, pw, chs_zero], by simp, hbel⟩
  case round =>
    clear ho hbel
    obtain ⟨i, a, m, cap, xs, hi1, hi2, rfl, rfl, ho, hx, hval, hlen, hbel⟩ := hrel
    have HV : Hid (val xs = chs n (i - 1)) := hval
    clear hval
    by_cases hlt : i ≤ M
    · have hlI : (i : Int) ≤ min (k : Int) ((n : Int) - k) := by rw [HMI.out]; omega
      have hml := ho.reads.1
      have HML : Hid (m = xs.length) := hml
      have hm1 : m ≤ 5000 := by omega
      have hBr : w.heap.size ≤ wr.heap.size := hbel.size
      clear hml
      go_wp2_with fail
      refine (scale_any a m cap xs ((n : Int) - i + 1) 0 wr w.heap.size ho hBr (by omega) hx ⟨by omega, by omega⟩ ⟨by omega, by omega⟩).mono ?_
      rintro e w2 ⟨a2, m2, cap2, rfl, ho2, hb2⟩
      obtain ⟨hx2, hv2, hl2⟩ := sclL_val (xs := xs) (d := (n : Int) - i + 1) (c := 0) hx ⟨by omega, by omega⟩ ⟨by omega, by omega⟩
      obtain ⟨hr1, hr2⟩ := chs_round hi1 (show i ≤ n by omega)
      have hpos : 0 < val (sclL xs ((n : Int) - i + 1) 0) := by
        rw [hv2, HV.out]
        have := chs_pos n (i - 1) (by omega)
        have := Int.mul_pos (a := ((chs n (i - 1) : Nat) : Int)) (b := (n : Int) - i + 1) (by omega) (by omega)
        omega
      have HV2 : Hid (val (sclL xs ((n : Int) - i + 1) 0) / (i : Int) = chs n i) := by show _ = _; rw [hv2, HV.out, Int.add_zero]; exact hr1
      have hne : 0 < (sclL xs ((n : Int) - i + 1) 0).length := by
        rcases Nat.eq_zero_or_pos (sclL xs ((n : Int) - i + 1) 0).length with h | h
        · rw [List.eq_nil_of_length_eq_zero h] at hpos; simp [val, vS] at hpos
        · exact h
      have hml2 := ho2.reads.1
      generalize hY : sclL xs ((n : Int) - i + 1) 0 = ys at *
      obtain ⟨g, rfl, hrow⟩ := own_some ho2 (by omega)
      have hBg : w.heap.size ≤ g := (ho2.lt g rfl).1
      obtain ⟨z1, z2, z3, z4⟩ := cutR_end (us := ys) (d := (i : Int)) hx2 (by omega)
      have hbel2 := hbel.trans hb2
      have hylen : ys.length ≤ i + 1 := by omega
      subst hml2
      clear hY hv2 hpos hne ho2 hb2 hbel ho hx hr1
      go_wp2_with fail
      refine (cutrow_any g _ cap2 ys (i : Int) w2 hrow (Nat.le_refl _) (by omega) hx2 (by omega) (by omega)).mono ?_
      rintro e w3 ⟨rfl, hrow3, hoff⟩
      have hbel3 := hbel2.trans (hoff.below hBg)
      rw [HV2.out] at z3
      generalize (cutR ys ys.length (↑i) ys.length).1 = Z at *
      have hzl : tlen Z ≤ Z.length := tl_le _ _
      have HZL : Hid (Z.length = ys.length) := z2
      have hcap := hrow3.le
      clear hoff hbel2 hrow z2 z4
      go_wp2_with fail
      refine (trim_any (some ⟨g, 0, none⟩) ys.length cap2 Z w3 HZL.out.symm (by rw [← HZL.out]; exact hcap) (by omega) hrow3.reads).mono ?_
      rintro e w4 ⟨rfl, rfl⟩
      have ho4 := (hrow3.take (tlen Z)).own hBg
      have hlt4 : (trimL Z).length = tlen Z := length_trimL Z
      have ho5 : OwnV w3 w.heap.size (.slice (some ⟨g, 0, none⟩) (tlen Z) cap2) (trimL Z) := by
        have e : (Z.take (tlen Z)).length = tlen Z := hlt4
        rw [e] at ho4; exact ho4
      have hval5 : val (trimL Z) = chs n i := by rw [val_trimL]; exact z3
      have hnn : (trimL Z).length ≤ i + 1 := by rw [hlt4]; have := HZL.out; omega
      have HV5 : Hid (val (trimL Z) = chs n i) := hval5
      clear ho4 hval5 z3 hrow3 hcap hlt4
      go_wp2
      go_roundw
      case rel => exact ⟨i + 1, _, _, _, trimL Z, by omega, by omega, by go_num, rfl, ho5, z1.trim, by rw [HV5.out]; rfl, hnn, hbel3⟩
      case measure => simp [intOf]; omega
    · obtain rfl : i = M + 1 := by omega
      have hlI : ¬ ((M + 1 : Nat) : Int) ≤ min (k : Int) ((n : Int) - k) := by rw [HMI.out]; omega
      have hml := ho.reads
      have hNum : Num wr a m cap (chs n k) 5000 := ⟨xs, hml.1, hml.2.1, hml.2.2, hx, by rw [HV.out, ← HM.out]; rfl, by have := hml.1; omega⟩
      clear hml
      go_wp2
      go_ret2
      exact ⟨a, m, cap, rfl, hNum, hbel⟩

set_option maxHeartbeats 1000000 in
theorem choose_gt (n k : Nat) (w : World) (hn : n ≤ 4096) (hk : n < k) (hk2 : k ≤ 1000000) :
    Calls Tryd.prog 22 #[.int .i64 n, .int .i64 k] w fun e w' => ∃ a m cap, e = .returned (.tuple #[.slice a m cap, .nilIface]) ∧ Num w' a m cap (chs n k) 5000 ∧ Below w.heap.size w w' := by
  have HC : Hid (chs n k = 0) := chs_gt n k hk
  go_enter Tryd.func22, Tryd.ntmps22
  go_wp2
  go_ret2
  refine ⟨none, 0, 0, rfl, ?_, Below.refl _ _⟩
  rw [HC.out]
  exact ⟨[], rfl, Nat.le_refl _, .inl rfl, AllW.nil, rfl, by omega⟩
theorem chooseV (n k : Nat) (w : World) (hn : n ≤ 4096) (hk2 : k ≤ 1000000) :
    Calls Tryd.prog 22 #[.int .i64 n, .int .i64 k] w fun e w' => ∃ a m cap, e = .returned (.tuple #[.slice a m cap, .nilIface]) ∧ Num w' a m cap (chs n k) 5000 ∧ Below w.heap.size w w' := by
  rcases Nat.lt_or_ge n k with h | h
  · exact choose_gt n k w hn h hk2
  · exact choose_any n k w hn h
end Go.Proofs.YtogdpgfccbohnabDoor

import Derived.Test.YtfelogbfijomiabGreatDoorDigB
import Derived.Test.YtfelogbfijomiabGreatDoorCutRow
import Derived.Test.YtfelogbfijomiabGreatDoorNum
namespace Go.Proofs.YtfelogbfijomiabGreatDoor
open Go.RowKit Go.Shelf
attribute [local go_sem] Oper.semAt_some

/-- What the first limbs of a block tell, read off the world: for a loop's measure. -/
def cellD (w : World) (g i : Nat) : Int := match w.cell? ⟨g, i, none⟩ with | some (.int _ z) => z | _ => 0
def vC (w : World) (g : Nat) : Nat → Int
  | 0 => 0
  | n + 1 => vC w g n + cellD w g n * pw n
theorem vC_blk {w : World} {g : Nat} {us : List Int} (h : Blk w g us) (n : Nat) (hn : n ≤ us.length) : vC w g n = vS us n := by
  induction n with
  | zero => rfl
  | succ n ih =>
    have e : cellD w g n = lm us n := by unfold cellD; rw [h.cell (by omega)]
    simp only [vC, vS]; rw [ih (by omega), e]
def leftW (wr : World) (r : Value) : Nat := match r with | .slice (some p) n _ => (vC wr p.block n).toNat | _ => 0
theorem leftW_blk {w : World} {g : Nat} {us : List Int} (h : Blk w g us) (n cap : Nat) (hn : n ≤ us.length) : leftW w (.slice (some ⟨g, 0, none⟩) n cap) = (vS us n).toNat := by
  show (vC w g n).toNat = _
  rw [vC_blk h n hn]

/-- One piece cut off the first n limbs: the piece, and what is left. -/
theorem cut_piece {us : List Int} (n : Nat) (hu : AllW us) (hn : n ≤ us.length) :
    (cutR us n 10000000000000000000 n).2.toNat = (vS us n).toNat % 10 ^ 19 ∧ (vS (cutR us n 10000000000000000000 n).1 n).toNat = (vS us n).toNat / 10 ^ 19 ∧ 0 ≤ (cutR us n 10000000000000000000 n).2 ∧ (cutR us n 10000000000000000000 n).2 < 10000000000000000000 := by
  have h := cutR_val (d := 10000000000000000000) n hu (by decide) hn n (Nat.le_refl _)
  obtain ⟨h1, h2, h3, h4⟩ := cutR_ok (us := us) n (d := 10000000000000000000) hu (by decide) n
  rw [Nat.sub_self] at h
  simp only [vS, pw_zero] at h
  have v0 := (vS_nn hu n).1
  have v1 := (vS_nn h1 n).1
  generalize (cutR us n 10000000000000000000 n).1 = U at *
  generalize (cutR us n 10000000000000000000 n).2 = C at *
  generalize vS U n = q at *
  generalize vS us n = v at *
  have e : (10 : Nat) ^ 19 = 10000000000000000000 := by decide
  rw [e]
  omega

set_option maxRecDepth 100000 in
set_option maxHeartbeats 1000000 in
/-- The function that nat.Digits answers, over whatever loop body. -/
theorem digits1_in (l : Nat) (J Jx : List Int → World → Prop) (Bx : Nat) (a : Option Addr) (n c : Nat) (xs : List Int) (W : World) (hJ : AbW W.heap.size J)
    (hY : ∀ (m : Nat) pre x W1, J pre W1 → 0 ≤ x → x ≤ 9 → pre.length < (decs (val xs).toNat).length → YieldAt Fence.wide m Tryz.prog l #[.int .i64 x] W1 fun e W' =>
      (e = .returned (.bool true) ∧ J (pre ++ [x]) W' ∧ KeptW W1 W') ∨ (e = .returned (.bool false) ∧ Jx (pre ++ [x]) W'))
    (hbox : W.cell? ⟨Bx, 0, none⟩ = some (.slice a n c)) (hn : n = xs.length) (hl : n ≤ c) (hm : n ≤ 1000000000000) (hr : Reads W a xs) (hx : AllW xs) (h0 : J [] W) (k : Nat) :
    CallsIn Fence.wide k Tryz.prog 113 #[.func (.yield l) #[] #[], .pointer (some ⟨Bx, 0, none⟩)] W fun e W' => (∃ v, e = .returned v) ∧
      ((∃ ys, ys = decs (val xs).toNat ∧ J ys W') ∨ (∃ pre, pre <+: decs (val xs).toNat ∧ Jx pre W')) := by
  have Hn : Hid (n = xs.length) := hn
  have ta : tlen xs ≤ xs.length := tl_le _ _
  have hnorm := norm_any a n c xs W hn hl (by omega) hr
  have HL : Hid ((trimL xs).length = tlen xs) := length_trimL xs
  have hv0 : vS (trimL xs) (tlen xs) = val xs := by rw [← val_trimL xs, ← HL.out]; exact vS_long (Nat.le_refl _)
  have HV : Hid (vS (trimL xs) (tlen xs) = val xs) := hv0
  have hT : tlen xs ≤ 1000000000000 := by omega
  have HZ : Hid (tlen xs = 0 ↔ vS (trimL xs) (tlen xs) = 0) := by show _ ↔ _; rw [hv0]; exact tlen_zero hx
  have haw := hx.trim
  generalize hU : trimL xs = us0 at *
  generalize hT0 : tlen xs = t0 at *
  generalize hD : decs (val xs).toNat = D at *
  have HD : Hid (decs (val xs).toNat = D) := hD
  clear hn hU hT0 hD hv0 ta
  refine callsIn_of_wp Tryz.func113 rfl trivial ?_ rfl
  simp only [Tryz.ntmps113, List.size_toArray, List.length_cons, List.length_nil, Nat.reduceAdd, Nat.reduceSub, Array.replicate_succ, Array.replicate_zero, List.push_toArray, List.append_toArray, List.nil_append, List.cons_append]
  gi_wp2
  refine ⟨trivial, fun h => (by cases h), ?_⟩
  refine (callsIn_wide.2 hnorm).mono ?_
  rintro e W1 ⟨g, rfl, hg, hB1, hbel⟩
  have hJ1 : J [] W1 := hJ [] W W1 h0 (Turns.of_below hbel)
  clear hnorm hbox hr hbel h0 hx
  gi_wp2
  gi_loopw [3] (fun r wr => ∃ (t : Nat) (us pre : List Int), r = .slice (some ⟨g, 0, none⟩) t t0 ∧ t ≤ t0 ∧ us.length = t0 ∧ AllW us ∧ Blk wr g us ∧ (t = 0 ↔ vS us t = 0) ∧ D = pre ++ decs (vS us t).toNat ∧ J pre wr) (fun r wr => leftW wr r)
  case atStart =>
    refine ⟨t0, us0, [], rfl, Nat.le_refl _, HL.out, haw, hB1, ?_, by rw [HV.out, HD.out]; rfl, hJ1⟩
    exact HZ.out
  case round =>
    obtain ⟨t, us, pre, rfl, ht, hul, hau, hB, htz, hdd, hJs⟩ := hrel
    by_cases h0 : t = 0
    · have hv : vS us t = 0 := htz.1 h0
      rw [hv] at hdd
      subst h0
      have HDD : Hid (D = pre) := by show D = pre; rw [hdd]; simp [decs_zero]
      clear hdd hv
      gi_wp2
      go_end0
      exact ⟨⟨_, rfl⟩, .inl (by rw [HDD.out]; exact hJs)⟩
    · have hV : vS us t ≠ 0 := fun h => h0 (htz.2 h)
      obtain ⟨e1, e2, e3, e4⟩ := cut_piece t hau (by omega)
      obtain ⟨o1, o2, -, -⟩ := cutR_ok (us := us) t (d := 10000000000000000000) hau (by decide) t
      have hcut := cut_any g t t0 us 10000000000000000000 wr hB (by omega) (by omega) hau (by decide) (by decide)
      have v0 := (vS_nn hau t).1
      have v1 := (vS_nn o1 t).1
      generalize (cutR us t 10000000000000000000 t).1 = U at *
      generalize (cutR us t 10000000000000000000 t).2 = C at *
      obtain ⟨p, rfl⟩ : ∃ p : Nat, C = p := ⟨C.toNat, by omega⟩
      rw [Int.toNat_natCast] at e1
      have hp := decs_piece (vS us t).toNat
      rw [← e1, ← e2] at hp
      have hq : (vS U t).toNat < (vS us t).toNat := by rw [e2]; exact Nat.div_lt_self (by omega) (by decide)
      have HM : Hid ((vS U t).toNat < (vS us t).toNat) := hq
      have HP : Hid (D = pre ++ (restD (decide ((vS U t).toNat ≠ 0)) 19 p ++ decs (vS U t).toNat)) := by show D = _; rw [hdd, hp]
      have HK : Hid ((vS us t).toNat = leftW wr (.slice (some ⟨g, 0, none⟩) t t0)) := by show _ = _; rw [leftW_blk hB t t0 (by omega)]
      have hpl : p < 10 ^ 19 := by rw [e1]; exact Nat.mod_lt _ (by decide)
      -- what trim leaves
      have tk : ∀ j, j ≤ t → vS (U.take t) j = vS U j := fun j hj => vS_congr (fun i hi => lm_take (by omega))
      have tl1 : (U.take t).length = t := by rw [List.length_take]; omega
      have tv : val (U.take t) = vS U t := by rw [← vS_long (us := U.take t) (n := t) (by omega), tk t (Nat.le_refl _)]
      have tn : tlen (U.take t) ≤ t := by have := tl_le (U.take t) (U.take t).length; unfold tlen; omega
      have te : vS U (tlen (U.take t)) = vS U t := by rw [← tk _ tn, vS_trim, tv]
      have tz : tlen (U.take t) = 0 ↔ vS U t = 0 := by rw [tlen_zero (o1.take t), tv]
      have TL1 : Hid (t = (U.take t).length) := tl1.symm
      generalize hT' : tlen (U.take t) = t' at *
      have HT : Hid (tlen (U.take t) = t') := hT'
      have TE : Hid (vS U t' = vS U t) := te
      have TZ : Hid (t' = 0 ↔ vS U t = 0) := tz
      clear hT' hp hdd e1 e2 e3 e4 hV tk tl1 tv hq htz te tz
      have ht0 : (0 : Int) < t := by omega
      have tt : (0 : Int) < t' ∨ t' = 0 := by omega
      have HUL : Hid (U.length = t0) := by show _ = _; omega
      clear hul o2
      gi_wp2
      refine ⟨trivial, fun h => (by cases h), ?_⟩
      refine (callsIn_wide.2 hcut).mono ?_
      rintro e w1 ⟨rfl, hB2, hoff⟩
      have hJ1' : J pre w1 := hJ pre wr w1 hJs (Turns.of_off hoff hg hB.wd)
      have htr := trim_any (some ⟨g, 0, none⟩) t t0 (U.take t) w1 TL1.out ht (by omega) (hB2.reads t)
      rw [HT.out] at htr
      clear hcut hJs hB hoff hJ1
      gi_wp2
      refine ⟨trivial, fun h => (by cases h), ?_⟩
      refine (callsIn_wide.2 htr).mono ?_
      rintro e w1' ⟨rfl, rfl⟩
      clear htr
      have hb : decide ((vS U t).toNat ≠ 0) = decide (0 < t') := by
        rcases tt with tt | tt
        · have h1 := mt TZ.out.2 (by omega)
          rw [decide_eq_true (show 0 < t' by omega)]
          simp only [decide_eq_true_eq]; omega
        · have h1 := TZ.out.1 tt
          rw [decide_eq_false (show ¬ 0 < t' by omega)]
          simp only [decide_eq_false_iff_not]; omega
      have HPD : D = pre ++ restD (decide (0 < t')) 19 p ++ decs (vS U t').toNat := by rw [TE.out, List.append_assoc, ← hb]; exact HP.out
      have HNB : pre.length + (restD (decide (0 < t')) 19 p).length ≤ D.length := by rw [HPD]; simp only [List.length_append]; omega
      have HPX : Hid (D = pre ++ restD (decide (0 < t')) 19 p ++ decs (vS U t').toNat) := HPD
      have HNX : Hid (pre.length + (restD (decide (0 < t')) 19 p).length ≤ D.length) := HNB
      have TN : Hid (t' ≤ t) := tn
      clear HPD HNB hb tt tn
      gi_wp2
      refine ⟨trivial, fun h => (by cases h), ?_⟩
      refine (tell_in rfl rfl trivial l D.length J Jx hY (k - 1) p (decide (0 < t')) hpl pre w1 hJ1' HNX.out).mono ?_
      rintro e W3 (⟨rfl, hJ3, hk3⟩ | ⟨rfl, q, hq3, hx3⟩)
      · have hB3 := hB2.keptW hk3
        gi_wp2
        go_roundw
        case rel => exact ⟨t', U, pre ++ restD (decide (0 < t')) 19 p, rfl, by have := TN.out; omega, HUL.out, o1, hB3, by rw [TE.out]; exact TZ.out, HPX.out, hJ3⟩
        case measure => rw [leftW_blk hB3 _ t0 (by have := HUL.out; have := TN.out; omega), ← HK.out, TE.out]; exact HM.out
      · gi_wp2
        refine bodyPost_ret (results_none rfl _ _ _) rfl ?_
        exact ⟨⟨_, rfl⟩, .inr ⟨pre ++ q, by rw [HPX.out, List.append_assoc]; exact (List.prefix_append_right_inj pre).2 (hq3.trans (List.prefix_append _ _)), hx3⟩⟩
end Go.Proofs.YtfelogbfijomiabGreatDoor

import Derived.Test.YtfelogbfijomiaaDoorLent
namespace Go.Proofs.YtfelogbfijomiaaDoor
open Go.RowKit

set_option maxHeartbeats 400000 in
/-- The number that is lent. -/
theorem lnat_any (w : World) (r gf cf gw cw n : Nat) (fs ws : List Int) (h : Lnt w r gf cf gw cw n fs ws) :
    Calls Tryd.prog 52 #[.pointer (some ⟨r, 0, none⟩)] w fun e w' => e = .returned (.slice (some ⟨gf, 0, none⟩) n cf) ∧ ∃ m, w' = w.drewN m := by
  have c0 := h.c0
  have c2 := h.c2
  have h1 : (0 : Int) ≤ (n : Int) := by omega
  have h2 : (n : Int) ≤ (cf : Int) := by have := h.le; have := h.rf.le; omega
  clear h
  go_enter Tryd.func52, Tryd.ntmps52
  go_wp2
  go_quiet (fail)
  go_wp2
  go_ret
  exact ⟨rfl, nq, rfl⟩

set_option maxHeartbeats 400000 in
/-- What is lent is as it was. -/
theorem kept_any (w : World) (r gf cf gw cw n : Nat) (fs ws : List Int) (h : Lnt w r gf cf gw cw n fs ws) (hm : fs.length ≤ 1000000000000) (hfw : fs = ws) :
    Calls Tryd.prog 55 #[.pointer (some ⟨r, 0, none⟩)] w fun e w' => e = .returned (.bool true) ∧ ∃ m, w' = w.drewN m := by
  subst hfw
  have c0 := h.c0
  have c1 := h.c1
  go_enter Tryd.func55, Tryd.ntmps55
  go_wp2
  go_loopw [3] (fun i wr => ∃ k m : Nat, k ≤ fs.length ∧ i = .int .i64 k ∧ wr = w.drewN m) (fun i _ => fs.length - (intOf i).toNat)
  case atStart => exact ⟨0, 0, Nat.zero_le _, rfl, rfl⟩
  case round =>
    obtain ⟨k, m, hk, rfl, rfl⟩ := hrel
    by_cases hlt : k < fs.length
    · have h1 := h.rf.cell hlt
      have h2 := h.rw.cell hlt
      have hkl : (k : Int) < (fs.length : Int) := by omega
      have hb : (lm fs k != lm fs k) = false := by simp
      clear h
      go_wp2
      go_quiet (fail)
      go_wp2
      go_roundw
      case rel => exact ⟨k + 1, m + nq, by omega, by go_num, rfl⟩
      case measure => simp [intOf]; omega
    · clear h
      go_wp2
      go_ret
      exact ⟨rfl, m, rfl⟩

set_option maxHeartbeats 400000 in
theorem rcut_none (a : Option Addr) (cap : Nat) (w : World) : Calls Tryd.prog 99 #[.slice a 0 cap] w fun e w' => e = .returned (.slice a 0 cap) ∧ w = w' := by
  go_enter Tryd.func99, Tryd.ntmps99
  go_wp2
  go_loop [3] (fun i => i = .int .i64 0) (fun _ => 0)
  case atStart => rfl
  case round =>
    subst hrel
    go_wp2
    go_ret
    exact ⟨by simp, rfl⟩

set_option maxHeartbeats 400000 in
theorem rcut_some (b o cap : Nat) (xs : List Int) (w : World) (hl : xs.length ≤ cap) (hm : xs.length ≤ 1099511627776) (hc : ∀ i, i < xs.length → w.cell? ⟨b, o + i, none⟩ = some (.int .u64 (lm xs i))) :
    Calls Tryd.prog 99 #[.slice (some ⟨b, o, none⟩) xs.length cap] w fun e w' => e = .returned (.slice (some ⟨b, o, none⟩) (tlen xs) cap) ∧ w = w' := by
  go_enter Tryd.func99, Tryd.ntmps99
  go_wp2
  go_loop [3] (fun i => ∃ k : Nat, k ≤ xs.length ∧ i = .int .i64 k ∧ tl xs k = tlen xs) (fun i => (intOf i).toNat)
  case atStart => exact ⟨_, Nat.le_refl _, rfl, rfl⟩
  case round =>
    obtain ⟨k, hk, rfl, ht⟩ := hrel
    have HT : Hid (tl xs k = tlen xs) := ht
    clear ht
    by_cases hk0 : k = 0
    · subst hk0
      go_wp2
      go_ret
      exact ⟨ret_slice HT.out, rfl⟩
    · obtain ⟨j, rfl⟩ : ∃ j, k = j + 1 := ⟨k - 1, by omega⟩
      have hcj := hc j (by omega)
      by_cases hz : lm xs j = 0
      · have HT2 : Hid (tl xs j = tlen xs) := by have := HT.out; unfold tl at this; rw [if_pos hz] at this; exact this
        rw [hz] at hcj
        clear hz
        go_wp2
        go_round
        case rel => exact ⟨j, by omega, by go_num, HT2.out⟩
        case measure => simp [intOf]
      · have HT2 : Hid (j + 1 = tlen xs) := by have := HT.out; unfold tl at this; rw [if_neg hz] at this; exact this
        have hzb : (lm xs j == 0) = false := by simpa using hz
        clear hz
        go_wp2
        go_ret
        exact ⟨ret_slice HT2.out, rfl⟩

theorem rcut_any (a : Option Addr) (n cap : Nat) (xs : List Int) (w : World) (hn : n = xs.length) (hl : n ≤ cap) (hm : n ≤ 1099511627776) (hr : Reads w a xs) :
    Calls Tryd.prog 99 #[.slice a n cap] w fun e w' => e = .returned (.slice a (tlen xs) cap) ∧ w = w' := by
  subst hn
  rcases hr with rfl | ⟨b, o, rfl, hc⟩
  · exact rcut_none a cap w
  · exact rcut_some b o cap xs w hl hm hc

def rcmpL (xs ys : List Int) : Int := if xs.length = ys.length then cmpTo xs ys xs.length else ordI (decide (xs.length < ys.length))
set_option maxHeartbeats 1000000 in
/-- The order of half limbs, as cmpTo tells it. -/
theorem rcmp_any (a b : Option Addr) (na nb ca cb : Nat) (xs ys : List Int) (w : World) (hna : na = xs.length) (hnb : nb = ys.length)
    (hma : na ≤ 1099511627776) (hmb : nb ≤ 1099511627776) (hra : Reads w a xs) (hrb : Reads w b ys) :
    Calls Tryd.prog 83 #[.slice a na ca, .slice b nb cb] w fun e w' => e = .returned (.int .i64 (rcmpL xs ys)) ∧ ∃ n, w' = w.drewN n := by
  unfold rcmpL
  subst hna hnb
  by_cases hne : xs.length = ys.length
  · have HN : Hid (xs.length = ys.length) := hne
    have hb : ((xs.length : Int) != (ys.length : Int)) = false := by simp [hne]
    have HG : Hid ((if xs.length = ys.length then cmpTo xs ys xs.length else ordI (decide (xs.length < ys.length))) = cmpTo xs ys ys.length) := by show _ = _; rw [if_pos hne, hne]
    rw [HG.out]
    go_enter Tryd.func83, Tryd.ntmps83
    go_wp2_with fail
    go_loopw [5] (fun i wr => ∃ k m : Nat, k ≤ ys.length ∧ i = .int .i64 ((k : Int) - 1) ∧ cmpTo xs ys k = cmpTo xs ys ys.length ∧ wr = w.drewN m) (fun i _ => (intOf i + 1).toNat)
    case atStart => exact ⟨_, 0, Nat.le_refl _, rfl, rfl, rfl⟩
    case round =>
      obtain ⟨k, m, hk, rfl, ht, rfl⟩ := hrel
      have HT : Hid (cmpTo xs ys k = cmpTo xs ys ys.length) := ht
      have hxy : xs.length = ys.length := hne
      clear ht hb hne
      by_cases hk0 : k = 0
      · subst hk0
        clear hxy
        go_wp2
        go_ret
        exact ⟨ret_int HT.out, m, rfl⟩
      · obtain ⟨j, rfl⟩ : ∃ j, k = j + 1 := ⟨k - 1, by omega⟩
        obtain ⟨b1, o1, rfl, hc1⟩ := hra.at (by omega)
        obtain ⟨b2, o2, rfl, hc2⟩ := hrb.at (by omega)
        have h1 := hc1 j (by omega)
        have h2 := hc2 j (by omega)
        have hj : (j : Int) < (ys.length : Int) := by omega
        have hjx : (j : Int) < (xs.length : Int) := by omega
        clear hc1 hc2 hxy
        by_cases hz : lm xs j = lm ys j
        · have HT2 : Hid (cmpTo xs ys j = cmpTo xs ys ys.length) := (cmpTo_eq hz).symm.trans HT.out
          rw [hz] at h1
          clear hz
          have t1 : decide (lm ys j < lm ys j) = false := by simp
          go_wp2
          go_quiet (fail)
          obtain ⟨W2, hW2⟩ : ∃ W2, W2 = (w.drewN m).drewN nq := ⟨_, rfl⟩
          have g1 : W2.cell? ⟨b1, o1 + j, none⟩ = some (.int .u64 (lm ys j)) := by rw [hW2]; simpa using h1
          have g2 : W2.cell? ⟨b2, o2 + j, none⟩ = some (.int .u64 (lm ys j)) := by rw [hW2]; simpa using h2
          rw [← hW2]
          have HW2 : Hid (∃ q, W2 = w.drewN q) := ⟨m + nq, by rw [hW2]; simp⟩
          clear hW2 h1 h2
          go_wp2
          go_quiet (fail)
          obtain ⟨q, hq⟩ := HW2.out
          go_wp2
          go_roundw
          case rel => exact ⟨j, q + nq, by omega, by go_num, HT2.out, by first | rfl | (rw [hq]; simp)⟩
          case measure => simp [intOf]
        · by_cases hlt : lm xs j < lm ys j
          · have t1 : decide (lm xs j < lm ys j) = true := by simpa using hlt
            have HT2 : Hid (-1 = cmpTo xs ys ys.length) := by show _ = _; rw [← HT.out, cmpTo_ne hz, t1]; rfl
            clear hz
            go_wp2
            go_quiet (fail)
            go_wp2
            go_ret
            exact ⟨ret_int HT2.out, m + nq, by simp⟩
          · have t1 : decide (lm xs j < lm ys j) = false := by simpa using hlt
            have t2 : decide (lm ys j < lm xs j) = true := by simp; omega
            have HT2 : Hid (1 = cmpTo xs ys ys.length) := by show _ = _; rw [← HT.out, cmpTo_ne hz, t1]; rfl
            clear hz
            go_wp2
            go_quiet (fail)
            obtain ⟨W2, hW2⟩ : ∃ W2, W2 = (w.drewN m).drewN nq := ⟨_, rfl⟩
            have g1 : W2.cell? ⟨b1, o1 + j, none⟩ = some (.int .u64 (lm xs j)) := by rw [hW2]; simpa using h1
            have g2 : W2.cell? ⟨b2, o2 + j, none⟩ = some (.int .u64 (lm ys j)) := by rw [hW2]; simpa using h2
            rw [← hW2]
            have HW2 : Hid (∃ q, W2 = w.drewN q) := ⟨m + nq, by rw [hW2]; simp⟩
            clear hW2 h1 h2
            go_wp2
            go_quiet (fail)
            obtain ⟨q, hq⟩ := HW2.out
            go_wp2
            go_ret
            exact ⟨ret_int HT2.out, q + nq, by first | rfl | (rw [hq]; simp)⟩
  · have hb : ((xs.length : Int) != (ys.length : Int)) = true := by simp; omega
    rw [if_neg hne]
    clear hne
    by_cases hlt : xs.length < ys.length
    all_goals
      go_enter Tryd.func83, Tryd.ntmps83
      go_wp2
      go_ret
      exact ⟨ret_int (by simp [ordI, hlt]), 0, rfl⟩
end Go.Proofs.YtfelogbfijomiaaDoor

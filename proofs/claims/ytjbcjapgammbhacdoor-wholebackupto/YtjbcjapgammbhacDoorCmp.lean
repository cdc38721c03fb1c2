import Derived.Test.YtjbcjapgammbhacDoorBase
namespace Go.Proofs.YtjbcjapgammbhacDoor
open Go.RowKit

/-- The order of the first k limbs, the topmost first. -/
def cmpTo (xs ys : List Int) : Nat → Int
  | 0 => 0
  | k + 1 => if lm xs k = lm ys k then cmpTo xs ys k else ordI (decide (lm xs k < lm ys k))
def cmpL (xs ys : List Int) : Int :=
  if tlen xs = tlen ys then cmpTo xs ys (tlen xs) else ordI (decide (tlen xs < tlen ys))
theorem cmpTo_eq {xs ys : List Int} {j : Nat} (h : lm xs j = lm ys j) : cmpTo xs ys (j + 1) = cmpTo xs ys j := by simp [cmpTo, h]
theorem cmpTo_ne {xs ys : List Int} {j : Nat} (h : ¬ lm xs j = lm ys j) : cmpTo xs ys (j + 1) = ordI (decide (lm xs j < lm ys j)) := by simp [cmpTo, h]

theorem Reads.at {w : World} {a : Option Addr} {xs : List Int} (h : Reads w a xs) (hp : 0 < xs.length) : ∃ b o, a = some ⟨b, o, none⟩ ∧ ∀ i, i < xs.length → w.cell? ⟨b, o + i, none⟩ = some (.int .u64 (lm xs i)) := by
  rcases h with rfl | h
  · simp at hp
  · exact h
theorem Reads.drewN {w : World} {a : Option Addr} {xs : List Int} (h : Reads w a xs) (n : Nat) : Reads (w.drewN n) a xs := by
  rcases h with h | ⟨b, o, h, hc⟩
  · exact .inl h
  · exact .inr ⟨b, o, h, fun i hi => by simpa using hc i hi⟩

set_option maxHeartbeats 1000000 in
theorem cmp_any (a b : Option Addr) (na nb ca cb : Nat) (xs ys : List Int) (w : World) (hna : na = xs.length) (hnb : nb = ys.length) (hla : na ≤ ca) (hlb : nb ≤ cb)
    (hma : na ≤ 1099511627776) (hmb : nb ≤ 1099511627776) (hra : Reads w a xs) (hrb : Reads w b ys) :
    Calls Tryd.prog 25 #[.slice a na ca, .slice b nb cb] w fun e w' => e = .returned (.int .i64 (cmpL xs ys)) ∧ ∃ n, w' = w.drewN n := by
  have ta : tlen xs ≤ xs.length := tl_le _ _
  have tb : tlen ys ≤ ys.length := tl_le _ _
  subst hna hnb
  go_enter Tryd.func25, Tryd.ntmps25
  go_wp2_with fail
  refine (trim_any a _ ca xs _ rfl hla hma hra).mono ?_
  rintro e w1 ⟨rfl, rfl⟩
  go_wp2_with fail
  refine (trim_any b _ cb ys _ rfl hlb hmb hrb).mono ?_
  rintro e w1 ⟨rfl, rfl⟩
  by_cases hne : tlen xs = tlen ys
  · have HN : Hid (tlen xs = tlen ys) := hne
    have hb : ((tlen xs : Int) != (tlen ys : Int)) = false := by simp [hne]
    have ta' : tlen ys ≤ xs.length := by omega
    go_wp2_with fail
    go_loopw [5] (fun i wr => ∃ k m : Nat, k ≤ tlen ys ∧ i = .int .i64 ((k : Int) - 1) ∧ cmpTo xs ys k = cmpTo xs ys (tlen ys) ∧ wr = w.drewN m) (fun i _ => (intOf i + 1).toNat)
    case atStart => exact ⟨_, 0, Nat.le_refl _, rfl, rfl, rfl⟩
    case round =>
      obtain ⟨k, m, hk, rfl, ht, rfl⟩ := hrel
      have HT : Hid (cmpTo xs ys k = cmpTo xs ys (tlen ys)) := ht
      clear ht hb hne
      by_cases hk0 : k = 0
      · subst hk0
        go_wp2
        go_ret
        refine ⟨ret_int ?_, m, rfl⟩
        unfold cmpL; rw [if_pos HN.out, HN.out]; exact HT.out
      · obtain ⟨j, rfl⟩ : ∃ j, k = j + 1 := ⟨k - 1, by omega⟩
        obtain ⟨b1, o1, rfl, hc1⟩ := hra.at (by omega)
        obtain ⟨b2, o2, rfl, hc2⟩ := hrb.at (by omega)
        have h1 := hc1 j (by omega)
        have h2 := hc2 j (by omega)
        have hj : (j : Int) < (tlen ys : Int) := by omega
        clear hc1 hc2
        by_cases hz : lm xs j = lm ys j
        · have HT2 : Hid (cmpTo xs ys j = cmpTo xs ys (tlen ys)) := (cmpTo_eq hz).symm.trans HT.out
          rw [hz] at h1
          clear hz
          go_wp2
          go_quiet (fail)
          go_wp2
          go_roundw
          case rel => exact ⟨j, m + nq, by omega, by go_num, HT2.out, rfl⟩
          case measure => simp [intOf]
        · have hzb : (lm xs j != lm ys j) = true := by simpa using hz
          go_wp2
          go_quiet (fail)
          obtain ⟨W2, hW2⟩ : ∃ W2, W2 = (w.drewN m).drewN nq := ⟨_, rfl⟩
          have g1 : W2.cell? ⟨b1, o1 + j, none⟩ = some (.int .u64 (lm xs j)) := by rw [hW2]; simpa using h1
          have g2 : W2.cell? ⟨b2, o2 + j, none⟩ = some (.int .u64 (lm ys j)) := by rw [hW2]; simpa using h2
          rw [← hW2]
          have HW2 : Hid (∃ q, W2 = w.drewN q) := ⟨m + nq, by rw [hW2]; simp⟩
          clear hW2 h1 h2 hz
          go_wp2
          go_quiet ((go_at_call 39; exact Calls.quiet_of_same ((order_any _ _).mono (fun _ _ h => ⟨h.1, h.2.symm⟩))))
          go_wp2
          go_ret
          obtain ⟨q, hq⟩ := HW2.out
          refine ⟨ret_int ?_, q + nq, ?_⟩
          · unfold cmpL; rw [if_pos HN.out, HN.out, ← HT.out, cmpTo_ne (by simpa using hzb)]
          · rw [hq]; simp
  · have hb : ((tlen xs : Int) != (tlen ys : Int)) = true := by simp; omega
    go_wp2_with fail
    refine (order_any _ _).mono ?_
    rintro e w1 ⟨rfl, rfl⟩
    go_wp2
    go_ret
    refine ⟨ret_int ?_, 0, rfl⟩
    unfold cmpL; rw [if_neg hne]
    first | done | simp
end Go.Proofs.YtjbcjapgammbhacDoor

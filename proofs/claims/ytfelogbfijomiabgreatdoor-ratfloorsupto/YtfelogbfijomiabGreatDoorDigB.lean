import Derived.Test.YtfelogbfijomiabGreatDoorDigA
import Derived.Test.YtfelogbfijomiabGreatDoorRangeW
namespace Go.Proofs.YtfelogbfijomiabGreatDoor
open Go.RowKit Go.Shelf
attribute [local go_sem] Oper.semAt_some

set_option maxRecDepth 100000 in
set_option maxHeartbeats 1000000 in
/-- nat.tellPiece, over whatever loop body. -/
theorem tell_in {F : Fence} (hd : F.depth = none) (hro : F.round = none) (hf : F.fn 114) (l N : Nat) (J Jx : List Int → World → Prop)
    (hY : ∀ (m : Nat) pre x W1, J pre W1 → 0 ≤ x → x ≤ 9 → pre.length < N → YieldAt F m Tryz.prog l #[.int .i64 x] W1 fun e W' =>
      (e = .returned (.bool true) ∧ J (pre ++ [x]) W' ∧ KeptW W1 W') ∨ (e = .returned (.bool false) ∧ Jx (pre ++ [x]) W'))
    (n v : Nat) (whole : Bool) (hv : v < 10 ^ 19) (pre : List Int) (W : World) (hJ : J pre W) (hN : pre.length + (restD whole 19 v).length ≤ N) :
    CallsIn F n Tryz.prog 114 #[.int .u64 v, .bool whole, .func (.yield l) #[] #[]] W fun e W' =>
      (e = .returned (.bool true) ∧ J (pre ++ restD whole 19 v) W' ∧ KeptW W W') ∨ (e = .returned (.bool false) ∧ ∃ q, q <+: restD whole 19 v ∧ Jx (pre ++ q) W') := by
  have hdd : ∀ k : Nat, (F.depth.isSome = true → 1 ≤ k) := fun k h => by rw [hd] at h; cases h
  refine callsIn_of_wp Tryz.func114 rfl hf ?_ hro
  simp only [Tryz.ntmps114, List.size_toArray, List.length_cons, List.length_nil, Nat.reduceAdd, Nat.reduceSub, Array.replicate_succ, Array.replicate_zero, List.push_toArray, List.append_toArray, List.nil_append, List.cons_append]
  gi_wp2
  gi_loopw [0, 7] (fun p i wr => ∃ (k pn : Nat) (sent : List Int), p = .int .u64 pn ∧ i = .int .i64 (19 - (k : Int)) ∧ k ≤ 19 ∧ pn < 10 ^ k ∧ restD whole 19 v = sent ++ restD whole k pn ∧ J (pre ++ sent) wr ∧ KeptW W wr) (fun _ i _ => (19 - intOf i).toNat)
  case atStart => exact ⟨19, v, [], rfl, by go_num, Nat.le_refl _, hv, rfl, by simpa using hJ, KeptW.refl _⟩
  case round =>
    obtain ⟨k, pn, sent, rfl, rfl, hk, hpn, hsp, hJs, hks⟩ := hrel
    have hlt : (pn : Int) < 10000000000000000000 := by
      have : (10 : Nat) ^ k ≤ 10 ^ 19 := Nat.pow_le_pow_right (by decide) hk
      have e : (10 : Nat) ^ 19 = 10000000000000000000 := by decide
      omega
    by_cases hend : pn = 0 ∧ (whole = false ∨ k = 0)
    · obtain ⟨rfl, hend⟩ := hend
      rw [restD_end hend, List.append_nil] at hsp
      have HS : Hid (restD whole 19 v = sent) := hsp
      clear hsp hN hpn
      rcases hend with rfl | rfl
      · gi_wp2
        go_ret
        exact .inl ⟨rfl, by rw [HS.out]; exact hJs, hks⟩
      · cases whole with
        | false =>
          gi_wp2
          go_ret
          exact .inl ⟨rfl, by rw [HS.out]; exact hJs, hks⟩
        | true =>
          gi_wp2
          go_ret
          exact .inl ⟨rfl, by rw [HS.out]; exact hJs, hks⟩
    · obtain ⟨k', rfl, hpn', hnx⟩ := restD_next (whole := whole) hpn (by
        by_cases h0 : pn = 0
        · right
          refine ⟨?_, fun h => hend ⟨h0, .inr h⟩⟩
          cases whole with
          | true => rfl
          | false => exact absurd ⟨h0, .inl rfl⟩ hend
        · exact .inl h0)
      rw [hnx] at hsp
      have hlen : (pre ++ sent).length < N := by
        rw [hsp] at hN
        simp only [List.length_append, List.length_cons] at hN ⊢; omega
      obtain ⟨fn, tmps, assign, body, hy, hR⟩ := hY (n - 1) (pre ++ sent) ((pn % 10 : Nat) : Int) wr hJs (by omega) (by omega) hlen
      have hm : (pn : Int) % 10 = ((pn % 10 : Nat) : Int) := by omega
      have HQ : Hid ((pn : Int) / 10 = ((pn / 10 : Nat) : Int)) := by show (pn : Int) / 10 = _; omega
      have H1 : Hid (¬(pn = 0 ∧ (whole = false ∨ k' + 1 = 0))) := hend
      have HS : Hid (restD whole 19 v = sent ++ ((pn % 10 : Nat) : Int) :: restD whole k' (pn / 10)) := hsp
      have hx9 : ((pn % 10 : Nat) : Int) ≤ 9 := by omega
      generalize hX : ((pn % 10 : Nat) : Int) = X at *
      have HX : Hid (((pn % 10 : Nat) : Int) = X) := hX
      have fin : ∀ {e : Ending} {W3 : World}, (e = .returned (.bool true) ∧ J (pre ++ sent ++ [X]) W3 ∧ KeptW wr W3) ∨ (e = .returned (.bool false) ∧ Jx (pre ++ sent ++ [X]) W3) →
          (e = .returned (.bool true) ∧ J (pre ++ (sent ++ [X])) W3 ∧ KeptW W W3) ∨ (e = .returned (.bool false) ∧ ∃ q, q <+: restD whole 19 v ∧ Jx (pre ++ q) W3) := by
        rintro e W3 (⟨h1, h2, h3⟩ | ⟨h1, h2⟩)
        · exact .inl ⟨h1, by simpa using h2, hks.trans h3⟩
        · exact .inr ⟨h1, sent ++ [X], by rw [HS.out]; exact ⟨restD whole k' (pn / 10), by simp⟩, by simpa using h2⟩
      replace hR := hR.mono (fun e W3 h => fin h)
      clear hX hsp hN hnx hlen hJs hend hY hd fin
      have hi : (19 : Int) - ((k' + 1 : Nat) : Int) < 19 := by omega
      by_cases h0 : pn = 0
      · obtain rfl : whole = true := by
          cases whole with
          | true => rfl
          | false => exact absurd ⟨h0, .inl rfl⟩ H1.out
        subst h0
        obtain rfl : X = 0 := by have := HX.out; omega
        gi_wp2
        refine ⟨hdd _, ?_⟩
        refine hR.mono ?_
        rintro e W3 (⟨rfl, hJ3, hk3⟩ | ⟨rfl, hx3⟩)
        · gi_wp2
          go_roundw
          case rel => exact ⟨k', 0 / 10, sent ++ [0], by simp, by go_num, by omega, hpn', by rw [HS.out]; simp, hJ3, hk3⟩
          case measure => simp [intOf]; omega
        · gi_wp2
          go_ret
          exact .inr ⟨rfl, hx3⟩
      · have h0' : (0 : Int) < pn := by omega
        gi_wp2
        refine ⟨hdd _, ?_⟩
        refine hR.mono ?_
        rintro e W3 (⟨rfl, hJ3, hk3⟩ | ⟨rfl, hx3⟩)
        · gi_wp2
          go_roundw
          case rel => exact ⟨k', pn / 10, sent ++ [X], by rw [HQ.out], by go_num, by omega, hpn', by rw [HS.out]; simp, hJ3, hk3⟩
          case measure => simp [intOf]; omega
        · gi_wp2
          go_ret
          exact .inr ⟨rfl, hx3⟩
end Go.Proofs.YtfelogbfijomiabGreatDoor

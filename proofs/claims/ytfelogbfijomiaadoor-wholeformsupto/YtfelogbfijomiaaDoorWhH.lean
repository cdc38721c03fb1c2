import Derived.Test.YtfelogbfijomiaaDoorLow
import Derived.Test.YtfelogbfijomiaaDoorUintV
namespace Go.Proofs.YtfelogbfijomiaaDoor
open Go.RowKit

theorem wrap_down {m : Int} (h : 0 ≤ m) (hf : m ≤ 9223372036854775808) : IntKind.i64.wrap (IntKind.u64.wrap (-m)) = -m := by
  rw [IntKind.wrap_u64]
  rcases Int.lt_or_le 0 m with h1 | h1
  · rw [show (-m) % 18446744073709551616 = 18446744073709551616 - m by omega, IntKind.wrap_i64]
    omega
  · rw [show m = 0 by omega]; rfl
/-- The word of a whole number, if it fits. -/
def fitI (x : Int) : Bool := decide (-9223372036854775808 ≤ x ∧ x < 9223372036854775808)
def wordI (x : Int) : Int := if -9223372036854775808 ≤ x ∧ x < 9223372036854775808 then x else 0
set_option maxHeartbeats 1000000 in
/-- whole.Int64 -/
theorem int64I {a : Option Addr} {na ca : Nat} {m : Int} {S : Nat} (p : Bool) (w : World) (ha : Num w a na ca m S) (hS : S ≤ 10000000000) :
    Calls Tryd.prog 35 #[.agg #[.bool p, .slice a na ca]] w fun e w' => e = .returned (.tuple #[.int .i64 (wordI (ws p m)), .bool (fitI (ws p m))]) ∧ Below w.heap.size w w' := by
  have h0 := ha.nn
  obtain ⟨P0, hb0, hsz⟩ := box1 w (.bool p) (.slice a na ca) 25
  replace ha := ha.below hb0
  go_enter Tryd.func35, Tryd.ntmps35
  go_wp2_with fail
  generalize w.alloc (.cells #[.bool p, .slice a na ca] 25) = W0 at *
  obtain ⟨p00, p01, p02, p03⟩ := id P0
  refine (uintV _ ha (by omega)).mono ?_
  rintro e w2 ⟨rfl, rfl⟩
  by_cases h64 : m < 18446744073709551616
  · rw [show uw m = m from if_pos h64, show uf m = true from decide_eq_true h64]
    cases p with
    | true =>
      by_cases hf : m ≤ 9223372036854775808
      · have HX : Hid (wordI (ws true m) = -m ∧ fitI (ws true m) = true) := by
          refine ⟨?_, ?_⟩
          · unfold wordI ws; simp only [if_true]; rw [if_pos (by omega)]
          · unfold fitI ws; simp only [if_true]; exact decide_eq_true (by omega)
        have hwr : IntKind.i64.wrap (IntKind.u64.wrap (-m)) = -m := wrap_down h0 hf
        clear P0 ha
        go_wp2
        go_ret2
        exact ⟨by rw [HX.out.1, HX.out.2]; rfl, hb0⟩
      · have HX : Hid (wordI (ws true m) = 0 ∧ fitI (ws true m) = false) := by
          refine ⟨?_, ?_⟩
          · unfold wordI ws; simp only [if_true]; rw [if_neg (by omega)]
          · unfold fitI ws; simp only [if_true]; exact decide_eq_false (by omega)
        clear P0 ha
        go_wp2
        go_ret2
        exact ⟨by rw [HX.out.1, HX.out.2]; rfl, hb0⟩
    | false =>
      by_cases hf : m < 9223372036854775808
      · have HX : Hid (wordI (ws false m) = m ∧ fitI (ws false m) = true) := by
          refine ⟨?_, ?_⟩
          · unfold wordI ws; simp only [Bool.false_eq_true, if_false]; rw [if_pos (by omega)]
          · unfold fitI ws; simp only [Bool.false_eq_true, if_false]; exact decide_eq_true (by omega)
        clear P0 ha
        go_wp2
        go_ret2
        exact ⟨by rw [HX.out.1, HX.out.2]; rfl, hb0⟩
      · have HX : Hid (wordI (ws false m) = 0 ∧ fitI (ws false m) = false) := by
          refine ⟨?_, ?_⟩
          · unfold wordI ws; simp only [Bool.false_eq_true, if_false]; rw [if_neg (by omega)]
          · unfold fitI ws; simp only [Bool.false_eq_true, if_false]; exact decide_eq_false (by omega)
        clear P0 ha
        go_wp2
        go_ret2
        exact ⟨by rw [HX.out.1, HX.out.2]; rfl, hb0⟩
  · rw [show uw m = 0 from if_neg h64, show uf m = false from decide_eq_false h64]
    have HX : Hid (wordI (ws p m) = 0 ∧ fitI (ws p m) = false) := by
      refine ⟨?_, ?_⟩
      · unfold wordI ws; cases p <;> simp <;> omega
      · unfold fitI ws; cases p <;> simp <;> omega
    clear P0 ha
    go_wp2
    go_ret2
    exact ⟨by rw [HX.out.1, HX.out.2]; rfl, hb0⟩
end Go.Proofs.YtfelogbfijomiaaDoor

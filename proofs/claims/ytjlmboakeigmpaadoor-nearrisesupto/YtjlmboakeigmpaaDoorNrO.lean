import Derived.Test.YtjlmboakeigmpaaDoorNrN
import Derived.Test.YtjlmboakeigmpaaDoorR3Cm
import Derived.Test.YtjlmboakeigmpaaDoorNbA
namespace Go.Proofs.YtjlmboakeigmpaaDoor
open Go.RowKit

theorem Num.upto {w : World} {a : Option Addr} {n cap : Nat} {x : Int} {S R : Nat} (h : Num w a n cap x S) (hS : S ≤ R) : Num w a n cap x R := by
  obtain ⟨xs, h1, h2, h3, h4, h5, h6⟩ := h
  exact ⟨xs, h1, h2, h3, h4, h5, by omega⟩
/-- near.count: the halves, and whether something is left. -/
theorem countQ {a b : Option Addr} {na nb ca cb : Nat} {x y r : Int} {S R : Nat} (h : Nat) (w : World) (ha : Num w a na ca x S) (hb : Num w b nb cb y R) (hS : S ≤ 9000000) (hR : R ≤ 9000000) (hy : 0 < y) (hq : x * 2 = h * y + r) (hr : 0 ≤ r) (hr' : r < y) (hk : h < 18446744073709551616) :
    Calls Tryd.prog 84 #[.slice a na ca, .slice b nb cb] w fun e w' => e = .returned (.tuple #[.int .u64 ((h / 2 : Nat) : Int), .int .i64 ((2 * (h % 2) + (if r = 0 then 0 else 1) : Nat) : Int)]) ∧ Below w.heap.size w w' := by
  have e0 : x * 2 ^ 1 = r + h * y := by rw [Int.pow_one, hq, Int.add_comm]
  have e1 : x * 2 ^ 1 / y = (h : Int) := by rw [e0, Int.add_mul_ediv_right _ _ (by omega), Int.ediv_eq_zero_of_lt hr hr', Int.zero_add]
  have e2 : x * 2 ^ 1 % y = r := by rw [e0, Int.add_mul_emod_self_right, Int.emod_eq_of_lt hr hr']
  by_cases h0 : r = 0
  · rw [if_pos h0]
    rcases (by omega : h % 2 = 1 ∨ h % 2 = 0) with ho | ho
    · rw [ho]; exact count10 h w ha hb hS hR hy e1 hk ho (by omega)
    · rw [ho]; exact count00 h w ha hb hS hR hy e1 hk ho (by omega)
  · rw [if_neg h0]
    rcases (by omega : h % 2 = 1 ∨ h % 2 = 0) with ho | ho
    · rw [ho]; exact count11 h w ha hb hS hR hy e1 hk ho (by omega)
    · rw [ho]; exact count01 h w ha hb hS hR hy e1 hk ho (by omega)
theorem sc_up {x : Int} {s : Nat} (h : s ≤ 1074) : x * 2 ^ (1074 - s) * 2 ^ s = x * E4 := by rw [Int.mul_assoc, E4_split (by omega)]
theorem sc_dn {y : Int} {s : Nat} (h : 1074 < s) : y * 2 ^ (s - 1074) * E4 = y * 2 ^ s := by
  unfold E4; rw [Int.mul_assoc, ← Int.pow_add, Nat.sub_add_cancel (by omega)]
/-- near.scale by twos, either way. -/
theorem scaleQ {z : Int} {a b : Option Addr} {na nb ca cb : Nat} {x y : Int} {S R : Nat} (s : Nat) (w : World) (hz : z = 1074 - (s : Int)) (ha : Num w a na ca x S) (hb : Num w b nb cb y R) (hS : S ≤ 8000000) (hR : R ≤ 8000000) (hs : s ≤ 3000) (hy : 0 < y) :
    Calls Tryd.prog 44 #[.slice a na ca, .slice b nb cb, .int .i64 z, .func (.func 46) #[] #[]] w fun e w' => ∃ a' na' ca' b' nb' cb' X Y c, e = .returned (.tuple #[.slice a' na' ca', .slice b' nb' cb']) ∧ Num w' a' na' ca' X (S + 1025) ∧ Num w' b' nb' cb' Y (R + 1025) ∧ 0 < c ∧ 0 < Y ∧ X * c = x * E4 ∧ Y * c = y * 2 ^ s ∧ Below w.heap.size w w' := by
  rcases (by omega : s ≤ 1074 ∨ 1074 < s) with h | h
  · refine (scaleUz (1074 - s) w (by omega) ha (by omega) (by omega)).mono ?_
    rintro e w1 ⟨c, m, k, rfl, G, hx⟩
    exact ⟨_, _, _, _, _, _, _, _, 2 ^ s, rfl, G.num, (hb.below hx).upto (by omega), Int.pow_pos (by decide), hy, sc_up h, rfl, hx⟩
  · refine (scaleDz (s - 1074) w (by omega) hb (by omega) (by omega) (by omega)).mono ?_
    rintro e w1 ⟨c, m, k, rfl, G, hx⟩
    exact ⟨_, _, _, _, _, _, _, _, E4, rfl, (ha.below hx).upto (by omega), G.num, E4_pos, Int.mul_pos hy (Int.pow_pos (by decide)), rfl, sc_dn h, hx⟩
end Go.Proofs.YtjlmboakeigmpaaDoor

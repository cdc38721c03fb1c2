import Derived.Test.YtbkkepbmaadomaaGreatDoorNrKAll
import Derived.Test.YtbkkepbmaadomaaGreatDoorSNAll
import Derived.Test.YtbkkepbmaadomaaGreatDoorSmAll
import Derived.Test.YtbkkepbmaadomaaGreatDoorFmAll
import Derived.Test.YtbkkepbmaadomaaGreatDoorTwoAll
namespace Go.Proofs.YtbkkepbmaadomaaGreatDoor
open Go.RowKit Go.Shelf

end Go.Proofs.YtbkkepbmaadomaaGreatDoor

namespace Go.Proofs.YtbkkepbmaadomaaGreatDoor
open Go.RowKit

theorem sgn {b : Nat} {m : Int} (hb : b < 18446744073709551616) (h : b % 9223372036854775808 < 9218868437227405312) (hm : b % 9223372036854775808 = 0 → m = 0) : ws (decide (9223372036854775808 ≤ (b : Int))) m = ws (Ieee.double.order b 0 == some .lt) m := by
  rw [lt_zero, decide_eq_true (show b % 9223372036854775808 ≤ 9218868437227405312 by omega)]
  by_cases h0 : b % 9223372036854775808 = 0
  · rw [hm h0, ws_zero, ws_zero]
  · rw [decide_eq_true (show 0 < b % 9223372036854775808 by omega)]
    by_cases hs : 9223372036854775808 ≤ b
    · rw [decide_eq_true (show 9223372036854775808 ≤ (b : Int) by omega), show b / 9223372036854775808 = 1 by omega]; rfl
    · rw [decide_eq_false (show ¬ 9223372036854775808 ≤ (b : Int) by omega), show b / 9223372036854775808 = 0 by omega]; rfl
theorem finPair {b : Nat} (hb : b < 18446744073709551616) (h : b % 9223372036854775808 < 9218868437227405312) : ∃ r : Rat, (∀ u, TB u → Calls Tryz.prog 11 #[.float .f64 b] u fun e w' => ∃ f c n k c' n' k', e = .returned (.tuple #[.agg #[.bool f, .slice c n k, .slice c' n' k'], .nilIface]) ∧ GR w' u.heap.size f c n k c' n' k' r 1026 ∧ (∀ g, (Value.slice c n k).ownBlock = some g → (Value.slice c' n' k').ownBlock ≠ some g) ∧ Below u.heap.size u w') ∧ (∀ u, Calls Tryz.prog 21 #[.int .u64 (b : Int)] u fun e w' => ∃ f c n k c' n' k', e = .returned (.tuple #[.agg #[.bool f, .slice c n k, .slice c' n' k'], .int .i64 0]) ∧ GR w' u.heap.size f c n k c' n' k' r 1026 ∧ Below u.heap.size u w') := by
  have hbi : (b : Int) % 9223372036854775808 = ((b % 9223372036854775808 : Nat) : Int) := by omega
  by_cases hk : b % 9223372036854775808 < 4503599627370496
  · have hst : steps (b % 9223372036854775808) = 0 := by unfold steps; omega
    refine ⟨_, fun u hu => exactGD (m := ((b % 9223372036854775808 : Nat) : Int)) (q := 1074) u hb h (by rw [hst]; omega) (by omega) (by omega) (by rw [hst]; rfl) (by decide) rfl hu, fun u => ?_⟩
    refine (exactDD (m := ((b % 9223372036854775808 : Nat) : Int)) (q := 1074) u h (fun u => ?_) (by omega) (by omega) (by decide) rfl).mono ?_
    · rw [hbi]; exact partsD0 _ u hk
    · rintro e w' ⟨f, c, n, k, c', n', k', rfl, G, hx⟩
      exact ⟨f, c, n, k, c', n', k', rfl, G.val (by rw [sgn hb h (fun e => by omega)]; rfl), hx⟩
  · have hst : (steps (b % 9223372036854775808) : Int) = ((b % 9223372036854775808 / 4503599627370496 : Nat) : Int) - 1 := by unfold steps; omega
    have hmm : ((b % 9223372036854775808 : Nat) : Int) - (steps (b % 9223372036854775808) : Int) * 4503599627370496 = ((b % 9223372036854775808 % 4503599627370496 : Nat) : Int) + 4503599627370496 := by rw [hst]; omega
    by_cases hq : 1075 ≤ b % 9223372036854775808 / 4503599627370496
    · obtain ⟨q, he⟩ : ∃ q : Nat, b % 9223372036854775808 / 4503599627370496 = q + 1075 := ⟨_, (Nat.sub_add_cancel hq).symm⟩
      refine ⟨_, fun u hu => exactGU (m := ((b % 9223372036854775808 % 4503599627370496 : Nat) : Int) + 4503599627370496) (q := q) u hb h hmm (by omega) (by omega) (by rw [hst]; omega) (by omega) rfl hu, fun u => ?_⟩
      refine (exactDU (m := ((b % 9223372036854775808 % 4503599627370496 : Nat) : Int) + 4503599627370496) (q := q) u h (fun u => ?_) (by omega) (by omega) (by omega) rfl).mono ?_
      · rw [hbi]; exact partsD1 _ u (by omega) (by omega) rfl (by omega)
      · rintro e w' ⟨f, c, n, k, c', n', k', rfl, G, hx⟩
        exact ⟨f, c, n, k, c', n', k', rfl, G.val (by rw [sgn hb h (fun e => by omega)]; rfl), hx⟩
    · obtain ⟨q, he⟩ : ∃ q : Nat, b % 9223372036854775808 / 4503599627370496 + q = 1075 := ⟨1075 - b % 9223372036854775808 / 4503599627370496, by omega⟩
      refine ⟨_, fun u hu => exactGD (m := ((b % 9223372036854775808 % 4503599627370496 : Nat) : Int) + 4503599627370496) (q := q) u hb h hmm (by omega) (by omega) (by rw [hst]; omega) (by omega) rfl hu, fun u => ?_⟩
      refine (exactDD (m := ((b % 9223372036854775808 % 4503599627370496 : Nat) : Int) + 4503599627370496) (q := q) u h (fun u => ?_) (by omega) (by omega) (by omega) rfl).mono ?_
      · rw [hbi]; exact partsD1 _ u (by omega) (by omega) rfl (by omega)
      · rintro e w' ⟨f, c, n, k, c', n', k', rfl, G, hx⟩
        exact ⟨f, c, n, k, c', n', k', rfl, G.val (by rw [sgn hb h (fun e => by omega)]; rfl), hx⟩
end Go.Proofs.YtbkkepbmaadomaaGreatDoor

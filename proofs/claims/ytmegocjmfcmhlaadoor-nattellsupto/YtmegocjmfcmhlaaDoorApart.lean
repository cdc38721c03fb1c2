import Derived.Test.YtmegocjmfcmhlaaDoorApartC
namespace Go.Proofs.YtmegocjmfcmhlaaDoor
open Go.RowKit

theorem lm_ml_lt {x : Nat → List Int} {i k n : Nat} (hn : (x i).length = n) (h : k < n) : lm (ml x i 20) k = 1000000 * (i : Int) + k + 7 := by
  unfold ml; rw [lm_append_left (by rw [length_mk]; omega), lm_mk (by omega)]
theorem lm_ml_ge {x : Nat → List Int} {i k n : Nat} (hn : (x i).length = n) (h : n ≤ k) (h2 : k < n + 20) : lm (ml x i 20) k = 900000000 + (i : Int) := by
  unfold ml
  rw [lm_append_right (by rw [length_mk]; omega), length_mk]
  have e : (List.replicate 20 (900000000 + (i : Int)))[k - (x i).length]? = some (900000000 + (i : Int)) := by rw [List.getElem?_replicate, if_pos (by omega)]
  unfold lm
  rw [List.getD_eq_getElem?_getD, e]
  rfl

end Go.Proofs.YtmegocjmfcmhlaaDoor

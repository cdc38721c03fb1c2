import Derived.Test.YtcpglhcdllegnaaGreatDoorRefX0
import Derived.Test.YtcpglhcdllegnaaGreatDoorWhAll
namespace Go.Proofs.YtcpglhcdllegnaaGreatDoor
open Go.RowKit

theorem rev_take (D : List Int) {j : Nat} (hj : j < D.length) : ((D.map (48 + ·)).reverse).take (D.length - j) = ((D.map (48 + ·)).reverse).take (D.length - (j + 1)) ++ [48 + D.getD j 0] := by
  rw [show D.length - j = (D.length - (j + 1)) + 1 by omega, List.take_succ_eq_append_getElem (by simp; omega)]
  congr 2
  rw [List.getElem_reverse, List.getElem_map]
  simp only [List.getD, List.getElem?_eq_getElem hj, Option.getD_some, List.length_map]
  congr 2
  omega
end Go.Proofs.YtcpglhcdllegnaaGreatDoor

import Derived.Test.YtfelogbfijomiabGreatDoorLaid
import Derived.Shelf.Spec.TrailingZeros
namespace Go.Proofs.YtfelogbfijomiabGreatDoor
open Go.ChangeShapes Go.WideShapes Go.ChangeAt Go.RowKit

theorem u8Cells : Tryz.prog.cellsOf 5 = 1 := by kernel_rfl
/-- What the list of laid variables gives at the table. -/
theorem tab_head {n : String} {tab : List Nat} {r : List (String × DataW Unit)} {W : World} {g : Nat} (hg : Tryz.prog.globalNamed n = some g) (ht : (Tryz.prog.globals[g]?).map (·.type) = some 161) (hl : tab.length = 64)
    (h : laidMet Tryz.prog ((n, .agg (tab.map fun (k : Nat) => .lit (.int .u8 (k : Int)))) :: r) W) : TabAt g tab W ∧ g < W.heap.size := by
  obtain ⟨ps, ⟨g0, t0, cs0, f0, p0, q0, hg0, ht0, hv0, hd0, _, e0⟩, _, hrows⟩ := h
  obtain rfl := Option.some.inj (hg.symm.trans hg0)
  obtain rfl := Option.some.inj (ht.symm.trans ht0)
  obtain ⟨xs, m, rfl, hx, hlen, hn, hel⟩ := DataW.trod_array Tryz.underlying161 hd0
  have hmap : tab.map (fun (k : Nat) => (DataW.lit (.int .u8 (k : Int)) : DataW Unit)) = xs.map (·.1) := by
    have := congrArg Prod.fst hx
    simpa using this
  have hT : TabAt g tab W := fun j hj => by
    have hj' : j < 64 := by omega
    have e1 := hel j hj'
    rw [u8Cells, List.getElem?_eq_getElem (by omega)] at e1
    obtain ⟨z, hz1, hz2, _⟩ := DataW.trod_int Tryz.underlying5 e1
    have e2 := congrArg (fun l => l[j]?) hmap
    simp only [List.getElem?_map, List.getElem?_eq_getElem hj, List.getElem?_eq_getElem (show j < xs.length by omega), Option.map_some, hz2] at e2
    have e3 : (tab[j] : Int) = z := by
      have := Option.some.inj e2
      simp only [DataW.lit.injEq, Lit.int.injEq, true_and] at this
      exact this
    have e4 : cs0.toList[j]? = some (.int .u8 z) := by
      have := congrArg (fun l => l[0]?) hz1
      simp only [Nat.mul_one] at this
      rw [List.getElem?_take_of_lt (by omega), List.getElem?_drop, Nat.add_zero] at this
      simpa using this
    have e5 := World.var?_cell hg hv0 j
    rw [e5]
    have e6 : cs0[j]? = some (.int .u8 z) := by simpa using e4
    rw [e6, ← e3]
    simp [List.getD, List.getElem?_eq_getElem hj]
  exact ⟨hT, World.block_lt_of_cell? _ _ (hT 0 (by omega))⟩
end Go.Proofs.YtfelogbfijomiabGreatDoor

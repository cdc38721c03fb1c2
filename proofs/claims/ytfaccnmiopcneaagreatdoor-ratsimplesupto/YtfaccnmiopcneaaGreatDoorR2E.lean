import Derived.Test.YtfaccnmiopcneaaGreatDoorLentAll
import Derived.Test.YtfaccnmiopcneaaGreatDoorR2All
import Derived.Test.YtfaccnmiopcneaaGreatDoorLawAll
namespace Go.Proofs.YtfaccnmiopcneaaGreatDoor
open Go.RowKit

/-- the document's Uint64 -/
theorem ruintV {a : Option Addr} {n c : Nat} {m : Int} {S : Nat} (w : World) (h : Num w a n c m S) (hS : S ≤ 400000000) :
    Calls Tryz.prog 116 #[.slice a n c] w fun e w' => e = .returned (.tuple #[.int .u64 (uw m), .bool (uf m)]) ∧ Below w.heap.size w w' := by
  obtain ⟨xs, h1, h2, h3, h4, h5, h6⟩ := h
  refine (ruint64_any a n c xs w h1 h2 (by omega) h3 h4).mono ?_
  rintro e w' ⟨rfl, hb⟩
  refine ⟨?_, hb⟩
  have o := one_limb h4
  rw [h5] at o
  by_cases ht : tlen xs ≤ 1
  · obtain ⟨o1, o2⟩ := o.1 ht
    rw [show uval xs = uw m by unfold uval uw; rw [o1, if_pos o2], show ufit xs = uf m by unfold ufit uf; rw [decide_eq_true ht, decide_eq_true o2]]
  · have o2 := o.2 (by omega)
    rw [show uval xs = uw m by unfold uval uw; rw [if_neg (by omega), if_neg (by omega)], show ufit xs = uf m by unfold ufit uf; rw [decide_eq_false ht, decide_eq_false (by omega)]]
theorem int64T {a : Option Addr} {p : Bool} {na ca : Nat} {x : Int} {S : Nat} (w : World) (ha : TI w p a na ca x S) (hS : S ≤ 20000000) :
    Calls Tryz.prog 105 #[.agg #[.bool p, .slice a na ca]] w fun e w' => e = .returned (.tuple #[.int .i64 (wordI x), .bool (fitI x)]) ∧ Below w.heap.size w w' := by
  obtain ⟨m, h1, rfl⟩ := ha
  exact int64I p w h1 (by omega)
end Go.Proofs.YtfaccnmiopcneaaGreatDoor

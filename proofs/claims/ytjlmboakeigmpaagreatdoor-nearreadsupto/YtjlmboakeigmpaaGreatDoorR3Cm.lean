import Derived.Test.YtjlmboakeigmpaaGreatDoorR3Cs
namespace Go.Proofs.YtjlmboakeigmpaaGreatDoor
open Go.RowKit

theorem rsignB (t : Int) {p : Bool} {a : Option Addr} {na ca : Nat} {d : Option Addr} {nd cd : Nat} {r : Rat} {S : Nat} (w : World) (hr : TR w p a na ca d nd cd r S) (hS : S ≤ 9000000) (hS1 : 1 ≤ S) (ht : t = r.num.sign) :
    Calls Tryz.prog 46 #[.agg #[.bool p, .slice a na ca, .slice d nd cd]] w fun e w' => e = .returned (.int .i64 t) ∧ Below w.heap.size w w' := by
  refine (rsignR w hr hS hS1).mono ?_
  rintro e w' ⟨z, rfl, hz, hb⟩
  exact ⟨by rw [ht, hz], hb⟩
end Go.Proofs.YtjlmboakeigmpaaGreatDoor

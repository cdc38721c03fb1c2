import Derived.Test.YtfelogbfijomiaaDoorTI
import Derived.Test.YtfelogbfijomiaaDoorWhNeg
namespace Go.Proofs.YtfelogbfijomiaaDoor
open Go.RowKit

theorem negT {a : Option Addr} {p : Bool} {na ca : Nat} {x : Int} {S : Nat} (w : World) (ha : TI w p a na ca x S) (hS : S ≤ 10000000) :
    Calls Tryd.prog 15 #[.agg #[.bool p, .slice a na ca]] w fun e w' => ∃ f c n d, e = .returned (.agg #[.bool f, .slice c n d]) ∧ GI w' w.heap.size (.agg #[.bool f, .slice c n d]) (-x) (S) ∧ Below w.heap.size w w' := by
  obtain ⟨m, h1, rfl⟩ := ha
  refine (negI p w h1 (by omega)).mono ?_
  rintro e w' ⟨v, rfl, G, hb⟩
  obtain ⟨f, c, n, d, rfl⟩ := G.form
  exact ⟨f, c, n, d, rfl, G, hb⟩
end Go.Proofs.YtfelogbfijomiaaDoor

import Derived.Test.YtfelogbfijomiaaDoorTI
import Derived.Test.YtfelogbfijomiaaDoorWhAbs
namespace Go.Proofs.YtfelogbfijomiaaDoor
open Go.RowKit

theorem absT {a : Option Addr} {p : Bool} {na ca : Nat} {x : Int} {S : Nat} (w : World) (ha : TI w p a na ca x S) (hS : S ≤ 10000000) :
    Calls Tryd.prog 29 #[.agg #[.bool p, .slice a na ca]] w fun e w' => ∃ c n d, e = .returned (.slice c n d) ∧ Got w' w.heap.size (.slice c n d) (x.natAbs : Int) S ∧ Below w.heap.size w w' := by
  obtain ⟨m, h1, rfl⟩ := ha
  have h0 := h1.nn
  rw [ws_abs h0]
  exact absI p w h1 (by omega)
end Go.Proofs.YtfelogbfijomiaaDoor

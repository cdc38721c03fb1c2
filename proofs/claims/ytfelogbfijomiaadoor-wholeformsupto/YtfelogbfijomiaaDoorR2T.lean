import Derived.Test.YtfelogbfijomiaaDoorR2A
import Derived.Test.YtfelogbfijomiaaDoorR2B
namespace Go.Proofs.YtfelogbfijomiaaDoor
open Go.RowKit

theorem rsignT {a : Option Addr} {p : Bool} {na ca : Nat} {x : Int} {S : Nat} (w : World) (ha : TI w p a na ca x S) (hS : S ≤ 20000000) :
    Calls Tryd.prog 32 #[.agg #[.bool p, .slice a na ca]] w fun e w' => e = .returned (.int .i64 x.sign) ∧ Below w.heap.size w w' := by
  obtain ⟨m, h1, rfl⟩ := ha
  exact rsignI p w h1 (by omega)
theorem rcmpT {a b : Option Addr} {p q : Bool} {na nb ca cb : Nat} {x y : Int} {S R : Nat} (w : World) (ha : TI w p a na ca x S) (hb : TI w q b nb cb y R) (hS : S ≤ 20000000) (hR : R ≤ 20000000) :
    Calls Tryd.prog 33 #[.agg #[.bool p, .slice a na ca], .agg #[.bool q, .slice b nb cb]] w fun e w' => e = .returned (.int .i64 (x - y).sign) ∧ Below w.heap.size w w' := by
  obtain ⟨m, h1, rfl⟩ := ha
  obtain ⟨k, h2, rfl⟩ := hb
  exact rcmpI p q w h1 h2 (by omega) (by omega)
theorem rnegT {a : Option Addr} {p : Bool} {na ca : Nat} {x : Int} {S : Nat} (w : World) (ha : TI w p a na ca x S) (hS : S ≤ 20000000) :
    Calls Tryd.prog 30 #[.agg #[.bool p, .slice a na ca]] w fun e w' => ∃ f c n d, e = .returned (.agg #[.bool f, .slice c n d]) ∧ GI w' w.heap.size (.agg #[.bool f, .slice c n d]) (-x) (S) ∧ Below w.heap.size w w' := by
  obtain ⟨m, h1, rfl⟩ := ha
  exact rnegI p w h1 (by omega)
theorem rabsT {a : Option Addr} {p : Bool} {na ca : Nat} {x : Int} {S : Nat} (w : World) (ha : TI w p a na ca x S) (hS : S ≤ 20000000) :
    Calls Tryd.prog 31 #[.agg #[.bool p, .slice a na ca]] w fun e w' => ∃ c n d, e = .returned (.slice c n d) ∧ Got w' w.heap.size (.slice c n d) (x.natAbs : Int) S ∧ Below w.heap.size w w' := by
  obtain ⟨m, h1, rfl⟩ := ha
  have h0 := h1.nn
  rw [ws_abs h0]
  exact rabsI p w h1 (by omega)
theorem rnormT {a : Option Addr} {p : Bool} {na ca : Nat} {x : Int} {S : Nat} (w : World) (ha : TI w p a na ca x S) (hS : S ≤ 20000000) :
    Calls Tryd.prog 37 #[.agg #[.bool p, .slice a na ca]] w fun e w' => ∃ f c n d, e = .returned (.agg #[.bool f, .slice c n d]) ∧ GI w' w.heap.size (.agg #[.bool f, .slice c n d]) (x) (S) ∧ Below w.heap.size w w' := by
  obtain ⟨m, h1, rfl⟩ := ha
  exact rnormI p w h1 (by omega)
end Go.Proofs.YtfelogbfijomiaaDoor

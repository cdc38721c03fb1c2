import Derived.Test.YtgdilnljjgdinaaGreatDoorLentAll
import Derived.Test.YtgdilnljjgdinaaGreatDoorRefAll
namespace Go.Proofs.YtgdilnljjgdinaaGreatDoor
open Go.RowKit
theorem rnormT {a:Option Addr} {p:Bool} {na ca:Nat} {x:Int} {S:Nat} (w:World) (ha:TI w p a na ca x S) (hS:S≤20000000) :
  Calls Tryz.prog 88 #[.agg #[.bool p,.slice a na ca]] w fun e w'=>∃ f c n d,e = .returned (.agg #[.bool f,.slice c n d])∧GI w' w.heap.size (.agg #[.bool f,.slice c n d]) (x) (S)∧Below w.heap.size w w':=by
 obtain ⟨m,h1,rfl⟩:=ha
 exact rnormI p w h1 (by omega)
end Go.Proofs.YtgdilnljjgdinaaGreatDoor

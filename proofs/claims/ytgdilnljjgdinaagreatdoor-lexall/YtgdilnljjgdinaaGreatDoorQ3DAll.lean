import Derived.Test.YtgdilnljjgdinaaGreatDoorQ3AAll
import Derived.Test.YtgdilnljjgdinaaGreatDoorR5E0All
namespace Go.Proofs.YtgdilnljjgdinaaGreatDoor
open Go.RowKit
theorem signB (t:Int) {p:Bool} {a:Option Addr} {na ca:Nat} {d:Option Addr} {nd cd:Nat} {r:Rat} {S:Nat} (w:World) (hr:TR w p a na ca d nd cd r S) (hS:S≤7000000) (hS1:1≤S) (ht:t=r.num.sign) :
  Calls Tryz.prog 41 #[.agg #[.bool p,.slice a na ca,.slice d nd cd]] w fun e w'=>e = .returned (.int .i64 t)∧Below w.heap.size w w':=by
 rw [ht];exact signD w hr hS hS1
end Go.Proofs.YtgdilnljjgdinaaGreatDoor

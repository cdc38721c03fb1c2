import Derived.Test.YtjapbhdoemfgkaaGreatDoorCbDF
import Derived.Test.YtjapbhdoemfgkaaGreatDoorCbDT
namespace Go.Proofs.YtjapbhdoemfgkaaGreatDoor
open Go.RowKit
theorem boxes_walk (mx:Bool) {va:Option Addr} {n vc:Nat} {V:Nat→PV} {ZV:Nat→Nat} {p:Bool} {a:Option Addr} {na ca:Nat} {d:Option Addr} {nd cd:Nat} {k:Rat} {Sk:Nat} (w:World) (hv:LV w va n V ZV) (hvc:n≤vc) (hk:TR w p a na ca d nd cd k Sk) (hk1:1≤Sk) (hK:Sk + tot ZV n + 1≤1048572) (hT:TB w) {eS eP eR eD:Value} {pV pB:Addr} (EH:EE w eS eP (.iface 131 (.pointer (some pV))) (.iface 131 (.pointer (some pB))) eR eD) :
  Calls Tryz.prog 3 #[.bool mx,.slice va n vc,.agg #[.bool p,.slice a na ca,.slice d nd cd]] w fun e w'=>e = .returned (.bool true)∧Below w.heap.size w w':=by
 cases mx
 ·exact boxes_walkF w hv hvc hk hk1 hK hT EH
 ·exact boxes_walkT w hv hvc hk hk1 hK hT EH
end Go.Proofs.YtjapbhdoemfgkaaGreatDoor

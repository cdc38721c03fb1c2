import Derived.Test.YtmpkgpilfcbdnaaGreatDoorBpIAll
import Derived.Test.YtmpkgpilfcbdnaaGreatDoorQAll
namespace Go.Proofs.YtmpkgpilfcbdnaaGreatDoor
open Go.RowKit
theorem cs_slf {r s:Rat} (h:r = s):(0:Int) = cs r s:=by subst h;unfold cs;rw [Int.sub_self];rfl
set_option maxRecDepth 100000 in
set_option maxHeartbeats 8000000 in
theorem sameL {p q:Bool} {a b:Option Addr} {na nb ca cb:Nat} {d e0:Option Addr} {nd ne cd ce:Nat} {r s:Rat} {B B' S R:Nat} (w:World) (hr:GR w B p a na ca d nd cd r S) (hs:GR w B' q b nb cb e0 ne ce s R) (he:r = s) (hSR:S + R≤6000000) (hS1:1≤S) (hR1:1≤R) :
  Calls Tryz.prog 14 #[.agg #[.bool p,.slice a na ca,.slice d nd cd],.agg #[.bool q,.slice b nb cb,.slice e0 ne ce]] w fun e w'=>e = .returned (.bool true)∧Below w.heap.size w w':=by
 obtain ⟨P0,P1,hb0,hsz⟩:=box_rr w (.bool p) (.slice a na ca) (.slice d nd cd) (.bool q) (.slice b nb cb) (.slice e0 ne ce) 29
 replace hr:=hr.below hb0
 replace hs:=hs.below hb0
 have HE:Hid ((0:Int) = cs r s):=cs_slf he
 clear he hsz
 go_enter Tryz.func14,Tryz.ntmps14
 go_wp2_with fail
 generalize (w.alloc (.cells #[.bool p,.slice a na ca,.slice d nd cd] 29)).alloc (.cells #[.bool q,.slice b nb cb,.slice e0 ne ce] 29) = W0 at *
 obtain ⟨p0c0,p0c1,p0c2,p0c3,p0c4,p0c5⟩:=id P0
 obtain ⟨p1c0,p1c1,p1c2,p1c3,p1c4,p1c5⟩:=id P1
 go_wp2_with fail
 refine (cmpD 0 W0 hr.tr hs.tr hSR hS1 hR1 HE.out).mono ?_
 rintro e w1 ⟨rfl,h1⟩
 have hbn:=bel_tr hb0 h1
 clear p0c0 p0c1 p0c2 p0c3 p0c4 p0c5 p1c0 p1c1 p1c2 p1c3 p1c4 p1c5 P0 P1 hr hs h1 hb0
 go_wp2
 go_ret
 exact ⟨rfl,hbn⟩
end Go.Proofs.YtmpkgpilfcbdnaaGreatDoor

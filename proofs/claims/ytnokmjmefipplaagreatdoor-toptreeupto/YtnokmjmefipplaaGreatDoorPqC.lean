import Derived.Test.YtnokmjmefipplaaGreatDoorOpRAll
import Derived.Test.YtnokmjmefipplaaGreatDoorPqB
import Derived.Test.YtnokmjmefipplaaGreatDoorCsAll
namespace Go.Proofs.YtnokmjmefipplaaGreatDoor
open Go.RowKit
def BoxC (w:World) (R:Nat) (cs:List Value):Prop:=∀ i u,cs[i]? = some u→w.cell? ⟨R,i,none⟩ = some u
theorem aJ (w:World) (cs:Array Value) (t:TypeId):BoxC (w.alloc (.cells cs t)) w.heap.size cs.toList:=by
 intro i u hu
 have h:(w.alloc (.cells cs t)).heap[w.heap.size]? = some (.cells cs t):=heap_alloc_new _ _
 unfold World.cell?
 rw [h]
 simpa using hu
theorem BoxC.below {w w':World} {R:Nat} {cs:List Value} (h:BoxC w R cs) (hb:Below w.heap.size w w'):BoxC w' R cs:=fun i u hu=>aF hb (h i u hu)
def eF (a:Rat) (hlo:Bool) (lo:Rat) (hhi:Bool) (hi:Rat):Bool:=!(hlo && decide (cs a lo < 0)) && !(hhi && decide (0 < cs a hi))
theorem iT (w:World) (c0:Array Value) (t0:TypeId) (c1:Array Value) (t1:TypeId) (c2:Array Value) (t2:TypeId):let W:=((w.alloc (.cells c0 t0)).alloc (.cells c1 t1)).alloc (.cells c2 t2);BoxC W w.heap.size c0.toList∧BoxC W (w.heap.size + 1) c1.toList∧BoxC W (w.heap.size + 2) c2.toList∧Below w.heap.size w W∧W.heap.size = w.heap.size + 3:=by
 have e1:(w.alloc (.cells c0 t0)).heap.size = w.heap.size + 1:=by simp
 have e2:((w.alloc (.cells c0 t0)).alloc (.cells c1 t1)).heap.size = w.heap.size + 2:=by simp
 have P1:=aJ (w.alloc (.cells c0 t0)) c1 t1
 have P2:=aJ ((w.alloc (.cells c0 t0)).alloc (.cells c1 t1)) c2 t2
 rw [e1] at P1
 rw [e2] at P2
 exact ⟨((aJ w c0 t0).below (aG _ _)).below (aG _ _),P1.below (aG _ _),P2,gK (gK (aG _ _)),by simp⟩
set_option maxHeartbeats 2000000 in
theorem withinQ {p:Bool} {a:Option Addr} {na ca:Nat} {d:Option Addr} {nd cd:Nat} {r:Rat} {S:Nat} {hlo pl:Bool} {al:Option Addr} {nl cl:Nat} {dl:Option Addr} {ml ll:Nat} {lo:Rat} {hhi ph:Bool} {ah:Option Addr} {nh ch:Nat} {dh:Option Addr} {mh lh:Nat} {hi:Rat} {R:Nat} (w:World)
 (hr:TR w p a na ca d nd cd r S) (hl:TR w pl al nl cl dl ml ll lo R) (hh:TR w ph ah nh ch dh mh lh hi R) (hSR:S + R≤9000000) (hS1:1≤S) (hR1:1≤R) :
 Calls Tryz.prog 71 #[.agg #[.bool p,.slice a na ca,.slice d nd cd],.agg #[.bool hlo,.bool pl,.slice al nl cl,.slice dl ml ll],.agg #[.bool hhi,.bool ph,.slice ah nh ch,.slice dh mh lh]] w fun e w'=>e = .returned (.bool (eF r hlo lo hhi hi))∧Below w.heap.size w w':=by
 obtain ⟨P0,P1,P2,hb,hs⟩:=iT w #[.bool p,.slice a na ca,.slice d nd cd] 27 #[.bool hlo,.bool pl,.slice al nl cl,.slice dl ml ll] 43 #[.bool hhi,.bool ph,.slice ah nh ch,.slice dh mh lh] 43
 have a0:=P0 0 _ rfl
 have a1:=P0 1 _ rfl
 have a2:=P0 2 _ rfl
 have b0:=P1 0 _ rfl
 have b1:=P1 1 _ rfl
 have b2:=P1 2 _ rfl
 have b3:=P1 3 _ rfl
 have c0:=P2 0 _ rfl
 have c1:=P2 1 _ rfl
 have c2:=P2 2 _ rfl
 have c3:=P2 3 _ rfl
 clear P0 P1 P2
 replace hr:=hr.below hb
 replace hl:=hl.below hb
 replace hh:=hh.below hb
 go_enter Tryz.func71,Tryz.ntmps71
 cases hlo
 ·cases hhi
  ·go_wp2
   go_ret
   exact ⟨by simp [eF],hb⟩
  ·go_wp2_with fail
   generalize ((w.alloc (.cells #[.bool p,.slice a na ca,.slice d nd cd] 27)).alloc (.cells #[.bool false,.bool pl,.slice al nl cl,.slice dl ml ll] 43)).alloc (.cells #[.bool true,.bool ph,.slice ah nh ch,.slice dh mh lh] 43) = W at *
   refine (oH _ W hr hh (by omega) (by omega) (by omega) rfl).mono ?_
   rintro e w1 ⟨rfl,h1⟩
   have hb1:=aB hb h1
   go_wp2
   go_ret
   exact ⟨by simp [eF],hb1⟩
 ·cases hhi
  ·go_wp2_with fail
   generalize ((w.alloc (.cells #[.bool p,.slice a na ca,.slice d nd cd] 27)).alloc (.cells #[.bool true,.bool pl,.slice al nl cl,.slice dl ml ll] 43)).alloc (.cells #[.bool false,.bool ph,.slice ah nh ch,.slice dh mh lh] 43) = W at *
   refine (oH _ W hr hl (by omega) (by omega) (by omega) rfl).mono ?_
   rintro e w1 ⟨rfl,h1⟩
   have hb1:=aB hb h1
   replace c0:=aF h1 c0
   by_cases hc:cs r lo < 0
   ·go_wp2
    go_ret
    exact ⟨by simp [eF,hc],hb1⟩
   ·go_wp2
    go_ret
    exact ⟨by simp [eF],hb1⟩
  ·go_wp2_with fail
   generalize ((w.alloc (.cells #[.bool p,.slice a na ca,.slice d nd cd] 27)).alloc (.cells #[.bool true,.bool pl,.slice al nl cl,.slice dl ml ll] 43)).alloc (.cells #[.bool true,.bool ph,.slice ah nh ch,.slice dh mh lh] 43) = W at *
   refine (oH _ W hr hl (by omega) (by omega) (by omega) rfl).mono ?_
   rintro e w1 ⟨rfl,h1⟩
   have hb1:=aB hb h1
   replace a0:=aF h1 a0
   replace a1:=aF h1 a1
   replace a2:=aF h1 a2
   replace c0:=aF h1 c0
   replace c1:=aF h1 c1
   replace c2:=aF h1 c2
   replace c3:=aF h1 c3
   replace hr:=hr.below h1
   replace hh:=hh.below h1
   go_wp2_with fail
   refine (oH _ w1 hr hh (by omega) (by omega) (by omega) rfl).mono ?_
   rintro e w2 ⟨rfl,h2⟩
   replace hb1:=aB hb1 h2
   by_cases hc:cs r lo < 0
   ·go_wp2
    go_ret
    exact ⟨by simp [eF,hc],hb1⟩
   ·go_wp2
    go_ret
    exact ⟨by simp [eF],hb1⟩
end Go.Proofs.YtnokmjmefipplaaGreatDoor

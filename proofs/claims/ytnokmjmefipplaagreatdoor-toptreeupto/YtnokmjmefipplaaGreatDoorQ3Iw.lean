import Derived.Test.YtnokmjmefipplaaGreatDoorQAll
namespace Go.Proofs.YtnokmjmefipplaaGreatDoor
open Go.RowKit
theorem Got.one {w:World} {B:Nat} {a:Option Addr} {n c:Nat} {x:Int} {S:Nat} (h:Got w B (.slice a n c) x S):(n = 1→∃ g v,a = some ⟨g,0,none⟩∧w.cell? ⟨g,0,none⟩ = some (.int .u64 v)∧v = x)∧(x = 1→n = 1):=by
 obtain ⟨xs,h1,h2,h3,h4⟩:=h
 rcases h1.row with ⟨e1,e2⟩ | ⟨g,c',e1,hB,hr⟩
 ·subst e2
  simp only [Value.slice.injEq] at e1
  obtain ⟨rfl,rfl,rfl⟩:=e1
  refine ⟨fun h=>absurd h (by decide),fun h=>?_⟩
  rw [h] at h3
  simp [Go.Proofs.YtnokmjmefipplaaGreatDoor.val,vS] at h3
 ·simp only [Value.slice.injEq] at e1
  obtain ⟨rfl,e2,rfl⟩:=e1
  refine ⟨fun h=>⟨g,lm xs 0,rfl,hr.cell (by omega),?_⟩,fun h=>?_⟩
  ·rw [← h3]
   have e:xs.length = 1:=by omega
   show lm xs 0 = vS xs xs.length
   rw [e];simp [vS,pw]
  ·have h5:=dD h2.1
   rw [e2]
   have h6:aH xs = xs.length:=h2.2
   rw [h3,h] at h5
   have h7:=dY h2.1
   rw [h3,h] at h7
   rcases (by omega:xs.length = 1∨xs.length = 0∨2≤xs.length) with q | q | q
   ·exact q
   ·omega
   ·exfalso
    obtain ⟨k,hk⟩:∃ k,xs.length = k + 1:=⟨xs.length - 1,by omega⟩
    have hne:=(fZ xs xs.length).2 (by show 0 < aH xs;omega)
    have e3:tl xs xs.length = k + 1:=by show aH xs = _;omega
    rw [e3,Nat.add_sub_cancel] at hne
    have hv:Go.Proofs.YtnokmjmefipplaaGreatDoor.val xs = vS xs k + lm xs k * pw k:=by show vS xs xs.length = _;rw [hk];rfl
    have b1:=(gW h2.1 k).1
    have b2:=(h2.1.at k).1
    have b3:pw 1≤pw k:=bF (by omega)
    have b4:pw 1 = 18446744073709551616:=by simp [pw]
    have b5:pw k≤lm xs k * pw k:=by
     have:=Int.mul_le_mul_of_nonneg_right (show 1≤lm xs k by omega) (Int.le_of_lt (bH k))
     omega
    omega
set_option maxHeartbeats 4000000 in
theorem aF8 (t:Bool) {p:Bool} {a:Option Addr} {na ca:Nat} {d:Option Addr} {nd cd:Nat} {r:Rat} {S:Nat} (w:World) (hr:TR w p a na ca d nd cd r S) (hS:S≤7000000) (hS1:1≤S) (ht:t = decide (r.den = 1)) :
 Calls Tryz.prog 31 #[.agg #[.bool p,.slice a na ca,.slice d nd cd]] w fun e w'=>e = .returned (.bool t)∧Below w.heap.size w w':=by
 have P0:=aN w (.bool p) (.slice a na ca) (.slice d nd cd) 27
 have hb0:=aG w (.cells #[.bool p,.slice a na ca,.slice d nd cd] 27)
 have hsz:w.heap.size + 1≤(w.alloc (.cells #[.bool p,.slice a na ca,.slice d nd cd] 27)).heap.size:=by simp
 replace hr:=hr.below hb0
 go_enter Tryz.func31,Tryz.ntmps31
 go_wp2_with fail
 generalize w.alloc (.cells #[.bool p,.slice a na ca,.slice d nd cd] 27) = W0 at *
 obtain ⟨p0c0,p0c1,p0c2,p0c3,p0c4,p0c5⟩:=id P0
 refine (jG _ hr (by omega) hS1).mono ?_
 rintro e w1 ⟨fx,cx,nx,kx,dX,mx,lx,rfl,Gx,hx⟩
 replace Gx:=Gx.mono (B':=w.heap.size + 1) hsz
 clear p0c0 p0c1 p0c2 p0c3 p0c4 p0c5
 replace hr:=hr.below hx
 replace P0:=P0.below hx
 replace hb0:=aB hb0 hx
 replace hsz:=Nat.le_trans hsz (Below.size hx)
 clear hx
 clear P0
 clear hr
 have hx:=aG w1 (.cells #[.bool fx,.slice cx nx kx,.slice dX mx lx] 27)
 replace Gx:=Gx.below hx
 replace hb0:=aB hb0 hx
 replace hsz:=Nat.le_trans hsz (Below.size hx)
 have Vx:=aN w1 (.bool fx) (.slice cx nx kx) (.slice dX mx lx) 27
 clear hx
 obtain ⟨vxc0,vxc1,vxc2,vxc3,vxc4,vxc5⟩:=id Vx
 clear Vx
 generalize hWX:w1.alloc (.cells #[.bool fx,.slice cx nx kx,.slice dX mx lx] 27) = wX at *
 have hone:=Gx.2.one
 by_cases hm:mx = 1
 ·subst hm
  obtain ⟨g1,v,rfl,hc,hv⟩:=hone.1 rfl
  by_cases h1:v = 1
  ·subst h1
   have HT:Hid (t = true):=by show _ = _;rw [ht,decide_eq_true_iff];omega
   clear hone hv Gx
   go_wp2
   go_ret
   exact ⟨by rw [HT.out];rfl,hb0⟩
  ·have HT:Hid (t = false):=by show _ = _;rw [ht,decide_eq_false_iff_not];omega
   clear hone hv Gx
   go_wp2
   go_ret
   exact ⟨by rw [HT.out];first | rfl | simp [h1],hb0⟩
 ·have HT:Hid (t = false):=by
   show _ = _;rw [ht,decide_eq_false_iff_not];intro h;exact hm (hone.2 (by omega))
  have hmI:((mx:Int) == 1) = false:=by simp;omega
  clear hone Gx
  go_wp2
  go_ret
  exact ⟨by rw [HT.out];rfl,hb0⟩
end Go.Proofs.YtnokmjmefipplaaGreatDoor

import Derived.Test.YtmeimjakdheidaaGreatDoorRatAll
import Derived.Test.YtmeimjakdheidaaGreatDoorLentAll
import Derived.Test.YtmeimjakdheidaaGreatDoorPqFAll
import Derived.Test.YtmeimjakdheidaaGreatDoorQAll
import Derived.Test.YtmeimjakdheidaaGreatDoorQ3OAll
namespace Go.Proofs.YtmeimjakdheidaaGreatDoor
open Go.RowKit
def xat (X:Nat→Rat) (n:Nat) (i:Int):Rat:=if 0≤i∧i<(n:Int) then X i.toNat else 0
set_option maxHeartbeats 4000000 in
theorem atD {xa:Option Addr} {n xc:Nat} {X:Nat→Rat} {Z:Nat→Nat} {S:Nat} (i:Int) (w:World) (hx:LQ w xa n X Z) (hz:∀ j,j<n→1≤Z j∧Z j≤S) (hS:1≤S∧S≤7000000) :
 Calls Tryz.prog 35 #[.slice xa n xc,.int .i64 i] w fun e w'=>∃ f c m k c' m' k',e = .returned (.agg #[.bool f,.slice c m k,.slice c' m' k'])∧GR w' w.heap.size f c m k c' m' k' (xat X n i) S∧Below w.heap.size w w':=by
 have R0:=aU w (.bool false) (.slice none 0 0) (.slice none 0 0) 27
 have hb0:=aI w (.cells #[.bool false,.slice none 0 0,.slice none 0 0] 27)
 have hsz:w.heap.size+1≤(w.alloc (.cells #[.bool false,.slice none 0 0,.slice none 0 0] 27)).heap.size:=by simp
 by_cases hi:0≤i∧i<(n:Int)
 ·obtain ⟨q,rfl⟩:∃ q:Nat,i=(q:Int):=⟨i.toNat,by omega⟩
  have hq:q<n:=by omega
  have h1:¬ (q:Int)<0:=by omega
  have h2:¬ (n:Int)≤(q:Int):=by omega
  have h3:(q:Int)<(n:Int):=by omega
  have hkI3:(q:Int)*3=((q*3:Nat):Int):=by omega
  have ex:xat X n (q:Int)=X q:=by unfold xat;rw [if_pos hi];rfl
  rcases hx with h0|⟨b,o,rfl,hel⟩
  ·omega
  obtain ⟨p,a,na,ca,d,nd,cd,c0,c1,c2,hr⟩:=hel q hq
  replace c0:=aG hb0 c0
  replace c1:=aG hb0 c1
  replace c2:=aG hb0 c2
  replace hr:=hr.below hb0
  obtain ⟨z1,z2⟩:=hz q hq
  rw [ex]
  clear ex hel hi
  go_enter Tryz.func35,Tryz.ntmps35
  go_wp2_with fail
  generalize w.alloc (.cells #[.bool false,.slice none 0 0,.slice none 0 0] 27)=W0 at *
  refine (oV _ hr (by omega) z1).mono ?_
  rintro e w3 ⟨f5,c5,n5,k5,d5,m5,l5,rfl,G5,hx⟩
  replace G5:=(G5.mono (B':=w.heap.size+1) hsz).le z2
  replace R0:=R0.below hx
  replace hb0:=aF hb0 hx
  obtain ⟨r0c0,r0c1,r0c2,r0c3,r0c4,r0c5⟩:=id R0
  obtain ⟨RN,O⟩:=R0.set (.bool f5) (.slice c5 n5 k5) (.slice d5 m5 l5)
  have GN:=(G5.off O (by omega)).mono (B':=w.heap.size) (by omega)
  have BN:=hb0.trans (O.below (Nat.le_refl _))
  clear c0 c1 c2 hx
  go_wp2
  exact bodyPost_ret (v:=.agg #[.bool f5,.slice c5 n5 k5,.slice d5 m5 l5]) (by simp [results,Tryz.results35,go_sem,RN.c0,RN.c1,RN.c2]) rfl ⟨_,_,_,_,_,_,_,rfl,GN,BN⟩
 ·have ex:xat X n i=((0:Int):Rat):=by unfold xat;rw [if_neg hi];rfl
  rw [ex]
  clear ex
  by_cases hn:i<0
  rotate_left
  focus
   have hn2:(n:Int)≤i:=by omega
  rotate_left
  all_goals
   go_enter Tryz.func35,Tryz.ntmps35
   go_wp2_with fail
   generalize w.alloc (.cells #[.bool false,.slice none 0 0,.slice none 0 0] 27)=W0 at *
   refine (ofD 0 _ (by decide) (by decide)).mono ?_
   rintro e w3 ⟨f5,c5,n5,k5,d5,m5,l5,rfl,G5,hx⟩
   replace G5:=(G5.mono (B':=w.heap.size+1) hsz).le hS.1
   replace R0:=R0.below hx
   replace hb0:=aF hb0 hx
   obtain ⟨r0c0,r0c1,r0c2,r0c3,r0c4,r0c5⟩:=id R0
   obtain ⟨RN,O⟩:=R0.set (.bool f5) (.slice c5 n5 k5) (.slice d5 m5 l5)
   have GN:=(G5.off O (by omega)).mono (B':=w.heap.size) (by omega)
   have BN:=hb0.trans (O.below (Nat.le_refl _))
   clear hx
   go_wp2
   exact bodyPost_ret (v:=.agg #[.bool f5,.slice c5 n5 k5,.slice d5 m5 l5]) (by simp [results,Tryz.results35,go_sem,RN.c0,RN.c1,RN.c2]) rfl ⟨_,_,_,_,_,_,_,rfl,GN,BN⟩
end Go.Proofs.YtmeimjakdheidaaGreatDoor

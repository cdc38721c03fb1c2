import Derived.Test.YtnokmjmefipplaaGreatDoorPsB
import Derived.Test.YtnokmjmefipplaaGreatDoorQAll
import Derived.Test.YtnokmjmefipplaaGreatDoorQ3Iw
import Derived.Test.YtnokmjmefipplaaGreatDoorQ3OAll
import Derived.Test.YtnokmjmefipplaaGreatDoorGuardS
import Derived.Test.YtnokmjmefipplaaGreatDoorRlAll
import Derived.Test.YtnokmjmefipplaaGreatDoorPqDAll
import Derived.Test.YtnokmjmefipplaaGreatDoorPqF
set_option maxRecDepth 100000
set_option maxHeartbeats 16000000
namespace Go.Proofs.YtnokmjmefipplaaGreatDoor
open Go.RowKit
theorem aC1 (r lo hi:Rat):eF r false lo true hi = decide (cs r hi≤0):=by
 unfold eF
 by_cases h:cs r hi≤0
 ·have h2:¬ 0 < cs r hi:=by omega
  simp [h,h2]
 ·have h2:0 < cs r hi:=by omega
  simp [h,h2]
theorem aF9 {r lo hi:Rat} (hc:¬ cs r lo < 0):eF r true lo true hi = decide (cs r hi≤0):=by
 rw [← aC1 r lo hi]
 unfold eF
 simp [hc]
theorem aC2 {p:Bool} {a:Option Addr} {na ca:Nat} {d:Option Addr} {nd cd:Nat} {r:Rat} {S:Nat} {hlo pl:Bool} {al:Option Addr} {nl cl:Nat} {dl:Option Addr} {ml ll:Nat} {lo:Rat} {hhi ph:Bool} {ah:Option Addr} {nh ch:Nat} {dh:Option Addr} {mh lh:Nat} {hi:Rat} {R:Nat} (w:World)
 (hr:TR w p a na ca d nd cd r S) (hl:TR w pl al nl cl dl ml ll lo R) (hh:TR w ph ah nh ch dh mh lh hi R) (hSR:S + R≤6000000) (hS1:1≤S) (hR1:1≤R) :
 Calls Tryz.prog 29 #[.agg #[.bool p,.slice a na ca,.slice d nd cd],.agg #[.bool hlo,.bool pl,.slice al nl cl,.slice dl ml ll],.agg #[.bool hhi,.bool ph,.slice ah nh ch,.slice dh mh lh]] w fun e w'=>e = .returned (.bool (eF r hlo lo hhi hi))∧Below w.heap.size w w':=by
 obtain ⟨P0,P1,P2,hb,hs⟩:=iT w #[.bool p,.slice a na ca,.slice d nd cd] 27 #[.bool hlo,.bool pl,.slice al nl cl,.slice dl ml ll] 43 #[.bool hhi,.bool ph,.slice ah nh ch,.slice dh mh lh] 43
 have a0:=P0 0 _ rfl
 have a1:=P0 1 _ rfl
 have a2:=P0 2 _ rfl
 have b0:=P1 0 _ rfl
 have b1:=P1 1 _ rfl
 have b2:=P1 2 _ rfl
 have b3:=P1 3 _ rfl
 have c0:=P2 0 _ rfl
 have c1:=P2 1 _ rfl
 have c2:=P2 2 _ rfl
 have c3:=P2 3 _ rfl
 clear P0 P1 P2
 replace hr:=hr.below hb
 replace hl:=hl.below hb
 replace hh:=hh.below hb
 go_enter Tryz.func29,Tryz.ntmps29
 cases hlo
 ·cases hhi
  ·go_wp2
   go_ret
   exact ⟨by simp [eF],hb⟩
  ·go_wp2_with fail
   generalize ((w.alloc (.cells #[.bool p,.slice a na ca,.slice d nd cd] 27)).alloc (.cells #[.bool false,.bool pl,.slice al nl cl,.slice dl ml ll] 43)).alloc (.cells #[.bool true,.bool ph,.slice ah nh ch,.slice dh mh lh] 43) = W at *
   refine (cmpD (cs r hi) W hr hh (by omega) (by omega) (by omega) rfl).mono ?_
   rintro e w1 ⟨rfl,h1⟩
   have hb1:=aB hb h1
   go_wp2
   go_ret
   exact ⟨by rw [aC1];simp,hb1⟩
 ·cases hhi
  ·go_wp2_with fail
   generalize ((w.alloc (.cells #[.bool p,.slice a na ca,.slice d nd cd] 27)).alloc (.cells #[.bool true,.bool pl,.slice al nl cl,.slice dl ml ll] 43)).alloc (.cells #[.bool false,.bool ph,.slice ah nh ch,.slice dh mh lh] 43) = W at *
   refine (cmpD (cs r lo) W hr hl (by omega) (by omega) (by omega) rfl).mono ?_
   rintro e w1 ⟨rfl,h1⟩
   have hb1:=aB hb h1
   replace c0:=aF h1 c0
   by_cases hc:cs r lo < 0
   ·go_wp2
    go_ret
    exact ⟨by simp [eF,hc],hb1⟩
   ·go_wp2
    go_ret
    exact ⟨by simp [eF,hc],hb1⟩
  ·go_wp2_with fail
   generalize ((w.alloc (.cells #[.bool p,.slice a na ca,.slice d nd cd] 27)).alloc (.cells #[.bool true,.bool pl,.slice al nl cl,.slice dl ml ll] 43)).alloc (.cells #[.bool true,.bool ph,.slice ah nh ch,.slice dh mh lh] 43) = W at *
   refine (cmpD (cs r lo) W hr hl (by omega) (by omega) (by omega) rfl).mono ?_
   rintro e w1 ⟨rfl,h1⟩
   have hb1:=aB hb h1
   replace a0:=aF h1 a0
   replace a1:=aF h1 a1
   replace a2:=aF h1 a2
   replace c0:=aF h1 c0
   replace c1:=aF h1 c1
   replace c2:=aF h1 c2
   replace c3:=aF h1 c3
   replace hr:=hr.below h1
   replace hh:=hh.below h1
   by_cases hc:cs r lo < 0
   ·go_wp2
    go_ret
    exact ⟨by simp [eF,hc],hb1⟩
   ·go_wp2_with fail
    refine (cmpD (cs r hi) w1 hr hh (by omega) (by omega) (by omega) rfl).mono ?_
    rintro e w2 ⟨rfl,h2⟩
    replace hb1:=aB hb1 h2
    go_wp2
    go_ret
    exact ⟨by rw [aF9 (by omega)];simp,hb1⟩
theorem aC3 (P:Prob) {xa:Option Addr} {n xc:Nat} {X:Nat→Rat} {Z:Nat→Nat} (w:World) (hP:PQ w P) (hx:LQ w xa n X Z) (hz0:∀ j,j < n→1≤Z j∧Z j≤6000000) (hK:P.K≤1048576) :
 Calls Tryz.prog 13 #[P.val,.slice xa n xc] w fun e w'=>∃ b,e = .returned (.bool b)∧(b = true↔Whl P n X)∧Below w.heap.size w w':=by
 have HZ0:Hid (∀ j,j < n→1≤Z j∧Z j≤6000000):=hz0
 have hvn:P.vn≤1048576:=by have:=hP.all;have:=aT P.ZV P.vn;omega
 clear hz0
 unfold Prob.val
 have Pb:=aJ w #[.bool P.mx,.string P.nm,.bool P.p,.slice P.a P.na P.ca,.slice P.d P.nd P.cd,.slice P.va P.vn P.vc,.slice P.ra P.rn P.rc] 31
 have hb:=aG w (.cells #[.bool P.mx,.string P.nm,.bool P.p,.slice P.a P.na P.ca,.slice P.d P.nd P.cd,.slice P.va P.vn P.vc,.slice P.ra P.rn P.rc] 31)
 by_cases hnv:n = P.vn
 ·subst hnv
  have p5:=Pb 5 _ rfl
  go_enter Tryz.func13,Tryz.ntmps13
  go_wp2
  generalize w.alloc (.cells #[.bool P.mx,.string P.nm,.bool P.p,.slice P.a P.na P.ca,.slice P.d P.nd P.cd,.slice P.va P.vn P.vc,.slice P.ra P.rn P.rc] 31) = W at *
  clear p5
  go_loopw [5] (fun s5 wr=>∃ (i:Nat),i≤P.vn∧s5 = .int .i64 i∧(∀ j,j < i→(P.V j).whole = true→(X j).den = 1)∧Below w.heap.size w wr∧Below W.heap.size W wr) (fun s5 _=>P.vn - (intOf s5).toNat)
  case atStart=>exact ⟨0,Nat.zero_le _,rfl,fun j hj=>by omega,hb,Below.refl _ _⟩
  case round =>
   obtain ⟨i,hi,rfl,HY,hbel,hbw⟩:=hrel
   have p5:=(Pb.below hbw) 5 _ rfl
   by_cases hlt:i < P.vn
   ·have hkI:(i:Int) < (P.vn:Int):=by omega
    rcases (hx.below hbel) with h0 | ⟨bx,ox,rfl,helx⟩
    ·omega
    obtain ⟨pA,aA,nA,cA,dA,mA,lA,c0,c1,c2,hA⟩:=helx i (by omega)
    rcases (hP.v.below hbel) with h0 | ⟨bv,ov,hva,hev⟩
    ·omega
    have r12:=(hev i hlt).whole
    obtain ⟨hzi1,hzi2⟩:=HZ0.out i (by omega)
    obtain ⟨wh,ewh⟩:∃ wh,wh = (P.V i).whole:=⟨_,rfl⟩
    rw [← ewh] at r12
    have HE:Hid (wh = (P.V i).whole):=ewh
    have hkI2:(i:Int) * 13 = ((i * 13:Nat):Int):=by omega
    have hkI3:(i:Int) * 3 = ((i * 3:Nat):Int):=by omega
    rw [hva] at p5
    clear hev ewh hva helx
    cases wh
    ·have HY':∀ j,j < i + 1→(P.V j).whole = true→(X j).den = 1:=by
      intro j hj hw
      rcases (by omega:j < i∨j = i) with h | rfl
      ·exact HY j h hw
      ·rw [← HE.out] at hw;cases hw
     clear HY HE
     go_wp2
     go_roundw
     case rel=>first | exact ⟨i + 1,by omega,by go_num,HY',hbel,hbw⟩ | ((repeat apply Exists.intro);refine ⟨?_,rfl⟩;exact ⟨i + 1,by omega,by go_num,HY',hbel,hbw⟩)
     case measure=>simp [intOf];omega
    ·obtain ⟨bq,ebq⟩:∃ bq,bq = decide ((X i).den = 1):=⟨_,rfl⟩
     have EB:Hid (bq = decide ((X i).den = 1)):=ebq
     go_wp2_with fail
     refine (aF8 bq _ hA (by omega) (by omega) EB.out).mono ?_
     rintro e v1 ⟨rfl,hb1⟩
     replace hbel:=aB hbel hb1
     replace hbw:=aB hbw hb1
     clear ebq c0 c1 c2 r12 hb1 hA p5
     cases bq
     ·go_wp2
      go_ret
      refine ⟨false,rfl,⟨(fun h=>by cases h),fun h=>?_⟩,hbel⟩
      have h2:=h.2 i hlt HE.out.symm
      have h3:=EB.out
      rw [decide_eq_true h2] at h3
      cases h3
     ·have HY':∀ j,j < i + 1→(P.V j).whole = true→(X j).den = 1:=by
       intro j hj hw
       rcases (by omega:j < i∨j = i) with h | rfl
       ·exact HY j h hw
       ·exact of_decide_eq_true EB.out.symm
      clear HY
      go_wp2
      go_roundw
      case rel=>first | exact ⟨i + 1,by omega,by go_num,HY',hbel,hbw⟩ | ((repeat apply Exists.intro);refine ⟨?_,rfl⟩;exact ⟨i + 1,by omega,by go_num,HY',hbel,hbw⟩)
      case measure=>simp [intOf];omega
   ·have hkI:¬ (i:Int) < (P.vn:Int):=by omega
    obtain rfl:i = P.vn:=by omega
    go_wp2
    go_ret
    exact .inr ⟨rfl,⟨rfl,HY⟩,hbel⟩
 ·have hnI:¬ ((n:Int) = (P.vn:Int)):=by omega
  have p5:=Pb 5 _ rfl
  go_enter Tryz.func13,Tryz.ntmps13
  go_wp2
  go_ret
  exact .inl ⟨rfl,fun h=>hnv h.1,hb⟩
def xat (X:Nat→Rat) (n:Nat) (i:Int):Rat:=if 0≤i∧i < (n:Int) then X i.toNat else 0
theorem atD {xa:Option Addr} {n xc:Nat} {X:Nat→Rat} {Z:Nat→Nat} {S:Nat} (i:Int) (w:World) (hx:LQ w xa n X Z) (hz:∀ j,j < n→1≤Z j∧Z j≤S) (hS:1≤S∧S≤7000000) :
 Calls Tryz.prog 36 #[.slice xa n xc,.int .i64 i] w fun e w'=>∃ f c m k c' m' k',e = .returned (.agg #[.bool f,.slice c m k,.slice c' m' k'])∧GR w' w.heap.size f c m k c' m' k' (xat X n i) S∧Below w.heap.size w w':=by
 have R0:=aN w (.bool false) (.slice none 0 0) (.slice none 0 0) 27
 have hb0:=aG w (.cells #[.bool false,.slice none 0 0,.slice none 0 0] 27)
 have hsz:w.heap.size + 1≤(w.alloc (.cells #[.bool false,.slice none 0 0,.slice none 0 0] 27)).heap.size:=by simp
 by_cases hi:0≤i∧i < (n:Int)
 ·obtain ⟨q,rfl⟩:∃ q:Nat,i = (q:Int):=⟨i.toNat,by omega⟩
  have hq:q < n:=by omega
  have h1:¬ (q:Int) < 0:=by omega
  have h2:¬ (n:Int)≤(q:Int):=by omega
  have h3:(q:Int) < (n:Int):=by omega
  have hkI3:(q:Int) * 3 = ((q * 3:Nat):Int):=by omega
  have ex:xat X n (q:Int) = X q:=by unfold xat;rw [if_pos hi];rfl
  rcases hx with h0 | ⟨b,o,rfl,hel⟩
  ·omega
  obtain ⟨p,a,na,ca,d,nd,cd,c0,c1,c2,hr⟩:=hel q hq
  replace c0:=aF hb0 c0
  replace c1:=aF hb0 c1
  replace c2:=aF hb0 c2
  replace hr:=hr.below hb0
  obtain ⟨z1,z2⟩:=hz q hq
  rw [ex]
  clear ex hel hi
  go_enter Tryz.func36,Tryz.ntmps36
  go_wp2_with fail
  generalize w.alloc (.cells #[.bool false,.slice none 0 0,.slice none 0 0] 27) = W0 at *
  refine (jG _ hr (by omega) z1).mono ?_
  rintro e w3 ⟨f5,c5,n5,k5,d5,m5,l5,rfl,G5,hx⟩
  replace G5:=(G5.mono (B':=w.heap.size + 1) hsz).le z2
  replace R0:=R0.below hx
  replace hb0:=aB hb0 hx
  obtain ⟨r0c0,r0c1,r0c2,r0c3,r0c4,r0c5⟩:=id R0
  obtain ⟨RN,O⟩:=R0.set (.bool f5) (.slice c5 n5 k5) (.slice d5 m5 l5)
  have GN:=(G5.off O (by omega)).mono (B':=w.heap.size) (by omega)
  have BN:=hb0.trans (O.below (Nat.le_refl _))
  clear c0 c1 c2 hx
  go_wp2
  exact bodyPost_ret (v:=.agg #[.bool f5,.slice c5 n5 k5,.slice d5 m5 l5]) (by simp [results,Tryz.results36,go_sem,RN.c0,RN.c1,RN.c2]) rfl ⟨_,_,_,_,_,_,_,rfl,GN,BN⟩
 ·have ex:xat X n i = ((0:Int):Rat):=by unfold xat;rw [if_neg hi];rfl
  rw [ex]
  clear ex
  by_cases hn:i < 0
  ·go_enter Tryz.func36,Tryz.ntmps36
   go_wp2_with fail
   generalize w.alloc (.cells #[.bool false,.slice none 0 0,.slice none 0 0] 27) = W0 at *
   refine (ofD 0 _ (by decide) (by decide)).mono ?_
   rintro e w3 ⟨f5,c5,n5,k5,d5,m5,l5,rfl,G5,hx⟩
   replace G5:=(G5.mono (B':=w.heap.size + 1) hsz).le hS.1
   replace R0:=R0.below hx
   replace hb0:=aB hb0 hx
   obtain ⟨r0c0,r0c1,r0c2,r0c3,r0c4,r0c5⟩:=id R0
   obtain ⟨RN,O⟩:=R0.set (.bool f5) (.slice c5 n5 k5) (.slice d5 m5 l5)
   have GN:=(G5.off O (by omega)).mono (B':=w.heap.size) (by omega)
   have BN:=hb0.trans (O.below (Nat.le_refl _))
   clear hx
   go_wp2
   exact bodyPost_ret (v:=.agg #[.bool f5,.slice c5 n5 k5,.slice d5 m5 l5]) (by simp [results,Tryz.results36,go_sem,RN.c0,RN.c1,RN.c2]) rfl ⟨_,_,_,_,_,_,_,rfl,GN,BN⟩
  ·have hn2:(n:Int)≤i:=by omega
   go_enter Tryz.func36,Tryz.ntmps36
   go_wp2_with fail
   generalize w.alloc (.cells #[.bool false,.slice none 0 0,.slice none 0 0] 27) = W0 at *
   refine (ofD 0 _ (by decide) (by decide)).mono ?_
   rintro e w3 ⟨f5,c5,n5,k5,d5,m5,l5,rfl,G5,hx⟩
   replace G5:=(G5.mono (B':=w.heap.size + 1) hsz).le hS.1
   replace R0:=R0.below hx
   replace hb0:=aB hb0 hx
   obtain ⟨r0c0,r0c1,r0c2,r0c3,r0c4,r0c5⟩:=id R0
   obtain ⟨RN,O⟩:=R0.set (.bool f5) (.slice c5 n5 k5) (.slice d5 m5 l5)
   have GN:=(G5.off O (by omega)).mono (B':=w.heap.size) (by omega)
   have BN:=hb0.trans (O.below (Nat.le_refl _))
   clear hx
   go_wp2
   exact bodyPost_ret (v:=.agg #[.bool f5,.slice c5 n5 k5,.slice d5 m5 l5]) (by simp [results,Tryz.results36,go_sem,RN.c0,RN.c1,RN.c2]) rfl ⟨_,_,_,_,_,_,_,rfl,GN,BN⟩
def xn (X:Nat→Rat) (n j:Nat):Rat:=if j < n then X j else 0
theorem xC (X:Nat→Rat) (n j:Nat):xat X n (j:Int) = xn X n j:=by
 unfold xat xn
 by_cases h:j < n
 ·rw [if_pos h,if_pos ⟨by omega,by omega⟩];rfl
 ·rw [if_neg h,if_neg (by omega)]
theorem aG0 (P:Prob) {xa:Option Addr} {n xc:Nat} {X:Nat→Rat} {Z:Nat→Nat} {S T U:Nat} (w:World) (hP:PQ w P) (hx:LQ w xa n X Z) (hz:∀ j,j < n→1≤Z j∧Z j≤U) (hU:1≤U∧U≤7000000) (hS:∀ j,j < P.vn→P.ZV j + U≤S) (hPS:P.S≤6000000) (hST:T + S≤5999999) (hT1:1≤T) (hvn:P.vn≤1048576)
 (hsz:∀ j,j≤P.vn + 1→SzR (aQ (prt P.k P.V (xn X n)) j) T) :
 Calls Tryz.prog 15 #[P.val,.slice xa n xc] w fun e w'=>∃ f c n1 k1 c' n' k',e = .returned (.agg #[.bool f,.slice c n1 k1,.slice c' n' k'])∧GR w' w.heap.size f c n1 k1 c' n' k' (aQ (prt P.k P.V (xn X n)) (P.vn + 1)) T∧Below w.heap.size w w':=by
 have HS:Hid (∀ j,j≤P.vn + 1→SzR (aQ (prt P.k P.V (xn X n)) j) T):=hsz
 clear hsz
 unfold Prob.val
 have Pb:=aJ w #[.bool P.mx,.string P.nm,.bool P.p,.slice P.a P.na P.ca,.slice P.d P.nd P.cd,.slice P.va P.vn P.vc,.slice P.ra P.rn P.rc] 31
 have R0:=aN (w.alloc (.cells #[.bool P.mx,.string P.nm,.bool P.p,.slice P.a P.na P.ca,.slice P.d P.nd P.cd,.slice P.va P.vn P.vc,.slice P.ra P.rn P.rc] 31)) (.bool false) (.slice none 0 0) (.slice none 0 0) 27
 have hb0:=aB (aG w (.cells #[.bool P.mx,.string P.nm,.bool P.p,.slice P.a P.na P.ca,.slice P.d P.nd P.cd,.slice P.va P.vn P.vc,.slice P.ra P.rn P.rc] 31)) (aG (w.alloc (.cells #[.bool P.mx,.string P.nm,.bool P.p,.slice P.a P.na P.ca,.slice P.d P.nd P.cd,.slice P.va P.vn P.vc,.slice P.ra P.rn P.rc] 31)) (.cells #[.bool false,.slice none 0 0,.slice none 0 0] 27))
 have hsA:(w.alloc (.cells #[.bool P.mx,.string P.nm,.bool P.p,.slice P.a P.na P.ca,.slice P.d P.nd P.cd,.slice P.va P.vn P.vc,.slice P.ra P.rn P.rc] 31)).heap.size = w.heap.size + 1:=by simp
 have hsB:((w.alloc (.cells #[.bool P.mx,.string P.nm,.bool P.p,.slice P.a P.na P.ca,.slice P.d P.nd P.cd,.slice P.va P.vn P.vc,.slice P.ra P.rn P.rc] 31)).alloc (.cells #[.bool false,.slice none 0 0,.slice none 0 0] 27)).heap.size = w.heap.size + 2:=by simp
 replace Pb:=Pb.below (aG (w.alloc (.cells #[.bool P.mx,.string P.nm,.bool P.p,.slice P.a P.na P.ca,.slice P.d P.nd P.cd,.slice P.va P.vn P.vc,.slice P.ra P.rn P.rc] 31)) (.cells #[.bool false,.slice none 0 0,.slice none 0 0] 27))
 rw [hsA] at R0
 have p2:=Pb 2 _ rfl
 have p3:=Pb 3 _ rfl
 have p4:=Pb 4 _ rfl
 go_enter Tryz.func15,Tryz.ntmps15
 go_wp2_with fail
 generalize (w.alloc (.cells #[.bool P.mx,.string P.nm,.bool P.p,.slice P.a P.na P.ca,.slice P.d P.nd P.cd,.slice P.va P.vn P.vc,.slice P.ra P.rn P.rc] 31)).alloc (.cells #[.bool false,.slice none 0 0,.slice none 0 0] 27) = W0 at *
 refine (jG _ (hP.k.below hb0) (by omega) hP.s1).mono ?_
 rintro e w1 ⟨f0,c0,n0,k0,d0,m0,l0,rfl,G0,hx1⟩
 have hs1:=Below.size hx1
 replace G0:=(((G0.mono (B':=w.heap.size + 2) (by omega)).val (show P.k = aQ (prt P.k P.V (xn X n)) 1 from (Rat.zero_add _).symm)).fit (HS.out 1 (by omega))).gx (R:=w1.heap.size) (.inr (Nat.le_refl _))
 replace R0:=R0.below hx1
 replace Pb:=Pb.below hx1
 replace hb0:=aB hb0 hx1
 clear hx1 p2 p3 p4 hsA
 have hz1:=aG w1 (.cells #[.bool f0,.slice c0 n0 k0,.slice d0 m0 l0] 27)
 have V0:=aN w1 (.bool f0) (.slice c0 n0 k0) (.slice d0 m0 l0) 27
 have hs2:(w1.alloc (.cells #[.bool f0,.slice c0 n0 k0,.slice d0 m0 l0] 27)).heap.size = w1.heap.size + 1:=by simp
 replace G0:=G0.below hz1
 replace R0:=R0.below hz1
 replace Pb:=Pb.below hz1
 replace hb0:=aB hb0 hz1
 clear hz1
 go_wp2
 generalize w1.alloc (.cells #[.bool f0,.slice c0 n0 k0,.slice d0 m0 l0] 27) = W1 at *
 go_loopw [6] (fun s wr=>∃ (i:Nat) (f:Bool) (c:Option Addr) (n1 k1:Nat) (d:Option Addr) (m l:Nat),i≤P.vn∧s = .int .i64 i∧Var3 wr w1.heap.size (.bool f) (.slice c n1 k1) (.slice d m l)∧GX wr (w.heap.size + 2) w1.heap.size f c n1 k1 d m l (aQ (prt P.k P.V (xn X n)) (i + 1)) T∧Var3 wr (w.heap.size + 1) (.bool false) (.slice none 0 0) (.slice none 0 0)∧BoxC wr w.heap.size (#[.bool P.mx,.string P.nm,.bool P.p,.slice P.a P.na P.ca,.slice P.d P.nd P.cd,.slice P.va P.vn P.vc,.slice P.ra P.rn P.rc]).toList∧Below w.heap.size w wr∧w1.heap.size + 1≤wr.heap.size) (fun t _=>P.vn - (intOf t).toNat)
 case atStart=>exact ⟨0,_,_,_,_,_,_,_,Nat.zero_le _,rfl,V0,G0,R0,Pb,hb0,by omega⟩
 case round =>
  obtain ⟨i,f,c,n1,k1,d,m,l,hi,rfl,V,G,R,Pb,hbel,hsw2⟩:=hrel
  clear V0 G0 R0 hb0
  have q5:=Pb 5 _ rfl
  by_cases hlt:i < P.vn
  ·have hkI:(i:Int) < (P.vn:Int):=by omega
   have hSi:=hS i hlt
   rcases (hP.v.below hbel) with h0 | ⟨bv,ov,hva,hev⟩
   ·omega
   have hV:=hev i hlt
   obtain ⟨pO,aO,nO,cO,dO,mO,lO,v0,v1,v2,hO⟩:=hV.obj
   have hs1v:=hV.s1
   have hkI3:(i:Int) * 13 = ((i * 13:Nat):Int):=by omega
   rw [hva] at q5
   obtain ⟨s0,s1,s2,_,_,_⟩:=id V
   have hxr:=hx.below hbel
   have HS1:Hid (SzR (aQ (prt P.k P.V (xn X n)) (i + 1) + (P.V i).obj * xat X n (i:Int)) T):=by rw [xC];exact HS.out (i + 2) (by omega)
   have HBX:∀ w',Below wr.heap.size wr w'→(w'.cell? ⟨w1.heap.size,0,none⟩ = some (.bool f)∧w'.cell? ⟨w1.heap.size,1,none⟩ = some (.slice c n1 k1)∧w'.cell? ⟨w1.heap.size,2,none⟩ = some (.slice d m l)∧w'.cell? ⟨w.heap.size,5,none⟩ = some (.slice (some ⟨bv,ov,none⟩) P.vn P.vc)∧w'.cell? ⟨bv,ov + i * 13 + 1,none⟩ = some (.bool pO)∧w'.cell? ⟨bv,ov + i * 13 + 1 + 1,none⟩ = some (.slice aO nO cO)∧w'.cell? ⟨bv,ov + i * 13 + 1 + 2,none⟩ = some (.slice dO mO lO)):=fun w' h=>⟨aF h s0,aF h s1,aF h s2,aF h q5,aF h v0,aF h v1,aF h v2⟩
   clear hev hV hva
   go_wp2_with fail
   refine wp_region_noPanic (aU 12 HBX (by kernel_rfl) ?_)
   have hc0:Below wr.heap.size wr wr.drew:=aK _
   generalize wr.drew = z0 at *
   refine wpAnyG.tT 0 (v:=.agg #[.bool f,.slice c n1 k1,.slice d m l]) (by decide) 12 (by kernel_rfl) (by rfl) ?y0 (HBX _ hc0) ?_
   case y0 =>
    rintro w' ⟨q0,q1,q2,q3,q4,q5,q6⟩
    simp only [lgA,lgZ]
    go_simp
   simp only [lgA,lgZ,Act.put,lsA,lsZ,lsS]
   refine wpAnyG.tT 1 (v:=.pointer (some ⟨w.heap.size,5,none⟩)) (by decide) 12 (by kernel_rfl) (by rfl) ?y1 (HBX _ hc0) ?_
   case y1 =>
    rintro w' ⟨q0,q1,q2,q3,q4,q5,q6⟩
    simp only [lgA,lgZ,lgS]
    go_simp
   simp only [lgA,lgZ,lgS,Act.put,lsA,lsZ,lsS]
   refine wpAnyG.tT 2 (v:=.slice (some ⟨bv,ov,none⟩) P.vn P.vc) (by decide) 12 (by kernel_rfl) (by rfl) ?y2 (HBX _ hc0) ?_
   case y2 =>
    rintro w' ⟨q0,q1,q2,q3,q4,q5,q6⟩
    simp only [lgA,lgZ,lgS]
    go_simp
   simp only [lgA,lgZ,lgS,Act.put,lsA,lsZ,lsS]
   refine wpAnyG.tT 3 (v:=.int .i64 (i:Int)) (by decide) 12 (by kernel_rfl) (by rfl) ?y3 (HBX _ hc0) ?_
   case y3 =>
    rintro w' ⟨q0,q1,q2,q3,q4,q5,q6⟩
    simp only [lgA,lgZ,lgS]
    go_simp
   simp only [lgA,lgZ,lgS,Act.put,lsA,lsZ,lsS]
   refine wpAnyG.tT 4 (v:=.pointer (some ⟨bv,ov + i * 13,none⟩)) (by decide) 12 (by kernel_rfl) (by rfl) ?y4 (HBX _ hc0) ?_
   case y4 =>
    rintro w' ⟨q0,q1,q2,q3,q4,q5,q6⟩
    simp only [lgA,lgZ,lgS]
    go_simp
   simp only [lgA,lgZ,lgS,Act.put,lsA,lsZ,lsS]
   refine wpAnyG.tT 5 (v:=.pointer (some ⟨bv,ov + i * 13 + 1,none⟩)) (by decide) 12 (by kernel_rfl) (by rfl) ?y5 (HBX _ hc0) ?_
   case y5 =>
    rintro w' ⟨q0,q1,q2,q3,q4,q5,q6⟩
    simp only [lgA,lgZ,lgS]
    go_simp
   simp only [lgA,lgZ,lgS,Act.put,lsA,lsZ,lsS]
   refine wpAnyG.tT 6 (v:=.agg #[.bool pO,.slice aO nO cO,.slice dO mO lO]) (by decide) 12 (by kernel_rfl) (by rfl) ?y6 (HBX _ hc0) ?_
   case y6 =>
    rintro w' ⟨q0,q1,q2,q3,q4,q5,q6⟩
    simp only [lgA,lgZ,lgS]
    go_simp
   simp only [lgA,lgZ,lgS,Act.put,lsA,lsZ,lsS]
   refine wpAnyG.tT 7 (v:=.slice xa n xc) (by decide) 12 (by kernel_rfl) (by rfl) ?y7 (HBX _ hc0) ?_
   case y7 =>
    rintro w' ⟨q0,q1,q2,q3,q4,q5,q6⟩
    simp only [lgA,lgZ,lgS]
    go_simp
   simp only [lgA,lgZ,lgS,Act.put,lsA,lsZ,lsS]
   refine wpAnyG.tT 8 (v:=.int .i64 (i:Int)) (by decide) 12 (by kernel_rfl) (by rfl) ?y8 (HBX _ hc0) ?_
   case y8 =>
    rintro w' ⟨q0,q1,q2,q3,q4,q5,q6⟩
    simp only [lgA,lgZ,lgS]
    go_simp
   simp only [lgA,lgZ,lgS,Act.put,lsA,lsZ,lsS]
   refine wpAnyG.one 9 (by kernel_rfl) (by decide) (by rfl) (fun K hK=>?_)
   simp only [lgA,lgZ,lgS]
   go_simp
   refine (atD (S:=U) (i:Int) z0 (hxr.below hc0) hz hU).mono ?_
   rintro e z1 ⟨g1,u1,i1,j1,o1,t1,x1,rfl,G1,hk1⟩
   have hc1:Below wr.heap.size wr z1:=aB hc0 hk1
   dsimp only
   refine hK _ _ ⟨fun _=>HBX _ hc1,fun _=>trivial⟩ ?_
   clear hK K
   refine wpAnyG.one 10 (by kernel_rfl) (by decide) (by rfl) (fun K hK=>?_)
   simp only [lgA,lgZ,lgS]
   go_simp
   refine (mulD z1 (hO.below hc1) G1.tr (by omega) (by omega) (by omega)).mono ?_
   rintro e z2 ⟨g2,u2,i2,j2,o2,t2,x2,rfl,G2,hk2⟩
   have hc2:Below wr.heap.size wr z2:=aB hc1 hk2
   dsimp only
   refine hK _ _ ⟨fun _=>HBX _ hc2,fun _=>trivial⟩ ?_
   clear hK K
   refine wpAnyG.one 11 (by kernel_rfl) (by decide) (by rfl) (fun K hK=>?_)
   simp only [lgA,lgZ,lgS]
   go_simp
   refine (addD z2 (G.1.tr.below hc2) G2.tr (by omega) (by omega) (by omega)).mono ?_
   rintro e z3 ⟨g3,u3,i3,j3,o3,t3,x3,rfl,G3,hk3⟩
   have hc3:Below wr.heap.size wr z3:=aB hc2 hk3
   have hs3:=Below.size hc3
   dsimp only
   refine hK _ _ ⟨fun _=>HBX _ hc3,fun _=>trivial⟩ ?_
   clear hK K
   refine wpAnyG.one 12 (by kernel_rfl) (by decide) (by rfl) (fun K hK=>?_)
   simp only [lgA,lgZ,lgS]
   have VS:=V.below hc3
   obtain ⟨y0,y1,y2,y3,y4,y5⟩:=id VS
   go_simp
   refine hK _ _ ⟨fun h=>absurd h (by decide),fun _=>trivial⟩ ?_
   clear hK K
   refine wpAnyG.done (by kernel_rfl) (NoPanic.normal ?_)
   have hsz2:=Below.size hk2
   have hsz3:=Below.size hc2
   have GN:=((G3.fit HS1.out).gx (R:=w1.heap.size) (.inl (by omega))).mono (B':=w.heap.size + 2) (by omega)
   obtain ⟨V',O⟩:=VS.set (.bool g3) (.slice u3 i3 j3) (.slice o3 t3 x3)
   have R':=(R.below hc3).off O (by omega)
   have Pb':BoxC _ w.heap.size (#[.bool P.mx,.string P.nm,.bool P.p,.slice P.a P.na P.ca,.slice P.d P.nd P.cd,.slice P.va P.vn P.vc,.slice P.ra P.rn P.rc]).toList:=fun a u hu=>(World.cell?_of_block (O.block w.heap.size (by omega))).trans (Pb.below hc3 a u hu)
   have hbel':Below w.heap.size w _:=(aB hbel hc3).trans (O.below (by omega))
   have GN':=(GN.off O)
   have GN2:GX _ (w.heap.size + 2) w1.heap.size g3 u3 i3 j3 o3 t3 x3 (aQ (prt P.k P.V (xn X n)) (i + 1 + 1)) T:=⟨GN'.1.val (by rw [xC];rfl),GN'.2⟩
   have hs4:=O.size
   clear V R hbel O GN GN' VS HBX G1 G2 G3 hc0 hc1 hc2 hc3 hk1 hk2 hk3 y0 y1 y2 y3 y4 y5 s0 s1 s2 v0 v1 v2 hxr hO G Pb q5
   go_wp2
   go_roundw
   case rel=>first | exact ⟨i + 1,_,_,_,_,_,_,_,by omega,by go_num,V',GN2,R',Pb',hbel',by omega⟩ | ((repeat apply Exists.intro);refine ⟨?_,rfl⟩;exact ⟨i + 1,_,_,_,_,_,_,_,by omega,by go_num,V',GN2,R',Pb',hbel',by omega⟩)
   case measure=>simp [intOf];omega
  ·have hkI:¬ (i:Int) < (P.vn:Int):=by omega
   obtain rfl:i = P.vn:=by omega
   clear hz HS
   obtain ⟨v0,v1,v2,v3,v4,v5⟩:=id V
   obtain ⟨r0,r1,r2,r3,r4,r5⟩:=id R
   obtain ⟨VV,O⟩:=R.set (.bool f) (.slice c n1 k1) (.slice d m l)
   have GF:=G.1.off O (by omega)
   have hw:=hbel.trans (O.below (by omega))
   clear R O G hbel V
   go_wp2
   refine bodyPost_ret (v:=.agg #[.bool f,.slice c n1 k1,.slice d m l]) (by simp [results,Tryz.results15,go_sem,VV.c0,VV.c1,VV.c2]) rfl ?_
   replace GF:=GF.mono (B':=w.heap.size) (by omega)
   cases f
   ·exact .inl ⟨_,_,_,_,_,_,rfl,GF,hw⟩
   ·exact .inr ⟨_,_,_,_,_,_,rfl,GF,hw⟩
structure HK (P:Prob):Prop where
 vn:P.vn≤1048576
 rn:P.rn≤1048576
 ZV:∀ j,j < P.vn→P.ZV j≤1100000
 ZR:∀ i,i < P.rn→P.ZR i≤2200000
theorem PQ.hk {w:World} {P:Prob} (hP:PQ w P) (hK:P.K≤1048576):HK P:=by
 have hall:=hP.all
 have h1:=aT P.ZV P.vn
 have h2:=aT P.ZR P.rn
 exact ⟨by omega,by omega,fun j hj=>by have:=bI (Z:=P.ZV) hj;omega,fun i hi=>by have:=bI (Z:=P.ZR) hi;omega⟩
theorem aN6 (P:Prob) {xa:Option Addr} {n xc:Nat} {X:Nat→Rat} {Z:Nat→Nat} {S T U:Nat} (w:World) (hP:PQ w P) (hx:LQ w xa n X Z) (hz:∀ j,j < n→1≤Z j∧Z j≤U) (hU:1≤U∧U≤7000000) (hS:∀ i,i < P.rn→P.ZR i + U≤S) (hST:T + S≤5999999) (hT1:1≤T) (hK:HK P)
 (hsz:∀ i k,i < P.rn→k≤(P.R i).nt→SzR (aQ (tv (P.R i) (xn X n) P.vn) k) T) :
 Calls Tryz.prog 30 #[P.val,.slice xa n xc] w fun e w'=>∃ a cap,e = .returned (.slice a P.rn cap)∧RL w' w.heap.size (.slice a P.rn cap) P.rn (fun i=>cv (P.R i) (xn X n) P.vn) T∧Below w.heap.size w w':=by
 have HS:Hid (∀ i k,i < P.rn→k≤(P.R i).nt→SzR (aQ (tv (P.R i) (xn X n) P.vn) k) T):=hsz
 have hrn:=hK.rn
 have hvn:=hK.vn
 clear hsz
 unfold Prob.val
 have Pb:=aJ w #[.bool P.mx,.string P.nm,.bool P.p,.slice P.a P.na P.ca,.slice P.d P.nd P.cd,.slice P.va P.vn P.vc,.slice P.ra P.rn P.rc] 31
 have hb0:=aG w (.cells #[.bool P.mx,.string P.nm,.bool P.p,.slice P.a P.na P.ca,.slice P.d P.nd P.cd,.slice P.va P.vn P.vc,.slice P.ra P.rn P.rc] 31)
 have hsA:w.heap.size + 1≤(w.alloc (.cells #[.bool P.mx,.string P.nm,.bool P.p,.slice P.a P.na P.ca,.slice P.d P.nd P.cd,.slice P.va P.vn P.vc,.slice P.ra P.rn P.rc] 31)).heap.size:=by simp
 go_enter Tryz.func30,Tryz.ntmps30
 go_wp2
 generalize w.alloc (.cells #[.bool P.mx,.string P.nm,.bool P.p,.slice P.a P.na P.ca,.slice P.d P.nd P.cd,.slice P.va P.vn P.vc,.slice P.ra P.rn P.rc] 31) = W0 at *
 go_loopw [5,6] (fun s5 s6 wr=>∃ (i:Nat),i≤P.rn∧s6 = .int .i64 i∧RL wr (w.heap.size + 1) s5 i (fun j=>cv (P.R j) (xn X n) P.vn) T∧BoxC wr w.heap.size (#[.bool P.mx,.string P.nm,.bool P.p,.slice P.a P.na P.ca,.slice P.d P.nd P.cd,.slice P.va P.vn P.vc,.slice P.ra P.rn P.rc]).toList∧Below w.heap.size w wr∧w.heap.size + 1≤wr.heap.size) (fun _ s6 _=>P.rn - (intOf s6).toNat)
 case atStart=>exact ⟨0,Nat.zero_le _,rfl,RL.nil _ _ _ _,Pb,hb0,hsA⟩
 case round =>
  clear Pb hb0 hsA
  obtain ⟨i,hi,rfl,L,Pb,hbel,hsr⟩:=hrel
  obtain ⟨o1,k1,rfl⟩:=L.form
  have q6:=Pb 6 _ rfl
  by_cases hlt:i < P.rn
  ·have hkI:(i:Int) < (P.rn:Int):=by omega
   have hSi:=hS i hlt
   have hZi:=hK.ZR i hlt
   have hkI2:(i:Int) * 10 = ((i * 10:Nat):Int):=by omega
   obtain ⟨nt,ent⟩:∃ nt,nt = (P.R i).nt:=⟨_,rfl⟩
   have ENT:Hid (nt = (P.R i).nt):=ent
   have hnt:nt≤2200000:=by
    rcases hP.r with h0 | ⟨rb,ro,hra,hew⟩
    ·omega
    obtain ⟨ta,tc,Zt,r1,hLT,htot,htc⟩:=(hew i hlt).terms
    have:=aT Zt (P.R i).nt
    omega
   clear ent
   go_wp2_with fail
   refine (ofD 0 _ (by decide) (by decide)).mono ?_
   rintro e w2 ⟨f0,c0,n0,k0,d0,m0,l0,rfl,G0,hx1⟩
   have hs1:=Below.size hx1
   replace G0:=(((G0.mono (B':=w.heap.size + 1) (by omega)).val (show ((0:Int):Rat) = aQ (tv (P.R i) (xn X n) P.vn) 0 from rfl)).fit (HS.out i 0 hlt (Nat.zero_le _))).gx (R:=w2.heap.size) (.inr (Nat.le_refl _))
   replace L:=L.below hx1
   replace Pb:=Pb.below hx1
   replace hbel:=aB hbel hx1
   clear hx1 q6
   have hz1:=aG w2 (.cells #[.bool f0,.slice c0 n0 k0,.slice d0 m0 l0] 27)
   have V0:=aN w2 (.bool f0) (.slice c0 n0 k0) (.slice d0 m0 l0) 27
   have hs2:(w2.alloc (.cells #[.bool f0,.slice c0 n0 k0,.slice d0 m0 l0] 27)).heap.size = w2.heap.size + 1:=by simp
   replace G0:=G0.below hz1
   go_wp2
   generalize w2.alloc (.cells #[.bool f0,.slice c0 n0 k0,.slice d0 m0 l0] 27) = W1 at *
   go_loopw [8] (fun s wq=>∃ (k:Nat) (f:Bool) (c:Option Addr) (n1 k1:Nat) (d:Option Addr) (m l:Nat),k≤nt∧s = .int .i64 k∧Var3 wq w2.heap.size (.bool f) (.slice c n1 k1) (.slice d m l)∧GX wq (w.heap.size + 1) w2.heap.size f c n1 k1 d m l (aQ (tv (P.R i) (xn X n) P.vn) k) T∧Below w2.heap.size w2 wq∧w2.heap.size + 1≤wq.heap.size) (fun t _=>nt - (intOf t).toNat)
   case atStart=>exact ⟨0,_,_,_,_,_,_,_,Nat.zero_le _,rfl,V0,G0,hz1,by omega⟩
   case round =>
    clear V0 G0 hz1 hs2
    obtain ⟨k,f,c,n1,k2,d,m,l,hk,rfl,V,G,hbs,hsw⟩:=hrel
    have hbq:=aB hbel hbs
    have Pq:=Pb.below hbs
    have q6:=Pq 6 _ rfl
    have q5:=Pq 5 _ rfl
    rcases (hP.r.below hbq) with h0 | ⟨rb,ro,hra,hew⟩
    ·omega
    obtain ⟨ta,tc,Zt,r1,hLT,htot,htc⟩:=(hew i hlt).terms
    rw [hra] at q6
    rw [← ENT.out] at r1 hLT htot
    clear hra hew htc
    by_cases hlt2:k < nt
    ·have hkJ:(k:Int) < (nt:Int):=by omega
     rcases hLT with h0 | ⟨tb,to,rfl,hel⟩
     ·omega
     obtain ⟨t0,⟨pC,aC,nC,cC,dC,mC,lC,t1,t2,t3,hC⟩,hsC,hszC,hv1,hv2⟩:=hel k hlt2
     obtain ⟨v,ev⟩:∃ v,v = ((P.R i).t k).var:=⟨_,rfl⟩
     rw [← ev] at t0 hv1 hv2
     have EV:Hid (v = ((P.R i).t k).var):=ev
     have hkJ2:(k:Int) * 4 = ((k * 4:Nat):Int):=by omega
     have hZk:Zt k≤P.ZR i:=by have:=bI (Z:=Zt) hlt2;omega
     clear hel ev htot
     by_cases hv:0≤v∧v < (P.vn:Int)
     ·obtain ⟨hv0,hvm⟩:=hv
      obtain ⟨j,rfl⟩:=Int.eq_ofNat_of_zero_le hv0
      have hz2:=aG wr (.cells #[.int .i64 (j:Int),.bool pC,.slice aC nC cC,.slice dC mC lC] 100)
      have q5':=aF hz2 q5
      go_wp2_with fail
      have N:=aJ wr #[.int .i64 (j:Int),.bool pC,.slice aC nC cC,.slice dC mC lC] 100
      have hsz3:(wr.alloc (.cells #[.int .i64 (j:Int),.bool pC,.slice aC nC cC,.slice dC mC lC] 100)).heap.size = wr.heap.size + 1:=by simp
      replace hC:=hC.below hz2
      replace V:=V.below hz2
      replace G:=G.below hz2
      have hxr:=hx.below (aB hbq hz2)
      replace hbs:=hbs.trans (hz2.mono (by omega))
      have n0:=N 0 _ rfl
      have n1':=N 1 _ rfl
      have n2:=N 2 _ rfl
      have n3:=N 3 _ rfl
      clear t0 t1 t2 t3 hz2 N q5 q5' q6 r1 Pq hbq
      generalize wr.alloc (.cells #[.int .i64 (j:Int),.bool pC,.slice aC nC cC,.slice dC mC lC] 100) = W3 at *
      obtain ⟨s0,s1,s2,_,_,_⟩:=id V
      have etv:tv (P.R i) (xn X n) P.vn k = ((P.R i).t k).coef * xat X n (j:Int):=by
       unfold tv
       rw [← EV.out,if_pos ⟨hv0,hvm⟩,xC]
       rfl
      have HS1:Hid (SzR (aQ (tv (P.R i) (xn X n) P.vn) k + ((P.R i).t k).coef * xat X n (j:Int)) T):=by rw [← etv];exact HS.out i (k + 1) hlt (by rw [← ENT.out];omega)
      have HBX:∀ w',Below W3.heap.size W3 w'→(w'.cell? ⟨w2.heap.size,0,none⟩ = some (.bool f)∧w'.cell? ⟨w2.heap.size,1,none⟩ = some (.slice c n1 k2)∧w'.cell? ⟨w2.heap.size,2,none⟩ = some (.slice d m l)∧w'.cell? ⟨wr.heap.size,0,none⟩ = some (.int .i64 (j:Int))∧w'.cell? ⟨wr.heap.size,1,none⟩ = some (.bool pC)∧w'.cell? ⟨wr.heap.size,2,none⟩ = some (.slice aC nC cC)∧w'.cell? ⟨wr.heap.size,3,none⟩ = some (.slice dC mC lC)):=fun w' h=>⟨aF h s0,aF h s1,aF h s2,aF h n0,aF h n1',aF h n2,aF h n3⟩
      refine wp_region_noPanic (aU 9 HBX (by kernel_rfl) ?_)
      have hc0:Below W3.heap.size W3 W3.drew:=aK _
      generalize W3.drew = z0 at *
      refine wpAnyG.tT 0 (v:=.agg #[.bool f,.slice c n1 k2,.slice d m l]) (by decide) 9 (by kernel_rfl) (by rfl) ?y0 (HBX _ hc0) ?_
      case y0 =>
       rintro w' ⟨q0,q1,q2,q3,q4,q5,q6⟩
       simp only [lgA,lgZ]
       go_simp
      simp only [lgA,lgZ,Act.put,lsA,lsZ,lsS]
      refine wpAnyG.tT 1 (v:=.pointer (some ⟨wr.heap.size,1,none⟩)) (by decide) 9 (by kernel_rfl) (by rfl) ?y1 (HBX _ hc0) ?_
      case y1 =>
       rintro w' ⟨q0,q1,q2,q3,q4,q5,q6⟩
       simp only [lgA,lgZ,lgS]
       go_simp
      simp only [lgA,lgZ,lgS,Act.put,lsA,lsZ,lsS]
      refine wpAnyG.tT 2 (v:=.agg #[.bool pC,.slice aC nC cC,.slice dC mC lC]) (by decide) 9 (by kernel_rfl) (by rfl) ?y2 (HBX _ hc0) ?_
      case y2 =>
       rintro w' ⟨q0,q1,q2,q3,q4,q5,q6⟩
       simp only [lgA,lgZ,lgS]
       go_simp
      simp only [lgA,lgZ,lgS,Act.put,lsA,lsZ,lsS]
      refine wpAnyG.tT 3 (v:=.slice xa n xc) (by decide) 9 (by kernel_rfl) (by rfl) ?y3 (HBX _ hc0) ?_
      case y3 =>
       rintro w' ⟨q0,q1,q2,q3,q4,q5,q6⟩
       simp only [lgA,lgZ,lgS]
       go_simp
      simp only [lgA,lgZ,lgS,Act.put,lsA,lsZ,lsS]
      refine wpAnyG.tT 4 (v:=.pointer (some ⟨wr.heap.size,0,none⟩)) (by decide) 9 (by kernel_rfl) (by rfl) ?y4 (HBX _ hc0) ?_
      case y4 =>
       rintro w' ⟨q0,q1,q2,q3,q4,q5,q6⟩
       simp only [lgA,lgZ,lgS]
       go_simp
      simp only [lgA,lgZ,lgS,Act.put,lsA,lsZ,lsS]
      refine wpAnyG.tT 5 (v:=.int .i64 (j:Int)) (by decide) 9 (by kernel_rfl) (by rfl) ?y5 (HBX _ hc0) ?_
      case y5 =>
       rintro w' ⟨q0,q1,q2,q3,q4,q5,q6⟩
       simp only [lgA,lgZ,lgS]
       go_simp
      simp only [lgA,lgZ,lgS,Act.put,lsA,lsZ,lsS]
      refine wpAnyG.one 6 (by kernel_rfl) (by decide) (by rfl) (fun K hK=>?_)
      simp only [lgA,lgZ,lgS]
      go_simp
      refine (atD (S:=U) (j:Int) z0 (hxr.below hc0) hz hU).mono ?_
      rintro e z1 ⟨g1,u1,i1,j1,o2,t1,x1,rfl,G1,hk1⟩
      have hc1:Below W3.heap.size W3 z1:=aB hc0 hk1
      dsimp only
      refine hK _ _ ⟨fun _=>HBX _ hc1,fun _=>trivial⟩ ?_
      clear hK K
      refine wpAnyG.one 7 (by kernel_rfl) (by decide) (by rfl) (fun K hK=>?_)
      simp only [lgA,lgZ,lgS]
      go_simp
      refine (mulD z1 (hC.below hc1) G1.tr (by omega) (by omega) (by omega)).mono ?_
      rintro e z2 ⟨g2,u2,i2,j2,o3,t2,x2,rfl,G2,hk2⟩
      have hc2:Below W3.heap.size W3 z2:=aB hc1 hk2
      dsimp only
      refine hK _ _ ⟨fun _=>HBX _ hc2,fun _=>trivial⟩ ?_
      clear hK K
      refine wpAnyG.one 8 (by kernel_rfl) (by decide) (by rfl) (fun K hK=>?_)
      simp only [lgA,lgZ,lgS]
      go_simp
      refine (addD z2 (G.1.tr.below hc2) G2.tr (by omega) (by omega) (by omega)).mono ?_
      rintro e z3 ⟨g3,u3,i3,j3,o4,t3,x3,rfl,G3,hk3⟩
      have hc3:Below W3.heap.size W3 z3:=aB hc2 hk3
      have hs3:=Below.size hc3
      dsimp only
      refine hK _ _ ⟨fun _=>HBX _ hc3,fun _=>trivial⟩ ?_
      clear hK K
      refine wpAnyG.one 9 (by kernel_rfl) (by decide) (by rfl) (fun K hK=>?_)
      simp only [lgA,lgZ,lgS]
      have VS:=V.below hc3
      obtain ⟨y0,y1,y2,y3,y4,y5⟩:=id VS
      go_simp
      refine hK _ _ ⟨fun h=>absurd h (by decide),fun _=>trivial⟩ ?_
      clear hK K
      refine wpAnyG.done (by kernel_rfl) (NoPanic.normal ?_)
      have hsz2:=Below.size hk2
      have hsz4:=Below.size hc2
      have GN:=((G3.fit HS1.out).gx (R:=w2.heap.size) (.inl (by omega))).mono (B':=w.heap.size + 1) (by omega)
      obtain ⟨V',O⟩:=VS.set (.bool g3) (.slice u3 i3 j3) (.slice o4 t3 x3)
      have GN':=(GN.off O)
      have GN2:GX _ (w.heap.size + 1) w2.heap.size g3 u3 i3 j3 o4 t3 x3 (aQ (tv (P.R i) (xn X n) P.vn) (k + 1)) T:=⟨GN'.1.val (by rw [← etv];rfl),GN'.2⟩
      have hbs':Below w2.heap.size w2 _:=(hbs.trans (hc3.mono (by omega))).trans (O.below (Nat.le_refl _))
      have hs4:=O.size
      clear V hbs O GN GN' VS HBX G1 G2 G3 hc0 hc1 hc2 hc3 hk1 hk2 hk3 y0 y1 y2 y3 y4 y5 s0 s1 s2 n0 n1' n2 n3 hxr hC G etv
      go_wp2
      go_roundw
      case rel=>first | exact ⟨k + 1,_,_,_,_,_,_,_,by omega,by go_num,V',GN2,hbs',by omega⟩ | ((repeat apply Exists.intro);refine ⟨?_,rfl⟩;exact ⟨k + 1,_,_,_,_,_,_,_,by omega,by go_num,V',GN2,hbs',by omega⟩)
      case measure=>simp [intOf];omega
     ·have etv:tv (P.R i) (xn X n) P.vn k = 0:=by
       unfold tv
       rw [← EV.out,if_neg hv]
      have hz2:=aG wr (.cells #[.int .i64 v,.bool pC,.slice aC nC cC,.slice dC mC lC] 100)
      have hsz3:(wr.alloc (.cells #[.int .i64 v,.bool pC,.slice aC nC cC,.slice dC mC lC] 100)).heap.size = wr.heap.size + 1:=by simp
      have V':=V.below hz2
      have GN':=G.below hz2
      have GN2:GX _ (w.heap.size + 1) w2.heap.size f c n1 k2 d m l (aQ (tv (P.R i) (xn X n) P.vn) (k + 1)) T:=⟨GN'.1.val (by rw [aS,etv,Rat.add_zero]),GN'.2⟩
      have hbs':Below w2.heap.size w2 _:=hbs.trans (hz2.mono (by omega))
      have q5':=aF hz2 q5
      clear GN' hz2 G V hbs hC
      by_cases hv0:0≤v
      ·have hvm:¬ v < (P.vn:Int):=fun h=>hv ⟨hv0,h⟩
       go_wp2
       go_roundw
       case rel=>first | exact ⟨k + 1,_,_,_,_,_,_,_,by omega,by go_num,V',GN2,hbs',by omega⟩ | ((repeat apply Exists.intro);refine ⟨?_,rfl⟩;exact ⟨k + 1,_,_,_,_,_,_,_,by omega,by go_num,V',GN2,hbs',by omega⟩)
       case measure=>simp [intOf];omega
      ·go_wp2
       go_roundw
       case rel=>first | exact ⟨k + 1,_,_,_,_,_,_,_,by omega,by go_num,V',GN2,hbs',by omega⟩ | ((repeat apply Exists.intro);refine ⟨?_,rfl⟩;exact ⟨k + 1,_,_,_,_,_,_,_,by omega,by go_num,V',GN2,hbs',by omega⟩)
       case measure=>simp [intOf];omega
    ·have hkJ:¬ (k:Int) < (nt:Int):=by omega
     obtain rfl:k = nt:=by omega
     have ecv:aQ (tv (P.R i) (xn X n) P.vn) k = cv (P.R i) (xn X n) P.vn:=by unfold cv;rw [← ENT.out]
     have GG:=G.1.val ecv
     have L3:=L.below hbs
     have hrow:∀ g,(Value.slice o1 i k1).ownBlock = some g→w.heap.size + 1≤g:=fun g hg=>(L3.lt g hg).1
     obtain ⟨s0,s1,s2,_,_,_⟩:=id V
     have hsq:=hbq.size
     clear G hLT htot ecv q5
     go_wp2_with (at_builtin;refine lY _ rfl _ _ rfl (w.heap.size + 1) (.slice o1 i k1) i (fun j=>cv (P.R j) (xn X n) P.vn) T rfl (L3.below (aG _ _)) wr.heap.size _ rfl f c n1 k2 d m l (fK rfl) (GG.below (aG _ _)) (by omega) (by simp;omega) (wr.heap.size + 1) (by simp) ?_)
     intro g1 cap1 w3 LN hgrow hat _
     have hg2:=grown_below (B:=w.heap.size + 1) hgrow (by simp;omega) hrow
     have Pn:BoxC w3 w.heap.size (#[.bool P.mx,.string P.nm,.bool P.p,.slice P.a P.na P.ca,.slice P.d P.nd P.cd,.slice P.va P.vn P.vc,.slice P.ra P.rn P.rc]).toList:=fun a u hu=>aP hgrow ((Pq.below (aG wr _)) a u hu) (fun e=>by have:=hrow _ e;simp at this;omega)
     have hbelN:Below w.heap.size w w3:=(gK hbq).trans (hg2.mono (by omega))
     have hs6:=hg2.size
     have hs7:w.heap.size + 1≤w3.heap.size:=by simp at hs6;omega
     clear hgrow hat hrow L3 GG hbq hbs V s0 s1 s2 L Pb Pq hbel q6 r1
     go_wp2
     go_roundw
     case rel=>first | exact ⟨i + 1,by omega,by go_num,LN,Pn,hbelN,hs7⟩ | ((repeat apply Exists.intro);refine ⟨?_,rfl⟩;exact ⟨i + 1,by omega,by go_num,LN,Pn,hbelN,hs7⟩)
     case measure=>simp [intOf];omega
  ·have hkI:¬ (i:Int) < (P.rn:Int):=by omega
   obtain rfl:i = P.rn:=by omega
   go_wp2
   go_ret
   exact ⟨_,_,rfl,L.mono (by omega),hbel⟩
theorem aP9 (r:PW) (X:Nat→Rat) (n m k:Nat):tv r (xn X n) m k = tv r X (min n m) k:=by
 unfold tv xn
 by_cases h:0≤(r.t k).var∧(r.t k).var < (m:Int)
 ·rw [if_pos h]
  by_cases h2:(r.t k).var.toNat < n
  ·rw [if_pos h2,if_pos ⟨h.1,by omega⟩]
  ·rw [if_neg h2,if_neg (by omega),Rat.mul_zero]
 ·rw [if_neg h,if_neg (by omega)]
theorem aL7 (r:PW) (X:Nat→Rat) (m:Nat):cv r (xn X m) m = cv r X m:=by
 unfold cv
 exact bG fun k _=>by rw [aP9,Nat.min_self]
theorem aJ4 (P:Prob) {xa:Option Addr} {n xc:Nat} {X:Nat→Rat} {Z:Nat→Nat} {S T U:Nat} (w:World) (hP:PQ w P) (hx:LQ w xa n X Z) (hz:∀ j,j < n→1≤Z j∧Z j≤U) (hU:1≤U∧U≤4900000) (hS:∀ i,i < P.rn→P.ZR i + U≤S) (hST:T + S≤5999999) (hT2:1≤T∧T≤4900000) (hK:HK P)
 (hsz:∀ i k,i < P.rn→k≤(P.R i).nt→SzR (aQ (tv (P.R i) (xn X n) P.vn) k) T) :
 Calls Tryz.prog 12 #[P.val,.slice xa n xc] w fun e w'=>∃ b,e = .returned (.bool b)∧(b = true↔bY P n X)∧Below w.heap.size w w':=by
 have HSUM:=fun w1 (hb:Below w.heap.size w w1)=>aN6 (xc:=xc) P w1 (hP.below hb) (hx.below hb) hz ⟨hU.1,by omega⟩ hS hST hT2.1 hK hsz
 have HZ0:Hid (∀ j,j < n→1≤Z j∧Z j≤U):=hz
 have hrn:=hK.rn
 have hvn:=hK.vn
 have HTZ:Hid (∀ i,i < P.rn→T + P.ZR i≤6000000):=fun i hi=>by have:=hS i hi;omega
 clear hsz hz hS
 unfold Prob.val
 have Pb:=aJ w #[.bool P.mx,.string P.nm,.bool P.p,.slice P.a P.na P.ca,.slice P.d P.nd P.cd,.slice P.va P.vn P.vc,.slice P.ra P.rn P.rc] 31
 have hb:=aG w (.cells #[.bool P.mx,.string P.nm,.bool P.p,.slice P.a P.na P.ca,.slice P.d P.nd P.cd,.slice P.va P.vn P.vc,.slice P.ra P.rn P.rc] 31)
 by_cases hnv:n = P.vn
 ·subst hnv
  have p5:=Pb 5 _ rfl
  go_enter Tryz.func12,Tryz.ntmps12
  go_wp2
  generalize w.alloc (.cells #[.bool P.mx,.string P.nm,.bool P.p,.slice P.a P.na P.ca,.slice P.d P.nd P.cd,.slice P.va P.vn P.vc,.slice P.ra P.rn P.rc] 31) = W at *
  clear p5
  go_loopw [5] (fun s5 wr=>∃ (i:Nat),i≤P.vn∧s5 = .int .i64 i∧(∀ j,j < i→eF (X j) (P.V j).hlo (P.V j).lo (P.V j).hhi (P.V j).hi = true)∧Below w.heap.size w wr∧Below W.heap.size W wr) (fun s5 _=>P.vn - (intOf s5).toNat)
  case atStart=>exact ⟨0,Nat.zero_le _,rfl,fun j hj=>by omega,hb,Below.refl _ _⟩
  case round =>
   obtain ⟨i,hi,rfl,HY,hbel,hbw⟩:=hrel
   have qb:=(Pb.below hbw) 5 _ rfl
   by_cases hlt:i < P.vn
   ·have hkI:(i:Int) < (P.vn:Int):=by omega
    rcases (hx.below hbel) with h0 | ⟨bx,ox,rfl,helx⟩
    ·omega
    obtain ⟨pA,aA,nA,cA,dA,mA,lA,c0,c1,c2,hA⟩:=helx i (by omega)
    rcases (hP.v.below hbel) with h0 | ⟨bv,ov,hva,hev⟩
    ·omega
    have hV:=hev i hlt
    have hZi:=hK.ZV i hlt
    obtain ⟨hzi1,hzi2⟩:=HZ0.out i (by omega)
    have hs1v:=hV.s1
    obtain ⟨hl,ehl⟩:∃ hl,hl = (P.V i).hlo:=⟨_,rfl⟩
    obtain ⟨hh,ehh⟩:∃ hh,hh = (P.V i).hhi:=⟨_,rfl⟩
    have y0:=hV.hlo
    obtain ⟨pl,al,nl,cl,dl,ml,ll,y1,y2,y3,hlo⟩:=hV.lo
    have y4:=hV.hhi
    obtain ⟨ph,ah,nh,ch,dh,mh,lh,y5,y6,y7,hhi⟩:=hV.hi
    rw [← ehl] at y0
    rw [← ehh] at y4
    have HE:Hid (hl = (P.V i).hlo∧hh = (P.V i).hhi):=⟨ehl,ehh⟩
    have hkI2:(i:Int) * 13 = ((i * 13:Nat):Int):=by omega
    have hkI3:(i:Int) * 3 = ((i * 3:Nat):Int):=by omega
    obtain ⟨bq,ebq⟩:∃ bq,bq = eF (X i) hl (P.V i).lo hh (P.V i).hi:=⟨_,rfl⟩
    have HWI:∀ w2,Below wr.heap.size wr w2→Calls Tryz.prog 29 #[.agg #[.bool pA,.slice aA nA cA,.slice dA mA lA],.agg #[.bool hl,.bool pl,.slice al nl cl,.slice dl ml ll],.agg #[.bool hh,.bool ph,.slice ah nh ch,.slice dh mh lh]] w2 fun e w'=>e = .returned (.bool bq)∧Below w2.heap.size w2 w':=fun w2 h2=>by
     rw [ebq]
     exact aC2 (lo:=(P.V i).lo) (hi:=(P.V i).hi) (R:=P.ZV i) w2 (hA.below h2) (hlo.below h2) (hhi.below h2) (by omega) (by omega) (by omega)
    have EB:Hid (bq = eF (X i) hl (P.V i).lo hh (P.V i).hi):=ebq
    rw [hva] at qb
    clear hev hV ehl ehh hva helx ebq hA hlo hhi
    have HBX:∀ w',Below wr.heap.size wr w'→(w'.cell? ⟨bx,ox + i * 3,none⟩ = some (.bool pA)∧w'.cell? ⟨bx,ox + i * 3 + 1,none⟩ = some (.slice aA nA cA)∧w'.cell? ⟨bx,ox + i * 3 + 2,none⟩ = some (.slice dA mA lA)∧w'.cell? ⟨w.heap.size,5,none⟩ = some (.slice (some ⟨bv,ov,none⟩) P.vn P.vc)∧w'.cell? ⟨bv,ov + i * 13 + 4,none⟩ = some (.bool hl)∧w'.cell? ⟨bv,ov + i * 13 + 4 + 1,none⟩ = some (.bool pl)∧w'.cell? ⟨bv,ov + i * 13 + 4 + 2,none⟩ = some (.slice al nl cl)∧w'.cell? ⟨bv,ov + i * 13 + 4 + 3,none⟩ = some (.slice dl ml ll)∧w'.cell? ⟨bv,ov + i * 13 + 8,none⟩ = some (.bool hh)∧w'.cell? ⟨bv,ov + i * 13 + 8 + 1,none⟩ = some (.bool ph)∧w'.cell? ⟨bv,ov + i * 13 + 8 + 2,none⟩ = some (.slice ah nh ch)∧w'.cell? ⟨bv,ov + i * 13 + 8 + 3,none⟩ = some (.slice dh mh lh)):=fun w' h=>⟨aF h c0,aF h c1,aF h c2,aF h qb,aF h y0,aF h y1,aF h y2,aF h y3,aF h y4,aF h y5,aF h y6,aF h y7⟩
    clear y0 y1 y2 y3 y4 y5 y6 y7 c0 c1 c2
    go_wp2_with fail
    refine wp_region_noPanic (bC HBX (by kernel_rfl) ?_)
    have hc0:Below wr.heap.size wr wr.drew:=aK _
    generalize wr.drew = z0 at *
    refine wpAnyG.tA 0 (v:=.slice (some ⟨bx,ox,none⟩) P.vn xc) (by decide) 17 (by kernel_rfl) (by rfl) ?y0 (HBX _ hc0) ?_
    case y0 =>
     rintro w' ⟨f0,f1,f2,f3,f4,f5,f6,f7,f8,f9,f10,f11⟩
     simp only [lgA,lgZ]
     go_simp
    simp only [lgA,lgZ,Act.put,lsA,lsZ,lsS]
    refine wpAnyG.tA 1 (v:=.int .i64 (i:Int)) (by decide) 17 (by kernel_rfl) (by rfl) ?y1 (HBX _ hc0) ?_
    case y1 =>
     rintro w' ⟨f0,f1,f2,f3,f4,f5,f6,f7,f8,f9,f10,f11⟩
     simp only [lgA,lgZ,lgS]
     go_simp
    simp only [lgA,lgZ,lgS,Act.put,lsA,lsZ,lsS]
    refine wpAnyG.tA 2 (v:=.pointer (some ⟨bx,ox + i * 3,none⟩)) (by decide) 17 (by kernel_rfl) (by rfl) ?y2 (HBX _ hc0) ?_
    case y2 =>
     rintro w' ⟨f0,f1,f2,f3,f4,f5,f6,f7,f8,f9,f10,f11⟩
     simp only [lgA,lgZ,lgS]
     go_simp
    simp only [lgA,lgZ,lgS,Act.put,lsA,lsZ,lsS]
    refine wpAnyG.tA 3 (v:=.agg #[.bool pA,.slice aA nA cA,.slice dA mA lA]) (by decide) 17 (by kernel_rfl) (by rfl) ?y3 (HBX _ hc0) ?_
    case y3 =>
     rintro w' ⟨f0,f1,f2,f3,f4,f5,f6,f7,f8,f9,f10,f11⟩
     simp only [lgA,lgZ,lgS]
     go_simp
    simp only [lgA,lgZ,lgS,Act.put,lsA,lsZ,lsS]
    refine wpAnyG.tA 4 (v:=.pointer (some ⟨w.heap.size,5,none⟩)) (by decide) 17 (by kernel_rfl) (by rfl) ?y4 (HBX _ hc0) ?_
    case y4 =>
     rintro w' ⟨f0,f1,f2,f3,f4,f5,f6,f7,f8,f9,f10,f11⟩
     simp only [lgA,lgZ,lgS]
     go_simp
    simp only [lgA,lgZ,lgS,Act.put,lsA,lsZ,lsS]
    refine wpAnyG.tA 5 (v:=.slice (some ⟨bv,ov,none⟩) P.vn P.vc) (by decide) 17 (by kernel_rfl) (by rfl) ?y5 (HBX _ hc0) ?_
    case y5 =>
     rintro w' ⟨f0,f1,f2,f3,f4,f5,f6,f7,f8,f9,f10,f11⟩
     simp only [lgA,lgZ,lgS]
     go_simp
    simp only [lgA,lgZ,lgS,Act.put,lsA,lsZ,lsS]
    refine wpAnyG.tA 6 (v:=.int .i64 (i:Int)) (by decide) 17 (by kernel_rfl) (by rfl) ?y6 (HBX _ hc0) ?_
    case y6 =>
     rintro w' ⟨f0,f1,f2,f3,f4,f5,f6,f7,f8,f9,f10,f11⟩
     simp only [lgA,lgZ,lgS]
     go_simp
    simp only [lgA,lgZ,lgS,Act.put,lsA,lsZ,lsS]
    refine wpAnyG.tA 7 (v:=.pointer (some ⟨bv,ov + i * 13,none⟩)) (by decide) 17 (by kernel_rfl) (by rfl) ?y7 (HBX _ hc0) ?_
    case y7 =>
     rintro w' ⟨f0,f1,f2,f3,f4,f5,f6,f7,f8,f9,f10,f11⟩
     simp only [lgA,lgZ,lgS]
     go_simp
    simp only [lgA,lgZ,lgS,Act.put,lsA,lsZ,lsS]
    refine wpAnyG.tA 8 (v:=.pointer (some ⟨bv,ov + i * 13 + 4,none⟩)) (by decide) 17 (by kernel_rfl) (by rfl) ?y8 (HBX _ hc0) ?_
    case y8 =>
     rintro w' ⟨f0,f1,f2,f3,f4,f5,f6,f7,f8,f9,f10,f11⟩
     simp only [lgA,lgZ,lgS]
     go_simp
    simp only [lgA,lgZ,lgS,Act.put,lsA,lsZ,lsS]
    refine wpAnyG.tA 9 (v:=.agg #[.bool hl,.bool pl,.slice al nl cl,.slice dl ml ll]) (by decide) 17 (by kernel_rfl) (by rfl) ?y9 (HBX _ hc0) ?_
    case y9 =>
     rintro w' ⟨f0,f1,f2,f3,f4,f5,f6,f7,f8,f9,f10,f11⟩
     simp only [lgA,lgZ,lgS]
     go_simp
    simp only [lgA,lgZ,lgS,Act.put,lsA,lsZ,lsS]
    refine wpAnyG.tA 10 (v:=.pointer (some ⟨w.heap.size,5,none⟩)) (by decide) 17 (by kernel_rfl) (by rfl) ?y10 (HBX _ hc0) ?_
    case y10 =>
     rintro w' ⟨f0,f1,f2,f3,f4,f5,f6,f7,f8,f9,f10,f11⟩
     simp only [lgA,lgZ,lgS]
     go_simp
    simp only [lgA,lgZ,lgS,Act.put,lsA,lsZ,lsS]
    refine wpAnyG.tA 11 (v:=.slice (some ⟨bv,ov,none⟩) P.vn P.vc) (by decide) 17 (by kernel_rfl) (by rfl) ?y11 (HBX _ hc0) ?_
    case y11 =>
     rintro w' ⟨f0,f1,f2,f3,f4,f5,f6,f7,f8,f9,f10,f11⟩
     simp only [lgA,lgZ,lgS]
     go_simp
    simp only [lgA,lgZ,lgS,Act.put,lsA,lsZ,lsS]
    refine wpAnyG.tA 12 (v:=.int .i64 (i:Int)) (by decide) 17 (by kernel_rfl) (by rfl) ?y12 (HBX _ hc0) ?_
    case y12 =>
     rintro w' ⟨f0,f1,f2,f3,f4,f5,f6,f7,f8,f9,f10,f11⟩
     simp only [lgA,lgZ,lgS]
     go_simp
    simp only [lgA,lgZ,lgS,Act.put,lsA,lsZ,lsS]
    refine wpAnyG.tA 13 (v:=.pointer (some ⟨bv,ov + i * 13,none⟩)) (by decide) 17 (by kernel_rfl) (by rfl) ?y13 (HBX _ hc0) ?_
    case y13 =>
     rintro w' ⟨f0,f1,f2,f3,f4,f5,f6,f7,f8,f9,f10,f11⟩
     simp only [lgA,lgZ,lgS]
     go_simp
    simp only [lgA,lgZ,lgS,Act.put,lsA,lsZ,lsS]
    refine wpAnyG.tA 14 (v:=.pointer (some ⟨bv,ov + i * 13 + 8,none⟩)) (by decide) 17 (by kernel_rfl) (by rfl) ?y14 (HBX _ hc0) ?_
    case y14 =>
     rintro w' ⟨f0,f1,f2,f3,f4,f5,f6,f7,f8,f9,f10,f11⟩
     simp only [lgA,lgZ,lgS]
     go_simp
    simp only [lgA,lgZ,lgS,Act.put,lsA,lsZ,lsS]
    refine wpAnyG.tA 15 (v:=.agg #[.bool hh,.bool ph,.slice ah nh ch,.slice dh mh lh]) (by decide) 17 (by kernel_rfl) (by rfl) ?y15 (HBX _ hc0) ?_
    case y15 =>
     rintro w' ⟨f0,f1,f2,f3,f4,f5,f6,f7,f8,f9,f10,f11⟩
     simp only [lgA,lgZ,lgS]
     go_simp
    simp only [lgA,lgZ,lgS,Act.put,lsA,lsZ,lsS]
    refine wpAnyG.one 16 (by kernel_rfl) (by decide) (by rfl) (fun K hK=>?_)
    simp only [lgA,lgZ,lgS]
    go_simp
    refine (HWI z0 hc0).mono ?_
    rintro e z1 ⟨rfl,hk1⟩
    have hc1:Below wr.heap.size wr z1:=aB hc0 hk1
    dsimp only
    refine hK _ _ (HBX _ hc1) ?_
    clear hK K
    refine wpAnyG.one 17 (by kernel_rfl) (by decide) (by rfl) (fun K hK=>?_)
    simp only [lgA,lgZ,lgS]
    go_simp
    refine hK _ _ (HBX _ hc1) ?_
    clear hK K
    refine wpAnyG.done (by kernel_rfl) (NoPanic.normal ?_)
    replace hbel:=aB hbel hc1
    replace hbw:=aB hbw hc1
    clear HBX HWI hk1 hc0 hc1 qb
    cases bq
    ·go_wp2
     go_ret
     refine ⟨false,rfl,⟨(fun h=>by cases h),fun h=>?_⟩,hbel⟩
     have h2:=h.2.1 i hlt
     rw [← HE.out.1,← HE.out.2,← EB.out] at h2
     cases h2
    ·have HY':∀ j,j < i + 1→eF (X j) (P.V j).hlo (P.V j).lo (P.V j).hhi (P.V j).hi = true:=by
      intro j hj
      rcases (by omega:j < i∨j = i) with h | rfl
      ·exact HY j h
      ·rw [← HE.out.1,← HE.out.2,← EB.out]
     clear HY
     go_wp2
     go_roundw
     case rel=>first | exact ⟨i + 1,by omega,by go_num,HY',hbel,hbw⟩ | ((repeat apply Exists.intro);refine ⟨?_,rfl⟩;exact ⟨i + 1,by omega,by go_num,HY',hbel,hbw⟩)
     case measure=>simp [intOf];omega
   ·have hkI:¬ (i:Int) < (P.vn:Int):=by omega
    obtain rfl:i = P.vn:=by omega
    have Q:=Pb.below hbw
    have q0:=Q 0 _ rfl
    have q1:=Q 1 _ rfl
    have q2:=Q 2 _ rfl
    have q3:=Q 3 _ rfl
    have q4:=Q 4 _ rfl
    have q6:=Q 6 _ rfl
    have HH:=HSUM wr hbel
    clear HSUM
    go_wp2_with fail
    refine HH.mono ?_
    clear HH q0 q1 q2 q3 q4 q6 qb
    rintro e w1 ⟨sa,sc,rfl,L,h1⟩
    have hbel1:=aB hbel h1
    have Q1:=Q.below h1
    clear hbel hbw h1 Q Pb hb
    go_wp2
    go_loopw [8] (fun s8 wr=>∃ (i:Nat),i≤P.rn∧s8 = .int .i64 i∧(∀ j,j < i→eF (cv (P.R j) (xn X P.vn) P.vn) (P.R j).hlo (P.R j).lo (P.R j).hhi (P.R j).hi = true)∧Below w1.heap.size w1 wr) (fun s8 _=>P.rn - (intOf s8).toNat)
    case atStart=>exact ⟨0,Nat.zero_le _,rfl,fun j hj=>by omega,Below.refl _ _⟩
    case round =>
     obtain ⟨i,hi,rfl,HY2,hb2⟩:=hrel
     have qb:=(Q1.below hb2) 6 _ rfl
     by_cases hlt:i < P.rn
     ·have hkI:(i:Int) < (P.rn:Int):=by omega
      have hbel2:=aB hbel1 hb2
      rcases (L.below hb2).lq with h0 | ⟨bx,ox,rfl,helx⟩
      ·omega
      obtain ⟨pA,aA,nA,cA,dA,mA,lA,c0,c1,c2,hA⟩:=helx i hlt
      rcases (hP.r.below hbel2) with h0 | ⟨rb,ro,hra,hew⟩
      ·omega
      have hR:=hew i hlt
      have hZi:=hK.ZR i hlt
      have hTZ:=HTZ.out i hlt
      have hs1r:=hR.s1
      obtain ⟨hl,ehl⟩:∃ hl,hl = (P.R i).hlo:=⟨_,rfl⟩
      obtain ⟨hh,ehh⟩:∃ hh,hh = (P.R i).hhi:=⟨_,rfl⟩
      have y0:=hR.hlo
      obtain ⟨pl,al,nl,cl,dl,ml,ll,y1,y2,y3,hlo⟩:=hR.lo
      have y4:=hR.hhi
      obtain ⟨ph,ah,nh,ch,dh,mh,lh,y5,y6,y7,hhi⟩:=hR.hi
      rw [← ehl] at y0
      rw [← ehh] at y4
      have HE:Hid (hl = (P.R i).hlo∧hh = (P.R i).hhi):=⟨ehl,ehh⟩
      have hkI2:(i:Int) * 10 = ((i * 10:Nat):Int):=by omega
      have hkI3:(i:Int) * 3 = ((i * 3:Nat):Int):=by omega
      obtain ⟨bq,ebq⟩:∃ bq,bq = eF (cv (P.R i) (xn X P.vn) P.vn) hl (P.R i).lo hh (P.R i).hi:=⟨_,rfl⟩
      have HWI:∀ w2,Below wr.heap.size wr w2→Calls Tryz.prog 29 #[.agg #[.bool pA,.slice aA nA cA,.slice dA mA lA],.agg #[.bool hl,.bool pl,.slice al nl cl,.slice dl ml ll],.agg #[.bool hh,.bool ph,.slice ah nh ch,.slice dh mh lh]] w2 fun e w'=>e = .returned (.bool bq)∧Below w2.heap.size w2 w':=fun w2 h2=>by
       rw [ebq]
       exact aC2 (S:=T) (lo:=(P.R i).lo) (hi:=(P.R i).hi) (R:=P.ZR i) w2 (hA.below h2) (hlo.below h2) (hhi.below h2) (by omega) (by omega) (by omega)
      have EB:Hid (bq = eF (cv (P.R i) (xn X P.vn) P.vn) hl (P.R i).lo hh (P.R i).hi):=ebq
      rw [hra] at qb
      clear hew hR ehl ehh hra helx ebq hA hlo hhi
      have HBX:∀ w',Below wr.heap.size wr w'→(w'.cell? ⟨bx,ox + i * 3,none⟩ = some (.bool pA)∧w'.cell? ⟨bx,ox + i * 3 + 1,none⟩ = some (.slice aA nA cA)∧w'.cell? ⟨bx,ox + i * 3 + 2,none⟩ = some (.slice dA mA lA)∧w'.cell? ⟨w.heap.size,6,none⟩ = some (.slice (some ⟨rb,ro,none⟩) P.rn P.rc)∧w'.cell? ⟨rb,ro + i * 10 + 2,none⟩ = some (.bool hl)∧w'.cell? ⟨rb,ro + i * 10 + 2 + 1,none⟩ = some (.bool pl)∧w'.cell? ⟨rb,ro + i * 10 + 2 + 2,none⟩ = some (.slice al nl cl)∧w'.cell? ⟨rb,ro + i * 10 + 2 + 3,none⟩ = some (.slice dl ml ll)∧w'.cell? ⟨rb,ro + i * 10 + 6,none⟩ = some (.bool hh)∧w'.cell? ⟨rb,ro + i * 10 + 6 + 1,none⟩ = some (.bool ph)∧w'.cell? ⟨rb,ro + i * 10 + 6 + 2,none⟩ = some (.slice ah nh ch)∧w'.cell? ⟨rb,ro + i * 10 + 6 + 3,none⟩ = some (.slice dh mh lh)):=fun w' h=>⟨aF h c0,aF h c1,aF h c2,aF h qb,aF h y0,aF h y1,aF h y2,aF h y3,aF h y4,aF h y5,aF h y6,aF h y7⟩
      clear y0 y1 y2 y3 y4 y5 y6 y7 c0 c1 c2
      go_wp2_with fail
      refine wp_region_noPanic (bC HBX (by kernel_rfl) ?_)
      have hc0:Below wr.heap.size wr wr.drew:=aK _
      generalize wr.drew = z0 at *
      refine wpAnyG.tA 0 (v:=.slice (some ⟨bx,ox,none⟩) P.rn sc) (by decide) 17 (by kernel_rfl) (by rfl) ?y0 (HBX _ hc0) ?_
      case y0 =>
       rintro w' ⟨f0,f1,f2,f3,f4,f5,f6,f7,f8,f9,f10,f11⟩
       simp only [lgA,lgZ]
       go_simp
      simp only [lgA,lgZ,Act.put,lsA,lsZ,lsS]
      refine wpAnyG.tA 1 (v:=.int .i64 (i:Int)) (by decide) 17 (by kernel_rfl) (by rfl) ?y1 (HBX _ hc0) ?_
      case y1 =>
       rintro w' ⟨f0,f1,f2,f3,f4,f5,f6,f7,f8,f9,f10,f11⟩
       simp only [lgA,lgZ,lgS]
       go_simp
      simp only [lgA,lgZ,lgS,Act.put,lsA,lsZ,lsS]
      refine wpAnyG.tA 2 (v:=.pointer (some ⟨bx,ox + i * 3,none⟩)) (by decide) 17 (by kernel_rfl) (by rfl) ?y2 (HBX _ hc0) ?_
      case y2 =>
       rintro w' ⟨f0,f1,f2,f3,f4,f5,f6,f7,f8,f9,f10,f11⟩
       simp only [lgA,lgZ,lgS]
       go_simp
      simp only [lgA,lgZ,lgS,Act.put,lsA,lsZ,lsS]
      refine wpAnyG.tA 3 (v:=.agg #[.bool pA,.slice aA nA cA,.slice dA mA lA]) (by decide) 17 (by kernel_rfl) (by rfl) ?y3 (HBX _ hc0) ?_
      case y3 =>
       rintro w' ⟨f0,f1,f2,f3,f4,f5,f6,f7,f8,f9,f10,f11⟩
       simp only [lgA,lgZ,lgS]
       go_simp
      simp only [lgA,lgZ,lgS,Act.put,lsA,lsZ,lsS]
      refine wpAnyG.tA 4 (v:=.pointer (some ⟨w.heap.size,6,none⟩)) (by decide) 17 (by kernel_rfl) (by rfl) ?y4 (HBX _ hc0) ?_
      case y4 =>
       rintro w' ⟨f0,f1,f2,f3,f4,f5,f6,f7,f8,f9,f10,f11⟩
       simp only [lgA,lgZ,lgS]
       go_simp
      simp only [lgA,lgZ,lgS,Act.put,lsA,lsZ,lsS]
      refine wpAnyG.tA 5 (v:=.slice (some ⟨rb,ro,none⟩) P.rn P.rc) (by decide) 17 (by kernel_rfl) (by rfl) ?y5 (HBX _ hc0) ?_
      case y5 =>
       rintro w' ⟨f0,f1,f2,f3,f4,f5,f6,f7,f8,f9,f10,f11⟩
       simp only [lgA,lgZ,lgS]
       go_simp
      simp only [lgA,lgZ,lgS,Act.put,lsA,lsZ,lsS]
      refine wpAnyG.tA 6 (v:=.int .i64 (i:Int)) (by decide) 17 (by kernel_rfl) (by rfl) ?y6 (HBX _ hc0) ?_
      case y6 =>
       rintro w' ⟨f0,f1,f2,f3,f4,f5,f6,f7,f8,f9,f10,f11⟩
       simp only [lgA,lgZ,lgS]
       go_simp
      simp only [lgA,lgZ,lgS,Act.put,lsA,lsZ,lsS]
      refine wpAnyG.tA 7 (v:=.pointer (some ⟨rb,ro + i * 10,none⟩)) (by decide) 17 (by kernel_rfl) (by rfl) ?y7 (HBX _ hc0) ?_
      case y7 =>
       rintro w' ⟨f0,f1,f2,f3,f4,f5,f6,f7,f8,f9,f10,f11⟩
       simp only [lgA,lgZ,lgS]
       go_simp
      simp only [lgA,lgZ,lgS,Act.put,lsA,lsZ,lsS]
      refine wpAnyG.tA 8 (v:=.pointer (some ⟨rb,ro + i * 10 + 2,none⟩)) (by decide) 17 (by kernel_rfl) (by rfl) ?y8 (HBX _ hc0) ?_
      case y8 =>
       rintro w' ⟨f0,f1,f2,f3,f4,f5,f6,f7,f8,f9,f10,f11⟩
       simp only [lgA,lgZ,lgS]
       go_simp
      simp only [lgA,lgZ,lgS,Act.put,lsA,lsZ,lsS]
      refine wpAnyG.tA 9 (v:=.agg #[.bool hl,.bool pl,.slice al nl cl,.slice dl ml ll]) (by decide) 17 (by kernel_rfl) (by rfl) ?y9 (HBX _ hc0) ?_
      case y9 =>
       rintro w' ⟨f0,f1,f2,f3,f4,f5,f6,f7,f8,f9,f10,f11⟩
       simp only [lgA,lgZ,lgS]
       go_simp
      simp only [lgA,lgZ,lgS,Act.put,lsA,lsZ,lsS]
      refine wpAnyG.tA 10 (v:=.pointer (some ⟨w.heap.size,6,none⟩)) (by decide) 17 (by kernel_rfl) (by rfl) ?y10 (HBX _ hc0) ?_
      case y10 =>
       rintro w' ⟨f0,f1,f2,f3,f4,f5,f6,f7,f8,f9,f10,f11⟩
       simp only [lgA,lgZ,lgS]
       go_simp
      simp only [lgA,lgZ,lgS,Act.put,lsA,lsZ,lsS]
      refine wpAnyG.tA 11 (v:=.slice (some ⟨rb,ro,none⟩) P.rn P.rc) (by decide) 17 (by kernel_rfl) (by rfl) ?y11 (HBX _ hc0) ?_
      case y11 =>
       rintro w' ⟨f0,f1,f2,f3,f4,f5,f6,f7,f8,f9,f10,f11⟩
       simp only [lgA,lgZ,lgS]
       go_simp
      simp only [lgA,lgZ,lgS,Act.put,lsA,lsZ,lsS]
      refine wpAnyG.tA 12 (v:=.int .i64 (i:Int)) (by decide) 17 (by kernel_rfl) (by rfl) ?y12 (HBX _ hc0) ?_
      case y12 =>
       rintro w' ⟨f0,f1,f2,f3,f4,f5,f6,f7,f8,f9,f10,f11⟩
       simp only [lgA,lgZ,lgS]
       go_simp
      simp only [lgA,lgZ,lgS,Act.put,lsA,lsZ,lsS]
      refine wpAnyG.tA 13 (v:=.pointer (some ⟨rb,ro + i * 10,none⟩)) (by decide) 17 (by kernel_rfl) (by rfl) ?y13 (HBX _ hc0) ?_
      case y13 =>
       rintro w' ⟨f0,f1,f2,f3,f4,f5,f6,f7,f8,f9,f10,f11⟩
       simp only [lgA,lgZ,lgS]
       go_simp
      simp only [lgA,lgZ,lgS,Act.put,lsA,lsZ,lsS]
      refine wpAnyG.tA 14 (v:=.pointer (some ⟨rb,ro + i * 10 + 6,none⟩)) (by decide) 17 (by kernel_rfl) (by rfl) ?y14 (HBX _ hc0) ?_
      case y14 =>
       rintro w' ⟨f0,f1,f2,f3,f4,f5,f6,f7,f8,f9,f10,f11⟩
       simp only [lgA,lgZ,lgS]
       go_simp
      simp only [lgA,lgZ,lgS,Act.put,lsA,lsZ,lsS]
      refine wpAnyG.tA 15 (v:=.agg #[.bool hh,.bool ph,.slice ah nh ch,.slice dh mh lh]) (by decide) 17 (by kernel_rfl) (by rfl) ?y15 (HBX _ hc0) ?_
      case y15 =>
       rintro w' ⟨f0,f1,f2,f3,f4,f5,f6,f7,f8,f9,f10,f11⟩
       simp only [lgA,lgZ,lgS]
       go_simp
      simp only [lgA,lgZ,lgS,Act.put,lsA,lsZ,lsS]
      refine wpAnyG.one 16 (by kernel_rfl) (by decide) (by rfl) (fun K hK=>?_)
      simp only [lgA,lgZ,lgS]
      go_simp
      refine (HWI z0 hc0).mono ?_
      rintro e z1 ⟨rfl,hk1⟩
      have hc1:Below wr.heap.size wr z1:=aB hc0 hk1
      dsimp only
      refine hK _ _ (HBX _ hc1) ?_
      clear hK K
      refine wpAnyG.one 17 (by kernel_rfl) (by decide) (by rfl) (fun K hK=>?_)
      simp only [lgA,lgZ,lgS]
      go_simp
      refine hK _ _ (HBX _ hc1) ?_
      clear hK K
      refine wpAnyG.done (by kernel_rfl) (NoPanic.normal ?_)
      replace hb2:=aB hb2 hc1
      clear HBX HWI hk1 hc0 hc1 qb
      have ecv:cv (P.R i) (xn X P.vn) P.vn = cv (P.R i) X P.vn:=aL7 _ _ _
      cases bq
      ·go_wp2
       go_ret
       refine ⟨false,rfl,⟨(fun h=>by cases h),fun h=>?_⟩,aB hbel1 hb2⟩
       have h2:=h.2.2 i hlt
       rw [← ecv,← HE.out.1,← HE.out.2,← EB.out] at h2
       cases h2
      ·have HY':∀ j,j < i + 1→eF (cv (P.R j) (xn X P.vn) P.vn) (P.R j).hlo (P.R j).lo (P.R j).hhi (P.R j).hi = true:=by
        intro j hj
        rcases (by omega:j < i∨j = i) with h | rfl
        ·exact HY2 j h
        ·rw [← HE.out.1,← HE.out.2,← EB.out]
       clear HY2 ecv
       go_wp2
       go_roundw
       case rel=>first | exact ⟨i + 1,by omega,by go_num,HY',hb2⟩ | ((repeat apply Exists.intro);refine ⟨?_,rfl⟩;exact ⟨i + 1,by omega,by go_num,HY',hb2⟩)
       case measure=>simp [intOf];omega
     ·have hkI:¬ (i:Int) < (P.rn:Int):=by omega
      obtain rfl:i = P.rn:=by omega
      go_wp2
      go_ret
      exact .inr ⟨rfl,⟨rfl,HY,fun j hj=>by have h:=HY2 j hj;rw [aL7] at h;exact h⟩,aB hbel1 hb2⟩
 ·have hnI:¬ ((n:Int) = (P.vn:Int)):=by omega
  have p5:=Pb 5 _ rfl
  go_enter Tryz.func12,Tryz.ntmps12
  go_wp2
  go_ret
  exact .inl ⟨rfl,fun h=>hnv h.1,hb⟩
theorem aG1 (P:Prob) {xa:Option Addr} {n xc:Nat} {X:Nat→Rat} {Z:Nat→Nat} {S T U:Nat} (w:World) (hP:PQ w P) (hx:LQ w xa n X Z) (hz:∀ j,j < n→1≤Z j∧Z j≤U) (hU:1≤U∧U≤4900000) (hS:∀ i,i < P.rn→P.ZR i + U≤S) (hST:T + S≤5999999) (hT2:1≤T∧T≤4900000) (hK:P.K≤1048576)
 (hsz:∀ i k,i < P.rn→k≤(P.R i).nt→SzR (aQ (tv (P.R i) (xn X n) P.vn) k) T) :
 Calls Tryz.prog 12 #[P.val,.slice xa n xc] w fun e w'=>∃ b,e = .returned (.bool b)∧(b = true↔bY P n X)∧Below w.heap.size w w':=aJ4 P w hP hx hz hU hS hST hT2 (hP.hk hK) hsz
end Go.Proofs.YtnokmjmefipplaaGreatDoor

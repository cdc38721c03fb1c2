import Derived.Test.YtnokmjmefipplaaGreatDoorPqF
import Derived.Test.YtnokmjmefipplaaGreatDoorR3H
namespace Go.Proofs.YtnokmjmefipplaaGreatDoor
open Go.RowKit
def Whl (P:Prob) (n:Nat) (X:Nat→Rat):Prop:=n = P.vn∧∀ j,j < P.vn→(P.V j).whole = true→(X j).den = 1
set_option maxRecDepth 100000 in
set_option maxHeartbeats 8000000 in
theorem aM9 (P:Prob) {xa:Option Addr} {n xc:Nat} {X:Nat→Rat} {Z:Nat→Nat} (w:World) (hP:PQ w P) (hx:LQ w xa n X Z) (hz0:∀ j,j < n→1≤Z j∧Z j≤6000000) (hK:P.K≤1048576) :
 Calls Tryz.prog 45 #[P.val,.slice xa n xc] w fun e w'=>∃ b,e = .returned (.bool b)∧(b = true↔Whl P n X)∧Below w.heap.size w w':=by
 have HZ0:Hid (∀ j,j < n→1≤Z j∧Z j≤6000000):=hz0
 have hvn:P.vn≤1048576:=by have:=hP.all;have:=aT P.ZV P.vn;omega
 clear hz0
 unfold Prob.val
 have hb:=aG w (.cells #[.bool P.mx,.string P.nm,.bool P.p,.slice P.a P.na P.ca,.slice P.d P.nd P.cd,.slice P.va P.vn P.vc,.slice P.ra P.rn P.rc] 31)
 by_cases hnv:n = P.vn
 ·subst hnv
  go_enter Tryz.func45,Tryz.ntmps45
  go_wp2
  generalize w.alloc (.cells #[.bool P.mx,.string P.nm,.bool P.p,.slice P.a P.na P.ca,.slice P.d P.nd P.cd,.slice P.va P.vn P.vc,.slice P.ra P.rn P.rc] 31) = W at *
  go_loopw [16] (fun s16 wr=>∃ (i:Nat),i≤P.vn∧s16 = .int .i64 i∧(∀ j,j < i→(P.V j).whole = true→(X j).den = 1)∧Below w.heap.size w wr) (fun s16 _=>P.vn - (intOf s16).toNat)
  case atStart=>exact ⟨0,Nat.zero_le _,rfl,fun j hj=>by omega,hb⟩
  case round =>
   obtain ⟨i,hi,rfl,HY,hbel⟩:=hrel
   by_cases hlt:i < P.vn
   ·have hkI:(i:Int) < (P.vn:Int):=by omega
    rcases (hx.below hbel) with h0 | ⟨bx,ox,rfl,helx⟩
    ·omega
    obtain ⟨pA,aA,nA,cA,dA,mA,lA,c0,c1,c2,hA⟩:=helx i (by omega)
    rcases (hP.v.below hbel) with h0 | ⟨bv,ov,hva,hev⟩
    ·omega
    have hV:=hev i hlt
    obtain ⟨hzi1,hzi2⟩:=HZ0.out i (by omega)
    obtain ⟨nmV,enm⟩:∃ nmV,nmV = (P.V i).nm:=⟨_,rfl⟩
    obtain ⟨hl,ehl⟩:∃ hl,hl = (P.V i).hlo:=⟨_,rfl⟩
    obtain ⟨hh,ehh⟩:∃ hh,hh = (P.V i).hhi:=⟨_,rfl⟩
    obtain ⟨wh,ewh⟩:∃ wh,wh = (P.V i).whole:=⟨_,rfl⟩
    have r0:=hV.nm
    obtain ⟨pO,aO,nO,cO,dO,mO,lO,r1,r2,r3,_⟩:=hV.obj
    have r4:=hV.hlo
    obtain ⟨pl,al,nl,cl,dl,ml,ll,r5,r6,r7,_⟩:=hV.lo
    have r8:=hV.hhi
    obtain ⟨ph,ah,nh,ch,dh,mh,lh,r9,r10,r11,_⟩:=hV.hi
    have r12:=hV.whole
    rw [← enm] at r0
    rw [← ehl] at r4
    rw [← ehh] at r8
    rw [← ewh] at r12
    have HE:Hid (wh = (P.V i).whole):=ewh
    have hkI2:(i:Int) * 13 = ((i * 13:Nat):Int):=by omega
    have hkI3:(i:Int) * 3 = ((i * 3:Nat):Int):=by omega
    have hva':P.va = some ⟨bv,ov,none⟩:=hva
    have hz:=aG wr (.cells #[.string nmV,.bool pO,.slice aO nO cO,.slice dO mO lO,.bool hl,.bool pl,.slice al nl cl,.slice dl ml ll,.bool hh,.bool ph,.slice ah nh ch,.slice dh mh lh,.bool wh] 45)
    have hbel2:=aB hbel hz
    clear hev hV enm ehl ehh ewh hva helx
    cases wh
    ·have HY':∀ j,j < i + 1→(P.V j).whole = true→(X j).den = 1:=by
      intro j hj hw
      rcases (by omega:j < i∨j = i) with h | rfl
      ·exact HY j h hw
      ·rw [← HE.out] at hw;cases hw
     clear HY HE
     go_wp2
     go_roundw
     case rel=>first | exact ⟨i + 1,by omega,by go_num,HY',hbel2⟩ | ((repeat apply Exists.intro);refine ⟨?_,rfl⟩;exact ⟨i + 1,by omega,by go_num,HY',hbel2⟩)
     case measure=>simp [intOf];omega
    ·replace c0:=aF hz c0
     replace c1:=aF hz c1
     replace c2:=aF hz c2
     replace hA:=hA.below hz
     go_wp2_with fail
     refine (isWholeQ _ hA (by omega) (by omega)).mono ?_
     rintro e v1 ⟨rfl,hb1⟩
     replace hbel2:=aB hbel2 hb1
     obtain ⟨bq,ebq⟩:∃ bq,bq = decide ((X i).den = 1):=⟨_,rfl⟩
     rw [← ebq]
     have EB:Hid (bq = decide ((X i).den = 1)):=ebq
     clear ebq c0 c1 c2 r0 r1 r2 r3 r4 r5 r6 r7 r8 r9 r10 r11 r12 hb1 hA hz
     cases bq
     ·go_wp2
      go_ret
      refine ⟨false,rfl,⟨(fun h=>by cases h),fun h=>?_⟩,hbel2⟩
      have h2:=h.2 i hlt HE.out.symm
      have h3:=EB.out
      rw [decide_eq_true h2] at h3
      cases h3
     ·have HY':∀ j,j < i + 1→(P.V j).whole = true→(X j).den = 1:=by
       intro j hj hw
       rcases (by omega:j < i∨j = i) with h | rfl
       ·exact HY j h hw
       ·exact of_decide_eq_true EB.out.symm
      clear HY
      clear hva'
      go_wp2
      go_roundw
      case rel=>first | exact ⟨i + 1,by omega,by go_num,HY',hbel2⟩ | ((repeat apply Exists.intro);refine ⟨?_,rfl⟩;exact ⟨i + 1,by omega,by go_num,HY',hbel2⟩)
      case measure=>simp [intOf];omega
   ·have hkI:¬ (i:Int) < (P.vn:Int):=by omega
    obtain rfl:i = P.vn:=by omega
    go_wp2
    go_ret
    exact .inr ⟨rfl,⟨rfl,HY⟩,hbel⟩
 ·have hnI:¬ ((n:Int) = (P.vn:Int)):=by omega
  go_enter Tryz.func45,Tryz.ntmps45
  go_wp2
  go_ret
  exact ⟨false,rfl,⟨(fun h=>by cases h),fun h=>absurd h.1 hnv⟩,hb⟩
end Go.Proofs.YtnokmjmefipplaaGreatDoor

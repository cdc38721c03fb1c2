import Derived.Test.YtmeimjakdheidaaGreatDoorPqEAll
namespace Go.Proofs.YtmeimjakdheidaaGreatDoor
open Go.RowKit
def sW (P:Prob) (n:Nat) (X:Nat→Rat):Prop :=
 n=P.vn∧(∀ j,j<P.vn→fV (X j) (P.V j).hlo (P.V j).lo (P.V j).hhi (P.V j).hi=true)∧∀ i,i<P.rn→fV (cv (P.R i) X P.vn) (P.R i).hlo (P.R i).lo (P.R i).hhi (P.R i).hi=true
set_option maxRecDepth 100000 in
set_option maxHeartbeats 8000000 in
theorem holdsQ (P:Prob) {xa:Option Addr} {n xc:Nat} {X:Nat→Rat} {Z:Nat→Nat} {S T:Nat} {Dx Ax:Int} {dx ax:Nat} (w:World) (hP:PQ w P) (hx:LQ w xa n X Z) (hn:n≤xc) (hz0:∀ j,j<n→1≤Z j∧Z j≤6000000) (hz:∀ i j,i<P.rn→j<min n P.vn→1≤Z j∧P.ZR i+Z j≤S) (hS1:1≤S)
 (hST:T+S≤6000000) (hD:0<Dx) (hd:Dx<pw dx) (hA0:0≤Ax) (hA:Ax<pw ax) (hX:∀ j,j<min n P.vn→Ov Dx Ax (X j)) (hT1:∀ i,i<P.rn→P.ZR i+P.ZR i+ax+dx+2≤T) (hT0:1≤T) (hK:P.K≤1048576) (hT:TB w) :
 Calls Tryz.prog 12 #[P.val,.slice xa n xc] w fun e w'=>∃ b,e = .returned (.bool b)∧(b=true↔sW P n X)∧Below w.heap.size w w':=by
 have HSUM:=fun w1 (hb:Below w.heap.size w w1)=>sumsQ P w1 (hP.below hb) (hx.below hb) hn rfl hz hS1 hST hD hd hA0 hA hX hT1 hT0 hK (hT.below hb)
 have HZ0:Hid (∀ j,j<n→1≤Z j∧Z j≤6000000):=hz0
 have hrn:P.rn≤1048576:=by have:=hP.all;have:=dI P.ZR P.rn;omega
 have hvn:P.vn≤1048576:=by have:=hP.all;have:=dI P.ZV P.vn;omega
 clear hX hz hT1 hD hd hA0 hA hz0
 unfold Prob.val
 have P0:=aQ w #[.bool P.mx,.string P.nm,.bool P.p,.slice P.a P.na P.ca,.slice P.d P.nd P.cd,.slice P.va P.vn P.vc,.slice P.ra P.rn P.rc] 31
 have hb:=aI w (.cells #[.bool P.mx,.string P.nm,.bool P.p,.slice P.a P.na P.ca,.slice P.d P.nd P.cd,.slice P.va P.vn P.vc,.slice P.ra P.rn P.rc] 31)
 have hs:w.heap.size+1≤(w.alloc (.cells #[.bool P.mx,.string P.nm,.bool P.p,.slice P.a P.na P.ca,.slice P.d P.nd P.cd,.slice P.va P.vn P.vc,.slice P.ra P.rn P.rc] 31)).heap.size:=by simp
 by_cases hnv:n=P.vn
 ·subst hnv
  go_enter Tryz.func12,Tryz.ntmps12
  go_wp2
  generalize w.alloc (.cells #[.bool P.mx,.string P.nm,.bool P.p,.slice P.a P.na P.ca,.slice P.d P.nd P.cd,.slice P.va P.vn P.vc,.slice P.ra P.rn P.rc] 31)=W at *
  go_loopw [18] (fun s18 wr=>∃ (i:Nat),i≤P.vn∧s18 = .int .i64 i∧(∀ j,j<i→fV (X j) (P.V j).hlo (P.V j).lo (P.V j).hhi (P.V j).hi=true)∧Below w.heap.size w wr∧Below W.heap.size W wr) (fun s18 _=>P.vn-(intOf s18).toNat)
  case atStart=>exact ⟨0,Nat.zero_le _,rfl,fun j hj=>by omega,hb,Below.refl _ _⟩
  case round =>
   obtain ⟨i,hi,rfl,HY,hbel,hbw⟩:=hrel
   by_cases hlt:i<P.vn
   ·have hkI:(i:Int)<(P.vn:Int):=by omega
    rcases (hx.below hbel) with h0|⟨bx,ox,rfl,helx⟩
    ·omega
    obtain ⟨pA,aA,nA,cA,dA,mA,lA,c0,c1,c2,hA⟩:=helx i (by omega)
    rcases (hP.v.below hbel) with h0|⟨bv,ov,hva,hev⟩
    ·omega
    have hV:=hev i hlt
    have hZi:P.ZV i≤1048576:=by have:=bY (Z:=P.ZV) hlt;have:=hP.all;omega
    obtain ⟨hzi1,hzi2⟩:=HZ0.out i (by omega)
    have hs1v:=hV.s1
    obtain ⟨nmV,enm⟩:∃ nmV,nmV=(P.V i).nm:=⟨_,rfl⟩
    obtain ⟨hl,ehl⟩:∃ hl,hl=(P.V i).hlo:=⟨_,rfl⟩
    obtain ⟨hh,ehh⟩:∃ hh,hh=(P.V i).hhi:=⟨_,rfl⟩
    obtain ⟨wh,ewh⟩:∃ wh,wh=(P.V i).whole:=⟨_,rfl⟩
    have r0:=hV.nm
    obtain ⟨pO,aO,nO,cO,dO,mO,lO,r1,r2,r3,_⟩:=hV.obj
    have r4:=hV.hlo
    obtain ⟨pl,al,nl,cl,dl,ml,ll,r5,r6,r7,hlo⟩:=hV.lo
    have r8:=hV.hhi
    obtain ⟨ph,ah,nh,ch,dh,mh,lh,r9,r10,r11,hhi⟩:=hV.hi
    have r12:=hV.whole
    rw [← enm] at r0
    rw [← ehl] at r4
    rw [← ehh] at r8
    rw [← ewh] at r12
    have HE:Hid (hl=(P.V i).hlo∧hh=(P.V i).hhi):=⟨ehl,ehh⟩
    have hkI2:(i:Int)*13=((i*13:Nat):Int):=by omega
    have hkI3:(i:Int)*3=((i*3:Nat):Int):=by omega
    have hva':P.va=some ⟨bv,ov,none⟩:=hva
    clear hev hV enm ehl ehh ewh hva helx
    go_wp2_with fail
    have N:=aQ wr #[.string nmV,.bool pO,.slice aO nO cO,.slice dO mO lO,.bool hl,.bool pl,.slice al nl cl,.slice dl ml ll,.bool hh,.bool ph,.slice ah nh ch,.slice dh mh lh,.bool wh] 50
    have hz:=aI wr (.cells #[.string nmV,.bool pO,.slice aO nO cO,.slice dO mO lO,.bool hl,.bool pl,.slice al nl cl,.slice dl ml ll,.bool hh,.bool ph,.slice ah nh ch,.slice dh mh lh,.bool wh] 50)
    replace hA:=hA.below hz
    replace hlo:=hlo.below hz
    replace hhi:=hhi.below hz
    have hbel2:=aF hbel hz
    have hbw2:=aF hbw hz
    replace c0:=aG hz c0
    replace c1:=aG hz c1
    replace c2:=aG hz c2
    have n4:=N 4 _ rfl
    have n5:=N 5 _ rfl
    have n6:=N 6 _ rfl
    have n7:=N 7 _ rfl
    have n8:=N 8 _ rfl
    have n9:=N 9 _ rfl
    have n10:=N 10 _ rfl
    have n11:=N 11 _ rfl
    clear r0 r1 r2 r3 r4 r5 r6 r7 r8 r9 r10 r11 r12 N hz hbel hbw
    generalize wr.alloc (.cells #[.string nmV,.bool pO,.slice aO nO cO,.slice dO mO lO,.bool hl,.bool pl,.slice al nl cl,.slice dl ml ll,.bool hh,.bool ph,.slice ah nh ch,.slice dh mh lh,.bool wh] 50)=W2 at *
    have HB:∀ w',Below W2.heap.size W2 w'→(w'.cell? ⟨bx,ox+i*3,none⟩=some (.bool pA)∧w'.cell? ⟨bx,ox+i*3+1,none⟩=some (.slice aA nA cA)∧w'.cell? ⟨bx,ox+i*3+2,none⟩=some (.slice dA mA lA)∧w'.cell? ⟨wr.heap.size,4,none⟩=some (.bool hl)∧w'.cell? ⟨wr.heap.size,5,none⟩=some (.bool pl)∧w'.cell? ⟨wr.heap.size,6,none⟩=some (.slice al nl cl)∧w'.cell? ⟨wr.heap.size,7,none⟩=some (.slice dl ml ll)∧w'.cell? ⟨wr.heap.size,8,none⟩=some (.bool hh)∧w'.cell? ⟨wr.heap.size,9,none⟩=some (.bool ph)∧w'.cell? ⟨wr.heap.size,10,none⟩=some (.slice ah nh ch)∧w'.cell? ⟨wr.heap.size,11,none⟩=some (.slice dh mh lh)):=fun w' h=>⟨aG h c0,aG h c1,aG h c2,aG h n4,aG h n5,aG h n6,aG h n7,aG h n8,aG h n9,aG h n10,aG h n11⟩
    go_region_held3 (fun w'=>w'.cell? ⟨bx,ox+i*3,none⟩=some (.bool pA)∧w'.cell? ⟨bx,ox+i*3+1,none⟩=some (.slice aA nA cA)∧w'.cell? ⟨bx,ox+i*3+2,none⟩=some (.slice dA mA lA)∧w'.cell? ⟨wr.heap.size,4,none⟩=some (.bool hl)∧w'.cell? ⟨wr.heap.size,5,none⟩=some (.bool pl)∧w'.cell? ⟨wr.heap.size,6,none⟩=some (.slice al nl cl)∧w'.cell? ⟨wr.heap.size,7,none⟩=some (.slice dl ml ll)∧w'.cell? ⟨wr.heap.size,8,none⟩=some (.bool hh)∧w'.cell? ⟨wr.heap.size,9,none⟩=some (.bool ph)∧w'.cell? ⟨wr.heap.size,10,none⟩=some (.slice ah nh ch)∧w'.cell? ⟨wr.heap.size,11,none⟩=some (.slice dh mh lh))
     (with_reducible refine HB _ ?_;repeat' (first|with_reducible exact hc1|with_reducible exact Below.refl _ _|with_reducible refine fZ ?_|with_reducible refine fB ?_))
     ((first
      | (go_at_call 39;go_fit (withinQ (lo:=(P.V i).lo) (hi:=(P.V i).hi) (R:=P.ZV i) _ (hA.below (by first|exact aK _|exact dB _ _)) (hlo.below (by first|exact aK _|exact dB _ _)) (hhi.below (by first|exact aK _|exact dB _ _)) (by omega) (by omega) (by omega));rintro e v1 ⟨rfl,hb1⟩;have hc1:Below W2.heap.size W2 v1:=(by first|exact aF (aK _) hb1|exact aF (dB _ _) hb1))))
    replace hbel2:=aF hbel2 hc1
    replace hbw2:=aF hbw2 hc1
    obtain ⟨bq,ebq⟩:∃ bq,bq=fV (X i) hl (P.V i).lo hh (P.V i).hi:=⟨_,rfl⟩
    rw [← ebq]
    have EB:Hid (bq=fV (X i) hl (P.V i).lo hh (P.V i).hi):=ebq
    clear HB ebq hc1 hA hlo hhi c0 c1 c2 n4 n5 n6 n7 n8 n9 n10 n11
    cases bq
    ·go_wp2
     go_ret
     refine ⟨false,rfl,⟨(fun h=>by cases h),fun h=>?_⟩,hbel2⟩
     have h2:=h.2.1 i hlt
     rw [← HE.out.1,← HE.out.2,← EB.out] at h2
     cases h2
    ·have HY':∀ j,j<i+1→fV (X j) (P.V j).hlo (P.V j).lo (P.V j).hhi (P.V j).hi=true:=by
      intro j hj
      rcases (by omega:j<i∨j=i) with h|rfl
      ·exact HY j h
      ·rw [← HE.out.1,← HE.out.2,← EB.out]
     clear HY
     rw [← hva']
     clear hva'
     go_wp2
     go_roundw
     case rel=>first|exact ⟨i+1,by omega,by go_num,HY',hbel2,hbw2⟩|((repeat apply Exists.intro);refine ⟨?_,rfl⟩;exact ⟨i+1,by omega,by go_num,HY',hbel2,hbw2⟩)
     case measure=>simp [intOf];omega
   ·have hkI:¬ (i:Int)<(P.vn:Int):=by omega
    obtain rfl:i=P.vn:=by omega
    have Q:=P0.below hbw
    have q0:=Q 0 _ rfl
    have q1:=Q 1 _ rfl
    have q2:=Q 2 _ rfl
    have q3:=Q 3 _ rfl
    have q4:=Q 4 _ rfl
    have q5:=Q 5 _ rfl
    have q6:=Q 6 _ rfl
    have HH:=HSUM wr hbel
    clear HSUM
    go_wp2_with fail
    refine HH.mono ?_
    clear HH q0 q1 q2 q3 q4 q5 q6
    rintro e w1 ⟨sa,sc,rfl,L,h1⟩
    have hbel1:=aF hbel h1
    have Q1:=Q.below h1
    clear hbel hbw h1 Q P0 hb
    have emin:min P.vn P.vn=P.vn:=by omega
    rw [emin] at L
    clear emin
    go_wp2
    go_loopw [38] (fun s38 wr=>∃ (i:Nat),i≤P.rn∧s38 = .int .i64 i∧(∀ j,j<i→fV (cv (P.R j) X P.vn) (P.R j).hlo (P.R j).lo (P.R j).hhi (P.R j).hi=true)∧Below w1.heap.size w1 wr) (fun s38 _=>P.rn-(intOf s38).toNat)
    case atStart=>exact ⟨0,Nat.zero_le _,rfl,fun j hj=>by omega,Below.refl _ _⟩
    case round =>
     obtain ⟨i,hi,rfl,HY2,hb2⟩:=hrel
     by_cases hlt:i<P.rn
     ·have hkI:(i:Int)<(P.rn:Int):=by omega
      rcases (L.below hb2).lq with h0|⟨bx,ox,rfl,helx⟩
      ·omega
      obtain ⟨pA,aA,nA,cA,dA,mA,lA,c0,c1,c2,hA⟩:=helx i hlt
      have hbel2:=aF hbel1 hb2
      rcases (hP.r.below hbel2) with h0|⟨rb,ro,hra,hew⟩
      ·omega
      have hR:=hew i hlt
      have hZi:P.ZR i≤1048576:=by have:=bY (Z:=P.ZR) hlt;have:=hP.all;omega
      have hs1r:=hR.s1
      obtain ⟨hl,ehl⟩:∃ hl,hl=(P.R i).hlo:=⟨_,rfl⟩
      obtain ⟨hh,ehh⟩:∃ hh,hh=(P.R i).hhi:=⟨_,rfl⟩
      have r2:=hR.hlo
      obtain ⟨pl,al,nl,cl,dl,ml,ll,r3,r4,r5,hlo⟩:=hR.lo
      have r6:=hR.hhi
      obtain ⟨ph,ah,nh,ch,dh,mh,lh,r7,r8,r9,hhi⟩:=hR.hi
      rw [← ehl] at r2
      rw [← ehh] at r6
      have HE:Hid (hl=(P.R i).hlo∧hh=(P.R i).hhi):=⟨ehl,ehh⟩
      have hkI2:(i:Int)*10=((i*10:Nat):Int):=by omega
      have hkI3:(i:Int)*3=((i*3:Nat):Int):=by omega
      have hra':P.ra=some ⟨rb,ro,none⟩:=hra
      have q6:=(Q1.below hb2) 6 _ rfl
      rw [hra'] at q6
      clear hew hR ehl ehh hra helx
      go_wp2_with fail
      have N:=aU wr (.bool pA) (.slice aA nA cA) (.slice dA mA lA) 27
      have hz:=aI wr (.cells #[.bool pA,.slice aA nA cA,.slice dA mA lA] 27)
      replace hA:=hA.below hz
      replace hlo:=hlo.below hz
      replace hhi:=hhi.below hz
      replace hbel2:=aF hbel2 hz
      have hb3:=aF hb2 hz
      replace q6:=aG hz q6
      replace r2:=aG hz r2
      replace r3:=aG hz r3
      replace r4:=aG hz r4
      replace r5:=aG hz r5
      replace r6:=aG hz r6
      replace r7:=aG hz r7
      replace r8:=aG hz r8
      replace r9:=aG hz r9
      obtain ⟨n0,n1,n2,_,_,_⟩:=id N
      clear hz c0 c1 c2
      generalize wr.alloc (.cells #[.bool pA,.slice aA nA cA,.slice dA mA lA] 27)=W2 at *
      have HB:∀ w',Below W2.heap.size W2 w'→(w'.cell? ⟨wr.heap.size,0,none⟩=some (.bool pA)∧w'.cell? ⟨wr.heap.size,1,none⟩=some (.slice aA nA cA)∧w'.cell? ⟨wr.heap.size,2,none⟩=some (.slice dA mA lA)∧w'.cell? ⟨w.heap.size,6,none⟩=some (.slice (some ⟨rb,ro,none⟩) P.rn P.rc)∧w'.cell? ⟨rb,ro+i*10+2,none⟩=some (.bool hl)∧w'.cell? ⟨rb,ro+i*10+3,none⟩=some (.bool pl)∧w'.cell? ⟨rb,ro+i*10+3+1,none⟩=some (.slice al nl cl)∧w'.cell? ⟨rb,ro+i*10+3+2,none⟩=some (.slice dl ml ll)∧w'.cell? ⟨rb,ro+i*10+6,none⟩=some (.bool hh)∧w'.cell? ⟨rb,ro+i*10+7,none⟩=some (.bool ph)∧w'.cell? ⟨rb,ro+i*10+7+1,none⟩=some (.slice ah nh ch)∧w'.cell? ⟨rb,ro+i*10+7+2,none⟩=some (.slice dh mh lh)):=fun w' h=>⟨aG h n0,aG h n1,aG h n2,aG h q6,aG h r2,aG h r3,aG h r4,aG h r5,aG h r6,aG h r7,aG h r8,aG h r9⟩
      go_region_held3 (fun w'=>w'.cell? ⟨wr.heap.size,0,none⟩=some (.bool pA)∧w'.cell? ⟨wr.heap.size,1,none⟩=some (.slice aA nA cA)∧w'.cell? ⟨wr.heap.size,2,none⟩=some (.slice dA mA lA)∧w'.cell? ⟨w.heap.size,6,none⟩=some (.slice (some ⟨rb,ro,none⟩) P.rn P.rc)∧w'.cell? ⟨rb,ro+i*10+2,none⟩=some (.bool hl)∧w'.cell? ⟨rb,ro+i*10+3,none⟩=some (.bool pl)∧w'.cell? ⟨rb,ro+i*10+3+1,none⟩=some (.slice al nl cl)∧w'.cell? ⟨rb,ro+i*10+3+2,none⟩=some (.slice dl ml ll)∧w'.cell? ⟨rb,ro+i*10+6,none⟩=some (.bool hh)∧w'.cell? ⟨rb,ro+i*10+7,none⟩=some (.bool ph)∧w'.cell? ⟨rb,ro+i*10+7+1,none⟩=some (.slice ah nh ch)∧w'.cell? ⟨rb,ro+i*10+7+2,none⟩=some (.slice dh mh lh))
       (with_reducible refine HB _ ?_;repeat' (first|with_reducible exact hc1|with_reducible exact Below.refl _ _|with_reducible refine fZ ?_|with_reducible refine fB ?_))
       ((first
        | (go_at_call 39;go_fit (withinQ (lo:=(P.R i).lo) (hi:=(P.R i).hi) (R:=P.ZR i) _ (hA.below (by first|exact aK _|exact dB _ _)) (hlo.below (by first|exact aK _|exact dB _ _)) (hhi.below (by first|exact aK _|exact dB _ _)) (by omega) (by omega) (by omega));rintro e v1 ⟨rfl,hb1⟩;have hc1:Below W2.heap.size W2 v1:=(by first|exact aF (aK _) hb1|exact aF (dB _ _) hb1))))
      replace hbel2:=aF hbel2 hc1
      replace hb3:=aF hb3 hc1
      obtain ⟨bq,ebq⟩:∃ bq,bq=fV (cv (P.R i) X P.vn) hl (P.R i).lo hh (P.R i).hi:=⟨_,rfl⟩
      rw [← ebq]
      have EB:Hid (bq=fV (cv (P.R i) X P.vn) hl (P.R i).lo hh (P.R i).hi):=ebq
      clear HB ebq hc1 hA hlo hhi n0 n1 n2 q6 r2 r3 r4 r5 r6 r7 r8 r9 N
      cases bq
      ·go_wp2
       go_ret
       refine ⟨false,rfl,⟨(fun h=>by cases h),fun h=>?_⟩,hbel2⟩
       have h2:=h.2.2 i hlt
       rw [← HE.out.1,← HE.out.2,← EB.out] at h2
       cases h2
      ·have HY':∀ j,j<i+1→fV (cv (P.R j) X P.vn) (P.R j).hlo (P.R j).lo (P.R j).hhi (P.R j).hi=true:=by
        intro j hj
        rcases (by omega:j<i∨j=i) with h|rfl
        ·exact HY2 j h
        ·rw [← HE.out.1,← HE.out.2,← EB.out]
       clear HY2
       rw [← hra']
       clear hra'
       go_wp2
       go_roundw
       case rel=>first|exact ⟨i+1,by omega,by go_num,HY',hb3⟩|((repeat apply Exists.intro);refine ⟨?_,rfl⟩;exact ⟨i+1,by omega,by go_num,HY',hb3⟩)
       case measure=>simp [intOf];omega
     ·have hkI:¬ (i:Int)<(P.rn:Int):=by omega
      obtain rfl:i=P.rn:=by omega
      go_wp2
      go_ret
      exact .inr ⟨rfl,⟨rfl,HY,HY2⟩,aF hbel1 hb2⟩
 ·have hnI:¬ ((n:Int)=(P.vn:Int)):=by omega
  go_enter Tryz.func12,Tryz.ntmps12
  go_wp2
  go_ret
  exact .inl ⟨rfl,fun h=>hnv h.1,hb⟩
end Go.Proofs.YtmeimjakdheidaaGreatDoor

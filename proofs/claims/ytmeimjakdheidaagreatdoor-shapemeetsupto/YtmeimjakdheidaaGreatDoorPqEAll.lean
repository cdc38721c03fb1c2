import Derived.Test.YtmeimjakdheidaaGreatDoorPqAAll
namespace Go.Proofs.YtmeimjakdheidaaGreatDoor
open Go.RowKit
def tv (r:PW) (X:Nat→Rat) (m k:Nat):Rat:=if 0≤(r.t k).var∧(r.t k).var<(m:Int) then (r.t k).coef*X (r.t k).var.toNat else 0
def cv (r:PW) (X:Nat→Rat) (m:Nat):Rat:=bJ (tv r X m) r.nt
theorem bY {Z:Nat→Nat} {n i:Nat} (h:i<n):Z i≤tot Z n:=by have:=tot_one (Z:=Z) h;omega
theorem sum_sz {Y:Nat→Rat} {D A:Int} {n a d:Nat} (h:∀ i,i<n→Ov D A (Y i)) (hD:0<D) (hd:D<pw d) (hA0:0≤A) (hA:A<pw a) (hn:n≤18446744073709551615):∀ k,k≤n→SzR (bJ Y k) (1+a+d):=by
 intro k hk
 refine (rsum_ov h k hk).sz hD hd ?_ (by omega)
 have e1:(A.natAbs:Int)=A:=Int.natAbs_of_nonneg hA0
 have e0:pw 1=18446744073709551616:=rfl
 have h6:=mul_lt (x:=(k:Int)) (y:=A) (S:=1) (R:=a) (by omega) (by omega)
 have e3:(((k:Int)*A).natAbs:Int)=(k:Int)*A:=Int.natAbs_of_nonneg (Int.mul_nonneg (by omega) hA0)
 omega
theorem iT {A B:Int} {a b:Nat} (hA0:0≤A) (hA:A<pw a) (hB0:0≤B) (hB:B<pw b):A*B<pw (a+b)∧0≤A*B:=by
 have e1:(A.natAbs:Int)=A:=Int.natAbs_of_nonneg hA0
 have e2:(B.natAbs:Int)=B:=Int.natAbs_of_nonneg hB0
 have h6:=mul_lt (x:=A) (y:=B) (S:=a) (R:=b) (by omega) (by omega)
 have h0:=Int.mul_nonneg hA0 hB0
 have e3:((A*B).natAbs:Int)=A*B:=Int.natAbs_of_nonneg h0
 omega
theorem LT.sz {w:World} {a:Option Addr} {n:Nat} {t:Nat→PT} {Z:Nat→Nat} (h:LT w a n t Z):∀ q,q<n→SzR (t q).coef (Z q):=by
 intro q hq
 rcases h with h|⟨b,o,_,h⟩
 ·omega
 ·exact (h q hq).2.2.2.1
theorem row_sz {r:PW} {X:Nat→Rat} {Zt:Nat→Nat} {Y:Nat→Rat} {m c R dx ax:Nat} {Dx Ax:Int} (hC:∀ q,q<r.nt→SzR (r.t q).coef (Zt q)) (htot:tot Zt r.nt≤R) (hX:∀ j,j<m→Ov Dx Ax (X j)) (hD:0<Dx∧Dx<pw dx) (hA:0≤Ax∧Ax<pw ax)
 (HY:∀ j,j<c→∃ q,Y j=tv r X m q∧q<r.nt∧0≤(r.t q).var∧(r.t q).var<(m:Int)) (hc:c≤1048576):∀ k,k≤c→SzR (bJ Y k) (R+R+ax+dx+2):=by
 have hZ:∀ q,q<r.nt→Zt q≤R:=fun q hq=>by have:=bY (Z:=Zt) hq;omega
 have h1:∀ q,q<r.nt→Ov (jG (fun q=>(r.t q).coef) r.nt) (pw R) (r.t q).coef:=fun q hq=>yT (X:=fun q=>(r.t q).coef) (Z:=Zt) (T:=R) r.nt (fun i hi=>⟨hC i hi,hZ i hi⟩) q hq
 have p1:=mQ (fun q=>(r.t q).coef) r.nt
 have p2:jG (fun q=>(r.t q).coef) r.nt<pw R:=Int.lt_of_lt_of_le (yS (X:=fun q=>(r.t q).coef) (Z:=Zt) r.nt hC) (aT htot)
 generalize jG (fun q=>(r.t q).coef) r.nt=D at *
 have q1:=iT (A:=pw R) (B:=Ax) (a:=R+1) (b:=ax) (Int.le_of_lt (bG R)) (by have:=cZ R;have:=bG R;omega) hA.1 hA.2
 have q2:=iT (A:=D) (B:=Dx) (a:=R) (b:=dx) (Int.le_of_lt p1) p2 (Int.le_of_lt hD.1) hD.2
 have q3:0<D*Dx:=Int.mul_pos p1 hD.1
 intro k hk
 have h2:=sum_sz (Y:=Y) (D:=D*Dx) (A:=pw R*Ax) (n:=c) (a:=R+1+ax) (d:=R+dx) (fun j hj=>by
  obtain ⟨q,e1,e2,e3,e4⟩:=HY j hj
  rw [e1]
  unfold tv
  rw [if_pos ⟨e3,e4⟩]
  exact (h1 q e2).mul (hX _ (by omega))) q3 q2.1 q1.2 q1.1 (by omega) k hk
 exact h2.le (by omega)
set_option maxRecDepth 100000 in
set_option maxHeartbeats 8000000 in
theorem sumsQA (P:Prob) {xa:Option Addr} {n xc:Nat} {X:Nat→Rat} {Z:Nat→Nat} {S T m:Nat} {Dx Ax:Int} {dx ax:Nat} (w:World) (hP:PQ w P) (hx:LQ w xa n X Z) (hn:n≤xc) (hm:m=min n P.vn) (hz:∀ i j,i<P.rn→j<m→1≤Z j∧P.ZR i+Z j≤S) (hS1:1≤S)
 (hST:T+S≤6000000) (hD:0<Dx) (hd:Dx<pw dx) (hA0:0≤Ax) (hA:Ax<pw ax) (hX:∀ j,j<m→Ov Dx Ax (X j)) (hT1:∀ i,i<P.rn→P.ZR i+P.ZR i+ax+dx+2≤T) (hT0:1≤T) (hK:P.K≤1048576) (hT:TB w) :
 Calls Tryz.prog 19 #[P.val,.slice xa n xc] w fun e w'=>∃ a cap,e = .returned (.slice a P.rn cap)∧RA w' w.heap.size w'.heap.size (.slice a P.rn cap) P.rn (fun i=>cv (P.R i) X m) T∧Below w.heap.size w w':=by
 have HX:Hid (∀ j,j<m→Ov Dx Ax (X j)):=hX
 have HZ:Hid (∀ i j,i<P.rn→j<m→1≤Z j∧P.ZR i+Z j≤S):=hz
 have HT1:Hid (∀ i,i<P.rn→P.ZR i+P.ZR i+ax+dx+2≤T):=hT1
 have HDA:Hid ((0<Dx∧Dx<pw dx)∧0≤Ax∧Ax<pw ax):=⟨⟨hD,hd⟩,hA0,hA⟩
 have hrn:P.rn≤1048576:=by have:=hP.all;have:=dI P.ZR P.rn;omega
 clear hX hz hT1 hD hd hA0 hA
 unfold Prob.val
 go_enter Tryz.func19,Tryz.ntmps19
 go_wp2_with fail
 have P0:=aQ w #[.bool P.mx,.string P.nm,.bool P.p,.slice P.a P.na P.ca,.slice P.d P.nd P.cd,.slice P.va P.vn P.vc,.slice P.ra P.rn P.rc] 31
 have hb:=aI w (.cells #[.bool P.mx,.string P.nm,.bool P.p,.slice P.a P.na P.ca,.slice P.d P.nd P.cd,.slice P.va P.vn P.vc,.slice P.ra P.rn P.rc] 31)
 have hs:(w.alloc (.cells #[.bool P.mx,.string P.nm,.bool P.p,.slice P.a P.na P.ca,.slice P.d P.nd P.cd,.slice P.va P.vn P.vc,.slice P.ra P.rn P.rc] 31)).heap.size=w.heap.size+1:=by simp
 generalize w.alloc (.cells #[.bool P.mx,.string P.nm,.bool P.p,.slice P.a P.na P.ca,.slice P.d P.nd P.cd,.slice P.va P.vn P.vc,.slice P.ra P.rn P.rc] 31)=W at *
 refine (knownQ P xa n xc m W hn hm).mono ?_
 have hmn:m≤n:=by omega
 clear hm
 rintro e w1 ⟨rfl,h1⟩
 have hs1:=Below.size h1
 replace P0:=P0.below h1
 replace hb:=aF hb h1
 clear h1
 have p6:=P0 6 _ rfl
 go_wp2
 go_loopw [5,17] (fun s5 s17 wr=>∃ (i:Nat),i≤P.rn∧s17 = .int .i64 i∧RA wr (w.heap.size+1) wr.heap.size s5 i (fun j=>cv (P.R j) X m) T∧Below w.heap.size w wr∧w.heap.size+1≤wr.heap.size) (fun _ s17 _=>P.rn-(intOf s17).toNat)
 case atStart=>exact ⟨0,Nat.zero_le _,rfl,RA.nil (by omega) (Nat.le_refl _) _ _,hb,by omega⟩
 case round =>
  obtain ⟨i,hi,rfl,L,hbel,hsr⟩:=hrel
  clear P0 hb p6
  obtain ⟨o1,k1,rfl⟩:=L.form
  by_cases hlt:i<P.rn
  ·have hkI:(i:Int)<(P.rn:Int):=by omega
   rcases (hP.r.below hbel) with h0|⟨rb,ro,hra,hew⟩
   ·omega
   have hR:=hew i hlt
   have hZi:P.ZR i≤1048576:=by have:=bY (Z:=P.ZR) hlt;have:=hP.all;omega
   obtain ⟨nmR,enm⟩:∃ nmR,nmR=(P.R i).nm:=⟨_,rfl⟩
   obtain ⟨nt,ent⟩:∃ nt,nt=(P.R i).nt:=⟨_,rfl⟩
   obtain ⟨hl,ehl⟩:∃ hl,hl=(P.R i).hlo:=⟨_,rfl⟩
   obtain ⟨hh,ehh⟩:∃ hh,hh=(P.R i).hhi:=⟨_,rfl⟩
   have r0:=hR.nm
   obtain ⟨ta,tc,Zt,r1,hLT,htot,htc⟩:=hR.terms
   have r2:=hR.hlo
   obtain ⟨pl,al,nl,cl,dl,ml,ll,r3,r4,r5,_⟩:=hR.lo
   have r6:=hR.hhi
   obtain ⟨ph,ah,nh,ch,dh,mh,lh,r7,r8,r9,_⟩:=hR.hi
   rw [← enm] at r0
   rw [← ent] at r1 hLT htot htc
   rw [← ehl] at r2
   rw [← ehh] at r6
   have ENT:Hid (nt=(P.R i).nt):=ent
   have hkI2:(i:Int)*10=((i*10:Nat):Int):=by omega
   have hnt:nt≤1048576:=by have:=dI Zt nt;omega
   have hra':P.ra=some ⟨rb,ro,none⟩:=hra
   clear hew hR enm ent ehl ehh hra
   go_wp2
   have Bx:=aQ wr #[.string nmR,.slice ta nt tc,.bool hl,.bool pl,.slice al nl cl,.slice dl ml ll,.bool hh,.bool ph,.slice ah nh ch,.slice dh mh lh] 55
   have hz:=aI wr (.cells #[.string nmR,.slice ta nt tc,.bool hl,.bool pl,.slice al nl cl,.slice dl ml ll,.bool hh,.bool ph,.slice ah nh ch,.slice dh mh lh] 55)
   have hsz2:wr.heap.size+1≤(wr.alloc (.cells #[.string nmR,.slice ta nt tc,.bool hl,.bool pl,.slice al nl cl,.slice dl ml ll,.bool hh,.bool ph,.slice ah nh ch,.slice dh mh lh] 55)).heap.size:=by simp
   have hLT2:=hLT.below hz
   have L2:=L.below hz
   have hbel2:=aF hbel hz
   clear r0 r1 r2 r3 r4 r5 r6 r7 r8 r9 hz hLT L hbel Bx
   generalize wr.alloc (.cells #[.string nmR,.slice ta nt tc,.bool hl,.bool pl,.slice al nl cl,.slice dl ml ll,.bool hh,.bool ph,.slice ah nh ch,.slice dh mh lh] 55)=W2 at *
   go_loopw [8,24] (fun s8 s24 wq=>∃ (k c:Nat) (Y:Nat→Rat),k≤nt∧c≤k∧s24 = .int .i64 k∧ML wq W2.heap.size s8 c Y S∧(∀ j,j<c→∃ q,Y j=tv (P.R i) X m q∧q<nt∧0≤((P.R i).t q).var∧((P.R i).t q).var<(m:Int))∧bJ Y c=bJ (tv (P.R i) X m) k∧Below W2.heap.size W2 wq) (fun _ s24 _=>nt-(intOf s24).toNat)
   case atStart=>exact ⟨0,0,fun _=>0,Nat.zero_le _,Nat.zero_le _,rfl,(RL.nil _ _ _ _).ml,fun j hj=>by omega,rfl,Below.refl _ _⟩
   case round =>
    obtain ⟨k,c,Y,hk,hc,rfl,M,HY,hsum,hbs⟩:=hrel
    obtain ⟨o2,k2,rfl⟩:=M.form
    have hss:=Below.size hbs
    by_cases hlt2:k<nt
    ·have hkJ:(k:Int)<(nt:Int):=by omega
     rcases (hLT2.below hbs) with h0|⟨tb,to,rfl,hel⟩
     ·omega
     have hTm:=hel k hlt2
     obtain ⟨v,ev⟩:∃ v,v=((P.R i).t k).var:=⟨_,rfl⟩
     obtain ⟨t0,⟨pC,aC,nC,cC,dC,mC,lC,t1,t2,t3,hC⟩,hsC,hszC,hv1,hv2⟩:=hTm
     rw [← ev] at t0 hv1 hv2
     have EV:Hid (v=((P.R i).t k).var):=ev
     have hkJ2:(k:Int)*4=((k*4:Nat):Int):=by omega
     clear hel ev
     by_cases hv:0≤v∧v<(m:Int)
     ·obtain ⟨hv0,hvm⟩:=hv
      obtain ⟨j,rfl⟩:=Int.eq_ofNat_of_zero_le hv0
      have hjm:j<m:=by omega
      obtain ⟨hz1,hz2⟩:=HZ.out i j hlt hjm
      rcases (hx.below (aF hbel2 hbs)) with h0|⟨bx,ox,rfl,helx⟩
      ·omega
      obtain ⟨pA,aA,nA,cA,dA,mA,lA,c0,c1,c2,hA⟩:=helx j (by omega)
      have hkI4:(j:Int)*3=((j*3:Nat):Int):=by omega
      have hZk:Zt k≤P.ZR i:=by have:=bY (Z:=Zt) hlt2;omega
      clear helx
      go_wp2_with fail
      have N:=aQ wr #[.int .i64 (j:Int),.bool pC,.slice aC nC cC,.slice dC mC lC] 52
      have hz:=aI wr (.cells #[.int .i64 (j:Int),.bool pC,.slice aC nC cC,.slice dC mC lC] 52)
      have hsz3:wr.heap.size+1≤(wr.alloc (.cells #[.int .i64 (j:Int),.bool pC,.slice aC nC cC,.slice dC mC lC] 52)).heap.size:=by simp
      have hrow:∀ g,(Value.slice o2 c k2).ownBlock=some g→W2.heap.size≤g∧g<wr.heap.size:=fun g hg=>M.lt g hg
      have hbx:bx<w.heap.size:=by
       rcases hx with h0|⟨b',o',e',hev'⟩
       ·omega
       ·simp only [Option.some.injEq,Addr.mk.injEq] at e'
        obtain ⟨rfl,_,_⟩:=e'
        obtain ⟨_,_,_,_,_,_,_,h,_⟩:=hev' j (by omega)
        exact World.block_lt_of_cell? _ _ h
      replace M:=M.below hss hz
      replace hA:=hA.below hz
      replace hC:=hC.below hz
      have hTw:=hT.below (aF (aF hbel2 hbs) hz)
      have hbs2:=aF hbs hz
      replace c0:=aG hz c0
      replace c1:=aG hz c1
      replace c2:=aG hz c2
      have n0:=N 0 _ rfl
      have n1:=N 1 _ rfl
      have n2:=N 2 _ rfl
      have n3:=N 3 _ rfl
      clear t0 t1 t2 t3 hz N
      generalize wr.alloc (.cells #[.int .i64 (j:Int),.bool pC,.slice aC nC cC,.slice dC mC lC] 52)=W3 at *
      have HB:∀ w',Below W3.heap.size W3 w'→(w'.cell? ⟨wr.heap.size,0,none⟩=some (.int .i64 (j:Int))∧w'.cell? ⟨wr.heap.size,1,none⟩=some (.bool pC)∧w'.cell? ⟨wr.heap.size,2,none⟩=some (.slice aC nC cC)∧w'.cell? ⟨wr.heap.size,3,none⟩=some (.slice dC mC lC)∧w'.cell? ⟨bx,ox+j*3,none⟩=some (.bool pA)∧w'.cell? ⟨bx,ox+j*3+1,none⟩=some (.slice aA nA cA)∧w'.cell? ⟨bx,ox+j*3+2,none⟩=some (.slice dA mA lA)):=fun w' h=>⟨aG h n0,aG h n1,aG h n2,aG h n3,aG h c0,aG h c1,aG h c2⟩
      have HG:∀ V w':World,(V.cell? ⟨wr.heap.size,0,none⟩=some (.int .i64 (j:Int))∧V.cell? ⟨wr.heap.size,1,none⟩=some (.bool pC)∧V.cell? ⟨wr.heap.size,2,none⟩=some (.slice aC nC cC)∧V.cell? ⟨wr.heap.size,3,none⟩=some (.slice dC mC lC)∧V.cell? ⟨bx,ox+j*3,none⟩=some (.bool pA)∧V.cell? ⟨bx,ox+j*3+1,none⟩=some (.slice aA nA cA)∧V.cell? ⟨bx,ox+j*3+2,none⟩=some (.slice dA mA lA))→V.grownBy w' (Value.slice o2 c k2).ownBlock→(w'.cell? ⟨wr.heap.size,0,none⟩=some (.int .i64 (j:Int))∧w'.cell? ⟨wr.heap.size,1,none⟩=some (.bool pC)∧w'.cell? ⟨wr.heap.size,2,none⟩=some (.slice aC nC cC)∧w'.cell? ⟨wr.heap.size,3,none⟩=some (.slice dC mC lC)∧w'.cell? ⟨bx,ox+j*3,none⟩=some (.bool pA)∧w'.cell? ⟨bx,ox+j*3+1,none⟩=some (.slice aA nA cA)∧w'.cell? ⟨bx,ox+j*3+2,none⟩=some (.slice dA mA lA)) :=
       fun V w' h hg=>⟨bK hg h.1 (fun e=>by have:=hrow _ e;simp at this),bK hg h.2.1 (fun e=>by have:=hrow _ e;simp at this),bK hg h.2.2.1 (fun e=>by have:=hrow _ e;simp at this),bK hg h.2.2.2.1 (fun e=>by have:=hrow _ e;simp at this),bK hg h.2.2.2.2.1 (fun e=>by have:=hrow _ e;simp at this;omega),bK hg h.2.2.2.2.2.1 (fun e=>by have:=hrow _ e;simp at this;omega),bK hg h.2.2.2.2.2.2 (fun e=>by have:=hrow _ e;simp at this;omega)⟩
      go_region_held3 (fun w'=>w'.cell? ⟨wr.heap.size,0,none⟩=some (.int .i64 (j:Int))∧w'.cell? ⟨wr.heap.size,1,none⟩=some (.bool pC)∧w'.cell? ⟨wr.heap.size,2,none⟩=some (.slice aC nC cC)∧w'.cell? ⟨wr.heap.size,3,none⟩=some (.slice dC mC lC)∧w'.cell? ⟨bx,ox+j*3,none⟩=some (.bool pA)∧w'.cell? ⟨bx,ox+j*3+1,none⟩=some (.slice aA nA cA)∧w'.cell? ⟨bx,ox+j*3+2,none⟩=some (.slice dA mA lA))
       (first|(with_reducible refine HG _ _ (HB _ ?_) hgrow;repeat' (first|with_reducible exact hc1|with_reducible exact Below.refl _ _|with_reducible refine fZ ?_|with_reducible refine fB ?_))|(with_reducible refine HB _ ?_;repeat' (first|with_reducible exact hc1|with_reducible exact Below.refl _ _|with_reducible refine fZ ?_|with_reducible refine fB ?_)))
       ((first
        | (go_at_call 29;go_fit (mulQ _ (hC.below (by first|exact aK _|exact dB _ _)) (hA.below (by first|exact aK _|exact dB _ _)) (by omega) (by omega) (by omega) (hTw.below (by first|exact aK _|exact dB _ _)));rintro e v1 ⟨f2,e2,m2,l2,e3,m3,l3,rfl,G2,hb1⟩;have hc1:Below W3.heap.size W3 v1:=(by first|exact aF (aK _) hb1|exact aF (dB _ _) hb1);have hsv1:=Below.size hc1)
        | (refine kG _ (by rfl) _ _ (by rfl) W2.heap.size (.slice o2 c k2) c Y S (by rfl) ((M.below (by omega) hc1).below (by omega) (aI _ _)) v1.heap.size _ (by rfl) f2 e2 m2 l2 e3 m3 l3 _ (iW (by rfl)) (.inl (((G2.below (aI _ _)).mono (by simp;omega)).le (by omega))) (by omega) (by simp;omega) (v1.heap.size+1) (by simp) ?_;intro g cap1 w3 LN hgrow hat hlt1)))
      have hg2:=grown_below (B:=W2.heap.size) hgrow (by simp;omega) (fun g hg=>(hrow g hg).1)
      have hbs':Below W2.heap.size W2 w3:=(fB (aF hbs2 hc1)).trans hg2
      have etv:tv (P.R i) X m k=((P.R i).t k).coef*X j:=by
       unfold tv
       rw [← EV.out,if_pos ⟨hv0,hvm⟩]
       rfl
      have hsum':bJ (fun q=>if q<c then Y q else ((P.R i).t k).coef*X j) (c+1)=bJ (tv (P.R i) X m) (k+1):=by
       rw [bH,bH,etv,← hsum]
       simp only [Nat.lt_irrefl,if_false]
       congr 1
       exact dZ fun q hq=>by simp only [hq,if_true]
      have HY':∀ q,q<c+1→∃ q',(fun q=>if q<c then Y q else ((P.R i).t k).coef*X j) q=tv (P.R i) X m q'∧q'<nt∧0≤((P.R i).t q').var∧((P.R i).t q').var<(m:Int):=by
       intro q hq
       by_cases h:q<c
       ·simp only [h,if_true];exact HY q h
       ·simp only [h,if_false];exact ⟨k,etv.symm,hlt2,by rw [← EV.out];exact hv0,by rw [← EV.out];exact hvm⟩
      clear HB HG M hgrow hat hlt1 hsum HY
      go_wp2
      go_roundw
      case rel=>refine ⟨_,_,_,?_,rfl,rfl,rfl⟩;exact ⟨k+1,by omega,c+1,by omega,by go_num,_,LN,HY',hsum'⟩
      case measure=>simp [intOf];omega
     ·have etv:tv (P.R i) X m k=0:=by
       unfold tv
       rw [← EV.out,if_neg hv]
      have hsum':bJ Y c=bJ (tv (P.R i) X m) (k+1):=by rw [bH,etv,Rat.add_zero];exact hsum
      have hz:=aI wr (.cells #[.int .i64 v,.bool pC,.slice aC nC cC,.slice dC mC lC] 52)
      have M':=M.below hss hz
      have hbs':=aF hbs hz
      clear hz hsum
      by_cases hv0:0≤v
      ·have hvm:¬ v<(m:Int):=fun h=>hv ⟨hv0,h⟩
       go_wp2
       go_roundw
       case rel=>first|exact ⟨k+1,c,Y,by omega,by omega,by go_num,M',HY,hsum',hbs'⟩|((repeat apply Exists.intro);refine ⟨?_,rfl⟩;exact ⟨k+1,c,Y,by omega,by omega,by go_num,M',HY,hsum',hbs'⟩)
       case measure=>simp [intOf];omega
      ·go_wp2
       go_roundw
       case rel=>first|exact ⟨k+1,c,Y,by omega,by omega,by go_num,M',HY,hsum',hbs'⟩|((repeat apply Exists.intro);refine ⟨?_,rfl⟩;exact ⟨k+1,c,Y,by omega,by omega,by go_num,M',HY,hsum',hbs'⟩)
       case measure=>simp [intOf];omega
    ·have hkJ:¬ (k:Int)<(nt:Int):=by omega
     obtain rfl:k=nt:=by omega
     have hTr:=hT.below (aF hbel2 hbs)
     have L3:=(L2.below hbs).now
     have hbel3:=aF hbel2 hbs
     have hsz4:=row_sz (r:=P.R i) (Zt:=Zt) (Y:=Y) (m:=m) (c:=c) (R:=P.ZR i) (hC:=by rw [← ENT.out];exact hLT2.sz) (by rw [← ENT.out];exact htot) HX.out HDA.out.1 HDA.out.2 (by rw [← ENT.out];exact HY) (by omega)
     have hsz5:∀ j,j≤c→SzR (bJ Y j) T:=fun j hj=>(hsz4 j hj).le (HT1.out i hlt)
     have ecv:bJ Y c=cv (P.R i) X m:=by rw [hsum];unfold cv;rw [← ENT.out]
     have hc2:c≤1100000:=by omega
     have HH:=sumQ o2 c k2 Y (fun _=>S) T wr M.lq (fun _ _=>⟨hS1,hST⟩) hT0 hsz5 hc2 hTr
     clear hsz4 hsz5 M HY hLT2 hbs hbel2 L2 hsum hTr
     go_wp2_with fail
     refine HH.mono ?_
     clear HH
     rintro e w2 ⟨f,c1,n1,l1,d1,m1,l2,rfl,G,hx2⟩
     have hs2:=Below.size hx2
     replace L3:=L3.below hx2
     replace hbel3:=aF hbel3 hx2
     replace G:=G.val ecv
     clear hx2
     have hrow:∀ g,(Value.slice o1 i k1).ownBlock=some g→w.heap.size+1≤g:=fun g hg=>(L3.lt g hg).1
     have hs5:=hbel3.size
     go_wp2_with (at_builtin;refine qQ _ rfl _ _ rfl (w.heap.size+1) wr.heap.size (.slice o1 i k1) i (fun j=>cv (P.R j) X m) T rfl (L3.below (aI _ _)) w2.heap.size _ rfl f c1 n1 l1 d1 m1 l2 (iW rfl) (G.below (aI _ _)) (by omega) (by simp;omega) (w2.heap.size+1) (by simp) ?_)
     intro g1 cap1 w3 LN hgrow hat _
     have hg2:=grown_below (B:=w.heap.size+1) hgrow (by simp;omega) hrow
     have hbelN:Below w.heap.size w w3:=(fB hbel3).trans (hg2.mono (by omega))
     have hs6:=hg2.size
     have hs7:w.heap.size+1≤w3.heap.size:=by simp at hs6;omega
     clear hgrow hat hrow L3 G hbel3
     rw [← hra']
     clear hra'
     go_wp2
     go_roundw
     case rel=>first|exact ⟨i+1,by omega,by go_num,LN,hbelN,hs7⟩|((repeat apply Exists.intro);refine ⟨?_,rfl⟩;exact ⟨i+1,by omega,by go_num,LN,hbelN,hs7⟩)
     case measure=>simp [intOf];omega
  ·have hkI:¬ (i:Int)<(P.rn:Int):=by omega
   obtain rfl:i=P.rn:=by omega
   go_wp2
   go_ret
   exact ⟨_,_,rfl,L.mono (by omega),hbel⟩
theorem sumsQ (P:Prob) {xa:Option Addr} {n xc:Nat} {X:Nat→Rat} {Z:Nat→Nat} {S T m:Nat} {Dx Ax:Int} {dx ax:Nat} (w:World) (hP:PQ w P) (hx:LQ w xa n X Z) (hn:n≤xc) (hm:m=min n P.vn) (hz:∀ i j,i<P.rn→j<m→1≤Z j∧P.ZR i+Z j≤S) (hS1:1≤S)
 (hST:T+S≤6000000) (hD:0<Dx) (hd:Dx<pw dx) (hA0:0≤Ax) (hA:Ax<pw ax) (hX:∀ j,j<m→Ov Dx Ax (X j)) (hT1:∀ i,i<P.rn→P.ZR i+P.ZR i+ax+dx+2≤T) (hT0:1≤T) (hK:P.K≤1048576) (hT:TB w) :
 Calls Tryz.prog 19 #[P.val,.slice xa n xc] w fun e w'=>∃ a cap,e = .returned (.slice a P.rn cap)∧RL w' w.heap.size (.slice a P.rn cap) P.rn (fun i=>cv (P.R i) X m) T∧Below w.heap.size w w' :=
 (sumsQA P w hP hx hn hm hz hS1 hST hD hd hA0 hA hX hT1 hT0 hK hT).mono fun _ _ h=>by
  obtain ⟨a,cap,e,h1,h2⟩:=h
  exact ⟨a,cap,e,h1.rl,h2⟩
def dW (t:Nat→PT) (k:Nat) (x:Int):Rat:=bJ (fun i=>if (t i).var=x then (t i).coef else 0) k
theorem sS {f:Nat→Rat}:∀ m,(∀ i,i<m→f i=0)→bJ f m=0
 | 0,_=>rfl
 | m+1,h=>by rw [bH,sS m (fun i hi=>h i (by omega)),h m (by omega),Rat.add_zero]
theorem yU (c:Rat) (v:Int) (X:Nat→Rat):∀ m:Nat,bJ (fun x=>(if v=(x:Int) then c else 0)*X x) m=if 0≤v∧v<(m:Int) then c*X v.toNat else 0
 | 0=>by rw [if_neg (by omega)];rfl
 | m+1=>by
  rw [bH,yU c v X m]
  by_cases h:v=(m:Int)
  ·subst h
   rw [if_neg (by omega),if_pos rfl,if_pos (by omega),Rat.zero_add];rfl
  ·rw [if_neg h,Rat.zero_mul,Rat.add_zero]
   by_cases h2:0≤v∧v<(m:Int)
   ·rw [if_pos h2,if_pos (by omega)]
   ·rw [if_neg h2,if_neg (by omega)]
theorem cv_gs (r:PW) (X:Nat→Rat) (m:Nat):∀ k,bJ (tv r X m) k=bJ (fun x=>dW r.t k (x:Int)*X x) m
 | 0=>by
  refine (sS m fun i _=>?_).symm
  exact Rat.zero_mul _
 | k+1=>by
  have h:∀ x:Nat,dW r.t (k+1) (x:Int)*X x=dW r.t k (x:Int)*X x+(if (r.t k).var=(x:Int) then (r.t k).coef else 0)*X x:=fun x=>by
   show (dW r.t k (x:Int)+if (r.t k).var=(x:Int) then (r.t k).coef else 0)*X x=_
   exact Rat.add_mul _ _ _
  rw [bH,cv_gs r X m k,dZ (Y:=fun x=>dW r.t k (x:Int)*X x+(if (r.t k).var=(x:Int) then (r.t k).coef else 0)*X x) (fun x _=>h x),rsum_add,yU]
  rfl
theorem cs_lt_iff {r s:Rat}:cs r s<0↔r<s:=by
 unfold cs
 rw [Int.sign_neg_iff,Rat.lt_iff]
 omega
theorem cs_gt_iff {r s:Rat}:0<cs r s↔s<r:=by
 unfold cs
 rw [Int.sign_pos_iff,Rat.lt_iff]
 omega
theorem jR {a lo hi:Rat} {hlo hhi:Bool}:fV a hlo lo hhi hi=true↔(hlo=true→lo≤a)∧(hhi=true→a≤hi):=by
 unfold fV
 rw [show (decide (cs a lo<0))=decide (a<lo) from decide_eq_decide.2 cs_lt_iff,show (decide (0<cs a hi))=decide (hi<a) from decide_eq_decide.2 cs_gt_iff]
 cases hlo <;> cases hhi <;> simp [Rat.not_lt]
end Go.Proofs.YtmeimjakdheidaaGreatDoor
namespace Go.Proofs.YtmeimjakdheidaaGreatDoor
def ps (t:Nat→PT) (Z:Nat→Nat) (x:Int):Nat→List (Rat × Nat)
 | 0=>[]
 | k+1=>if (t k).var=x then ps t Z x k++[((t k).coef,Z k)] else ps t Z x k
def lX (l:List (Rat × Nat)) (i:Nat):Rat:=(l.getD i (0,1)).1
def lZ (l:List (Rat × Nat)) (i:Nat):Nat:=(l.getD i (0,1)).2
theorem getD_lt {l:List (Rat × Nat)} {a:Rat × Nat} {i:Nat} (h:i<l.length):(l++[a]).getD i (0,1)=l.getD i (0,1):=by
 rw [List.getD_eq_getElem?_getD,List.getD_eq_getElem?_getD,List.getElem?_append_left h]
theorem getD_eq (l:List (Rat × Nat)) (a:Rat × Nat):(l++[a]).getD l.length (0,1)=a:=by
 rw [List.getD_eq_getElem?_getD,List.getElem?_append_right (Nat.le_refl _),Nat.sub_self];rfl
theorem lX_lt {l:List (Rat × Nat)} {a:Rat × Nat} {i:Nat} (h:i<l.length):lX (l++[a]) i=lX l i:=by unfold lX;rw [getD_lt h]
theorem lX_eq (l:List (Rat × Nat)) (a:Rat × Nat):lX (l++[a]) l.length=a.1:=by unfold lX;rw [getD_eq]
theorem lZ_lt {l:List (Rat × Nat)} {a:Rat × Nat} {i:Nat} (h:i<l.length):lZ (l++[a]) i=lZ l i:=by unfold lZ;rw [getD_lt h]
theorem lZ_eq (l:List (Rat × Nat)) (a:Rat × Nat):lZ (l++[a]) l.length=a.2:=by unfold lZ;rw [getD_eq]
theorem uT {Z Y:Nat→Nat} {n:Nat} (h:∀ i,i<n→Z i=Y i):tot Z n=tot Y n:=by
 induction n with
 | zero=>rfl
 | succ n ih=>show tot Z n+Z n+1=tot Y n+Y n+1;rw [ih (fun i hi=>h i (by omega)),h n (by omega)]
theorem rsum_snoc (l:List (Rat × Nat)) (a:Rat × Nat):bJ (lX (l++[a])) (l.length+1)=bJ (lX l) l.length+a.1:=by
 rw [bH,lX_eq,dZ (Y:=lX l) fun i hi=>lX_lt hi]
theorem tot_snoc (l:List (Rat × Nat)) (a:Rat × Nat):tot (lZ (l++[a])) (l.length+1)=tot (lZ l) l.length+a.2+1:=by
 show tot (lZ (l++[a])) l.length+lZ (l++[a]) l.length+1=_
 rw [lZ_eq,uT (Y:=lZ l) fun i hi=>lZ_lt hi]
theorem rE (t:Nat→PT) (Z:Nat→Nat) (x:Int):∀ k,bJ (lX (ps t Z x k)) (ps t Z x k).length=dW t k x
 | 0=>rfl
 | k+1=>by
  have ih:=rE t Z x k
  unfold dW at ih ⊢
  rw [bH,← ih]
  show bJ (lX (if (t k).var=x then ps t Z x k++[((t k).coef,Z k)] else ps t Z x k)) (if (t k).var=x then ps t Z x k++[((t k).coef,Z k)] else ps t Z x k).length=_
  split
  ·rw [List.length_append];exact rsum_snoc _ _
  ·rw [Rat.add_zero]
theorem ps_sz {t:Nat→PT} {Z:Nat→Nat} (x:Int):∀ k,(∀ q,q<k→SzR (t q).coef (Z q)∧1≤Z q)→∀ i,i<(ps t Z x k).length→SzR (lX (ps t Z x k) i) (lZ (ps t Z x k) i)∧1≤lZ (ps t Z x k) i
 | 0,_,i,hi=>by simp [ps] at hi
 | k+1,h,i,hi=>by
  have ih:=ps_sz (t:=t) (Z:=Z) x k (fun q hq=>h q (by omega))
  revert hi
  show i<(if (t k).var=x then ps t Z x k++[((t k).coef,Z k)] else ps t Z x k).length→SzR (lX (if (t k).var=x then ps t Z x k++[((t k).coef,Z k)] else ps t Z x k) i) (lZ (if (t k).var=x then ps t Z x k++[((t k).coef,Z k)] else ps t Z x k) i)∧1≤lZ (if (t k).var=x then ps t Z x k++[((t k).coef,Z k)] else ps t Z x k) i
  split
  ·intro hi
   rw [List.length_append,List.length_cons,List.length_nil] at hi
   rcases (by omega:i<(ps t Z x k).length∨i=(ps t Z x k).length) with h2|rfl
   ·rw [lX_lt h2,lZ_lt h2];exact ih i h2
   ·rw [lX_eq,lZ_eq];exact h k (by omega)
  ·exact ih i
theorem ps_len (t:Nat→PT) (Z:Nat→Nat) (x:Int):∀ k,(ps t Z x k).length≤k
 | 0=>Nat.le_refl _
 | k+1=>by
  have ih:=ps_len t Z x k
  show (if (t k).var=x then ps t Z x k++[((t k).coef,Z k)] else ps t Z x k).length≤k+1
  split
  ·rw [List.length_append,List.length_cons,List.length_nil];omega
  ·omega
def zs (t:Nat→PT) (Z:Nat→Nat) (x:Int):Nat→Nat
 | 0=>0
 | k+1=>zs t Z x k+if (t k).var=x then Z k+1 else 0
theorem wS (t:Nat→PT) (Z:Nat→Nat) (x:Int):∀ k,tot (lZ (ps t Z x k)) (ps t Z x k).length=zs t Z x k+1
 | 0=>rfl
 | k+1=>by
  have ih:=wS t Z x k
  show tot (lZ (if (t k).var=x then ps t Z x k++[((t k).coef,Z k)] else ps t Z x k)) (if (t k).var=x then ps t Z x k++[((t k).coef,Z k)] else ps t Z x k).length=zs t Z x k+(if (t k).var=x then Z k+1 else 0)+1
  split
  ·rw [List.length_append]
   have:=tot_snoc (ps t Z x k) ((t k).coef,Z k)
   show tot _ ((ps t Z x k).length+1)=_
   omega
  ·omega
theorem zs_le (t:Nat→PT) (Z:Nat→Nat) (x:Int):∀ k,zs t Z x k+1≤tot Z k
 | 0=>Nat.le_refl _
 | k+1=>by
  have ih:=zs_le t Z x k
  show zs t Z x k+(if (t k).var=x then Z k+1 else 0)+1≤tot Z k+Z k+1
  split <;> omega
theorem sU {X:Nat→Rat} {Z:Nat→Nat} {n:Nat} (h:∀ i,i<n→SzR (X i) (Z i)):∀ k,k+1≤n→SzR (bJ X (k+1)) (tot Z (k+1)-2)
 | 0,hk=>by
  have e:bJ X 1=X 0:=by show 0+X 0=X 0;rw [Rat.zero_add]
  rw [e]
  exact (h 0 (by omega)).le (by show Z 0≤1+Z 0+1-2;omega)
 | k+1,hk=>by
  have ih:=sU h k (by omega)
  have h2:=ih.add (h (k+1) (by omega))
  have e:bJ X (k+1+1)=bJ X (k+1)+X (k+1):=rfl
  rw [e]
  refine h2.le ?_
  show tot Z (k+1)-2+Z (k+1)+1≤tot Z (k+1)+Z (k+1)+1-2
  have:2≤tot Z (k+1):=by have:=wJ Z k;show 2≤tot Z k+Z k+1;omega
  omega
theorem gsum_sz {t:Nat→PT} {Z:Nat→Nat} {k:Nat} (x:Int) (h:∀ q,q<k→SzR (t q).coef (Z q)∧1≤Z q) (hne:ps t Z x k≠[]):SzR (dW t k x) (zs t Z x k-1)∧2≤zs t Z x k:=by
 obtain ⟨l,hl⟩:∃ l,(ps t Z x k).length=l+1:=⟨(ps t Z x k).length-1,by have:=List.length_pos_iff.2 hne;omega⟩
 have h1:=ps_sz x k h
 have h2:=sU (X:=lX (ps t Z x k)) (Z:=lZ (ps t Z x k)) (n:=l+1) (fun i hi=>(h1 i (by omega)).1) l (Nat.le_refl _)
 rw [← hl,rE,wS] at h2
 refine ⟨h2.le (by omega),?_⟩
 have h3:=wS t Z x k
 rw [hl] at h3
 have h4:=sH (lZ (ps t Z x k)) (show 1≤l+1 by omega)
 have h5:=(h1 0 (by omega)).2
 have e:tot (lZ (ps t Z x k)) 1=1+lZ (ps t Z x k) 0+1:=rfl
 omega
structure Gath (t:Nat→PT) (nt n:Nat) (u:Nat→PT) (m:Nat):Prop where
 lt:∀ i,i<m→0≤(u i).var∧(u i).var<(n:Int)
 up:∀ i j,i<j→j<m→(u i).var<(u j).var
 co:∀ i,i<m→(u i).coef=dW t nt (u i).var∧dW t nt (u i).var≠0
 all:∀ x:Int,0≤x→x<(n:Int)→dW t nt x≠0→∃ i,i<m∧(u i).var=x
theorem gsum_ne {t:Nat→PT} {Z:Nat→Nat} {k:Nat} {x:Int} (h:dW t k x≠0):ps t Z x k≠[]:=by
 intro e
 apply h
 rw [← rE t Z x k,e]
 rfl
theorem yV (u:Nat→PT) (v:Int) (c:Nat):∀ m,(∀ i j,i<j→j<m→(u i).var<(u j).var)→tot (fun i=>if v=(u i).var then c else 0) m≤m+1+c
 | 0,_=>by show 1≤0+1+c;omega
 | m+1,h=>by
  have ih:=yV u v c m (fun i j h1 h2=>h i j h1 (by omega))
  show tot _ m+(if v=(u m).var then c else 0)+1≤m+1+1+c
  split
  ·rename_i e
   have h0:tot (fun i=>if v=(u i).var then c else 0) m=tot (fun _=>0) m:=uT fun i hi=>by
    have:=h i m hi (by omega)
    rw [if_neg]
    omega
   have h1:∀ m,tot (fun _=>0) m=m+1:=fun m=>by
    induction m with
    | zero=>rfl
    | succ m ih=>show tot _ m+0+1=_;omega
   rw [h0,h1]
   omega
  ·omega
theorem tot_add (Y Z:Nat→Nat):∀ m,tot (fun i=>Y i+Z i) m+(m+1)=tot Y m+tot Z m
 | 0=>rfl
 | m+1=>by
  have ih:=tot_add Y Z m
  show tot _ m+(Y m+Z m)+1+(m+1+1)=tot Y m+Y m+1+(tot Z m+Z m+1)
  omega
theorem zs_sum {u:Nat→PT} {m:Nat} (t:Nat→PT) (Z:Nat→Nat) (h:∀ i j,i<j→j<m→(u i).var<(u j).var):∀ k,tot (fun i=>zs t Z (u i).var k) m≤m+tot Z k
 | 0=>by
  have h1:∀ m,tot (fun _=>0) m=m+1:=fun m=>by
   induction m with
   | zero=>rfl
   | succ m ih=>show tot _ m+0+1=_;omega
  show tot (fun _=>0) m≤m+1
  rw [h1]
  exact Nat.le_refl _
 | k+1=>by
  have ih:=zs_sum t Z h k
  have h1:=tot_add (fun i=>zs t Z (u i).var k) (fun i=>if (t k).var=(u i).var then Z k+1 else 0) m
  have h2:=yV u (t k).var (Z k+1) m h
  have e:tot (fun i=>zs t Z (u i).var (k+1)) m=tot (fun i=>zs t Z (u i).var k+if (t k).var=(u i).var then Z k+1 else 0) m:=rfl
  rw [e]
  show _≤m+(tot Z k+Z k+1)
  omega
theorem tot_sub {Y Z:Nat→Nat}:∀ m,(∀ i,i<m→Y i+1=Z i)→tot Y m+m=tot Z m
 | 0,_=>rfl
 | m+1,h=>by
  have ih:=tot_sub m (fun i hi=>h i (by omega))
  have:=h m (by omega)
  show tot Y m+Y m+1+(m+1)=tot Z m+Z m+1
  omega
theorem Gath.tot {t:Nat→PT} {nt n:Nat} {u:Nat→PT} {m:Nat} (h:Gath t nt n u m) {Z:Nat→Nat} (hz:∀ q,q<nt→SzR (t q).coef (Z q)∧1≤Z q) :
 (∀ i,i<m→SzR (u i).coef (zs t Z (u i).var nt-1)∧1≤zs t Z (u i).var nt-1)∧tot (fun i=>zs t Z (u i).var nt-1) m≤tot Z nt:=by
 have h1:∀ i,i<m→SzR (dW t nt (u i).var) (zs t Z (u i).var nt-1)∧2≤zs t Z (u i).var nt:=fun i hi=>gsum_sz _ hz (gsum_ne (h.co i hi).2)
 refine ⟨fun i hi=>⟨by rw [(h.co i hi).1];exact (h1 i hi).1,by have:=(h1 i hi).2;omega⟩,?_⟩
 have h2:=zs_sum t Z h.up nt
 have h3:=tot_sub (Y:=fun i=>zs t Z (u i).var nt-1) (Z:=fun i=>zs t Z (u i).var nt) m (fun i hi=>by have:=(h1 i hi).2;show _-1+1=_;omega)
 omega
structure Gi (t:Nat→PT) (nt:Nat) (ks:List Int) (i:Nat) (u:Nat→PT) (m:Nat):Prop where
 mem:∀ q,q<m→(u q).var ∈ ks.take i
 up:∀ p q,p<q→q<m→(u p).var<(u q).var
 co:∀ q,q<m→(u q).coef=dW t nt (u q).var∧dW t nt (u q).var≠0
 all:∀ x,x ∈ ks.take i→dW t nt x≠0→∃ q,q<m∧(u q).var=x
theorem Gi.start (t:Nat→PT) (nt:Nat) (ks:List Int) (u:Nat→PT):Gi t nt ks 0 u 0:=⟨fun q h=>by omega,fun p q _ h=>by omega,fun q h=>by omega,fun x h=>by simp at h⟩
theorem take_snoc {ks:List Int} {i:Nat} {x:Int} (h:ks[i]? = some x):ks.take (i+1)=ks.take i++[x]:=by rw [List.take_add_one,h];rfl
theorem Gi.skip {t:Nat→PT} {nt:Nat} {ks:List Int} {i:Nat} {u:Nat→PT} {m:Nat} (h:Gi t nt ks i u m) {x:Int} (hx:ks[i]? = some x) (h0:dW t nt x=0):Gi t nt ks (i+1) u m:=by
 refine ⟨fun q hq=>?_,h.up,h.co,fun y hy hy0=>?_⟩
 ·rw [take_snoc hx];exact List.mem_append_left _ (h.mem q hq)
 ·rw [take_snoc hx,List.mem_append,List.mem_singleton] at hy
  rcases hy with hy|rfl
  ·exact h.all y hy hy0
  ·exact absurd h0 hy0
theorem Gi.step {t:Nat→PT} {nt:Nat} {ks:List Int} {i:Nat} {u:Nat→PT} {m:Nat} (h:Gi t nt ks i u m) (hp:ks.Pairwise (· < ·)) {x:Int} (hx:ks[i]? = some x) (h0:dW t nt x≠0):Gi t nt ks (i+1) (fun q=>if q<m then u q else ⟨x,dW t nt x⟩) (m+1):=by
 have hlt:∀ y,y ∈ ks.take i→y<x:=fun y hy=>by
  obtain ⟨hi,hi2⟩:=List.getElem?_eq_some_iff.1 hx
  obtain ⟨q,hq,e⟩:=List.mem_iff_getElem.1 hy
  rw [List.length_take] at hq
  rw [List.getElem_take] at e
  rw [← e,← hi2]
  exact List.pairwise_iff_getElem.1 hp q i (by omega) hi (by omega)
 refine ⟨fun q hq=>?_,fun p q hpq hq=>?_,fun q hq=>?_,fun y hy hy0=>?_⟩
 ·show (if q<m then u q else ⟨x,dW t nt x⟩:PT).var ∈ _
  rw [take_snoc hx,List.mem_append,List.mem_singleton]
  split
  ·exact .inl (h.mem q (by omega))
  ·exact .inr rfl
 ·show (if p<m then u p else ⟨x,dW t nt x⟩:PT).var<(if q<m then u q else ⟨x,dW t nt x⟩:PT).var
  rw [if_pos (show p<m by omega)]
  split
  ·exact h.up p q hpq (by omega)
  ·exact hlt _ (h.mem p (by omega))
 ·show (if q<m then u q else ⟨x,dW t nt x⟩:PT).coef=dW t nt (if q<m then u q else ⟨x,dW t nt x⟩:PT).var∧dW t nt (if q<m then u q else ⟨x,dW t nt x⟩:PT).var≠0
  split
  ·exact h.co q (by omega)
  ·exact ⟨rfl,h0⟩
 ·rw [take_snoc hx,List.mem_append,List.mem_singleton] at hy
  rcases hy with hy|rfl
  ·obtain ⟨q,hq,e⟩:=h.all y hy hy0
   exact ⟨q,by omega,by show (if q<m then u q else _:PT).var=_;rw [if_pos hq];exact e⟩
  ·exact ⟨m,by omega,by show (if m<m then u m else _:PT).var=_;rw [if_neg (Nat.lt_irrefl m)]⟩
theorem Gi.gath {t:Nat→PT} {nt n:Nat} {ks:List Int} {u:Nat→PT} {m:Nat} (h:Gi t nt ks ks.length u m) (h1:∀ x,x ∈ ks→0≤x∧x<(n:Int)) (h2:∀ x:Int,0≤x→x<(n:Int)→dW t nt x≠0→x ∈ ks):Gath t nt n u m :=
 ⟨fun i hi=>h1 _ (by have:=h.mem i hi;rwa [List.take_length] at this),h.up,h.co,fun x h3 h4 h5=>h.all x (by rw [List.take_length];exact h2 x h3 h4 h5) h5⟩
end Go.Proofs.YtmeimjakdheidaaGreatDoor

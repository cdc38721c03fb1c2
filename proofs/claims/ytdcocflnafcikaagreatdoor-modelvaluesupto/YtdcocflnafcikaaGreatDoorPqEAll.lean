import Derived.Test.YtdcocflnafcikaaGreatDoorPqCAll
namespace Go.Proofs.YtdcocflnafcikaaGreatDoor
open Go.RowKit
def tv (r:PW) (X:Nat→Rat) (m k:Nat):Rat:=if 0≤(r.t k).var∧(r.t k).var<(m:Int) then (r.t k).coef*X (r.t k).var.toNat else 0
def cv (r:PW) (X:Nat→Rat) (m:Nat):Rat:=rsum (tv r X m) r.nt
theorem tot_le {Z:Nat→Nat} {n i:Nat} (h:i<n):Z i≤tot Z n:=by have:=tot_one (Z:=Z) h;omega
theorem sum_sz {Y:Nat→Rat} {D A:Int} {n a d:Nat} (h:∀ i,i<n→Ov D A (Y i)) (hD:0<D) (hd:D<pw d) (hA0:0≤A) (hA:A<pw a) (hn:n≤18446744073709551615):∀ k,k≤n→SzR (rsum Y k) (1+a+d):=by
 intro k hk
 refine (rsum_ov h k hk).sz hD hd ?_ (by omega)
 have e1:(A.natAbs:Int)=A:=Int.natAbs_of_nonneg hA0
 have e0:pw 1=18446744073709551616:=rfl
 have h6:=mul_lt (x:=(k:Int)) (y:=A) (S:=1) (R:=a) (by omega) (by omega)
 have e3:(((k:Int)*A).natAbs:Int)=(k:Int)*A:=Int.natAbs_of_nonneg (Int.mul_nonneg (by omega) hA0)
 omega
theorem mul_pw {A B:Int} {a b:Nat} (hA0:0≤A) (hA:A<pw a) (hB0:0≤B) (hB:B<pw b):A*B<pw (a+b)∧0≤A*B:=by
 have e1:(A.natAbs:Int)=A:=Int.natAbs_of_nonneg hA0
 have e2:(B.natAbs:Int)=B:=Int.natAbs_of_nonneg hB0
 have h6:=mul_lt (x:=A) (y:=B) (S:=a) (R:=b) (by omega) (by omega)
 have h0:=Int.mul_nonneg hA0 hB0
 have e3:((A*B).natAbs:Int)=A*B:=Int.natAbs_of_nonneg h0
 omega
theorem RL.mono {w:World} {B B':Nat} {v:Value} {n:Nat} {X:Nat→Rat} {S:Nat} (h:RL w B v n X S) (hB:B'≤B):RL w B' v n X S:=by
 obtain ⟨vs,h1,h2⟩:=h
 refine ⟨vs,⟨h1.1,?_⟩,fun i hi=>?_⟩
 ·rcases h1.2 with hn|⟨g,cap,cur,e1,e2,rest⟩
  ·exact .inl hn
  ·exact .inr ⟨g,cap,cur,e1,by omega,rest⟩
 ·obtain ⟨p,a,na,ca,d,nd,cd,g1,g2,g3,g4⟩:=h2 i hi
  exact ⟨p,a,na,ca,d,nd,cd,g1,g2,g3,g4.mono hB⟩
theorem LT.sz {w:World} {a:Option Addr} {n:Nat} {t:Nat→PT} {Z:Nat→Nat} (h:LT w a n t Z):∀ q,q<n→SzR (t q).coef (Z q):=by
 intro q hq
 rcases h with h|⟨b,o,_,h⟩
 ·omega
 ·exact (h q hq).2.2.2.1
theorem row_sz {r:PW} {X:Nat→Rat} {Zt:Nat→Nat} {Y:Nat→Rat} {m c R dx ax:Nat} {Dx Ax:Int} (hC:∀ q,q<r.nt→SzR (r.t q).coef (Zt q)) (htot:tot Zt r.nt≤R) (hX:∀ j,j<m→Ov Dx Ax (X j)) (hD:0<Dx∧Dx<pw dx) (hA:0≤Ax∧Ax<pw ax)
  (HY:∀ j,j<c→∃ q,Y j=tv r X m q∧q<r.nt∧0≤(r.t q).var∧(r.t q).var<(m:Int)) (hc:c≤1048576):∀ k,k≤c→SzR (rsum Y k) (R+R+ax+dx+2):=by
 have hZ:∀ q,q<r.nt→Zt q≤R:=fun q hq=>by have:=tot_le (Z:=Zt) hq;omega
 have h1:∀ q,q<r.nt→Ov (dprod (fun q=>(r.t q).coef) r.nt) (pw R) (r.t q).coef:=fun q hq=>dprod_ov (X:=fun q=>(r.t q).coef) (Z:=Zt) (T:=R) r.nt (fun i hi=>⟨hC i hi,hZ i hi⟩) q hq
 have p1:=dprod_pos (fun q=>(r.t q).coef) r.nt
 have p2:dprod (fun q=>(r.t q).coef) r.nt<pw R:=Int.lt_of_lt_of_le (dprod_lt (X:=fun q=>(r.t q).coef) (Z:=Zt) r.nt hC) (pw_mono htot)
 generalize dprod (fun q=>(r.t q).coef) r.nt=D at *
 have q1:=mul_pw (A:=pw R) (B:=Ax) (a:=R+1) (b:=ax) (Int.le_of_lt (pw_pos R)) (by have:=pw_succ R;have:=pw_pos R;omega) hA.1 hA.2
 have q2:=mul_pw (A:=D) (B:=Dx) (a:=R) (b:=dx) (Int.le_of_lt p1) p2 (Int.le_of_lt hD.1) hD.2
 have q3:0<D*Dx:=Int.mul_pos p1 hD.1
 intro k hk
 have h2:=sum_sz (Y:=Y) (D:=D*Dx) (A:=pw R*Ax) (n:=c) (a:=R+1+ax) (d:=R+dx) (fun j hj=>by
  obtain ⟨q,e1,e2,e3,e4⟩:=HY j hj
  rw [e1]
  unfold tv
  rw [if_pos ⟨e3,e4⟩]
  exact (h1 q e2).mul (hX _ (by omega))) q3 q2.1 q1.2 q1.1 (by omega) k hk
 exact h2.le (by omega)
set_option maxRecDepth 100000 in
set_option maxHeartbeats 8000000 in
theorem sumsQA (P:Prob) {xa:Option Addr} {n xc:Nat} {X:Nat→Rat} {Z:Nat→Nat} {S T m:Nat} {Dx Ax:Int} {dx ax:Nat} (w:World) (hP:PQ w P) (hx:LQ w xa n X Z) (hn:n≤xc) (hm:m=min n P.vn) (hz:∀ i j,i<P.rn→j<m→1≤Z j∧P.ZR i+Z j≤S) (hS1:1≤S)
  (hST:T+S≤6000000) (hD:0<Dx) (hd:Dx<pw dx) (hA0:0≤Ax) (hA:Ax<pw ax) (hX:∀ j,j<m→Ov Dx Ax (X j)) (hT1:∀ i,i<P.rn→P.ZR i+P.ZR i+ax+dx+2≤T) (hT0:1≤T) (hK:P.K≤1048576) (hT:TB w) :
  Calls Tryz.prog 16 #[P.val,.slice xa n xc] w fun e w'=>∃ a cap,e = .returned (.slice a P.rn cap)∧RA w' w.heap.size w'.heap.size (.slice a P.rn cap) P.rn (fun i=>cv (P.R i) X m) T∧Below w.heap.size w w':=by
 have HX:Hid (∀ j,j<m→Ov Dx Ax (X j)):=hX
 have HZ:Hid (∀ i j,i<P.rn→j<m→1≤Z j∧P.ZR i+Z j≤S):=hz
 have HT1:Hid (∀ i,i<P.rn→P.ZR i+P.ZR i+ax+dx+2≤T):=hT1
 have HDA:Hid ((0<Dx∧Dx<pw dx)∧0≤Ax∧Ax<pw ax):=⟨⟨hD,hd⟩,hA0,hA⟩
 have hrn:P.rn≤1048576:=by have:=hP.all;have:=tot_len P.ZR P.rn;omega
 clear hX hz hT1 hD hd hA0 hA
 unfold Prob.val
 go_enter Tryz.func16,Tryz.ntmps16
 go_wp2_with fail
 have P0:=box_new w #[.bool P.mx,.string P.nm,.bool P.p,.slice P.a P.na P.ca,.slice P.d P.nd P.cd,.slice P.va P.vn P.vc,.slice P.ra P.rn P.rc] 31
 have hb:=bel_d0 w (.cells #[.bool P.mx,.string P.nm,.bool P.p,.slice P.a P.na P.ca,.slice P.d P.nd P.cd,.slice P.va P.vn P.vc,.slice P.ra P.rn P.rc] 31)
 have hs:(w.alloc (.cells #[.bool P.mx,.string P.nm,.bool P.p,.slice P.a P.na P.ca,.slice P.d P.nd P.cd,.slice P.va P.vn P.vc,.slice P.ra P.rn P.rc] 31)).heap.size=w.heap.size+1:=by simp
 generalize w.alloc (.cells #[.bool P.mx,.string P.nm,.bool P.p,.slice P.a P.na P.ca,.slice P.d P.nd P.cd,.slice P.va P.vn P.vc,.slice P.ra P.rn P.rc] 31)=W at *
 refine (knownQ P xa n xc m W hn hm).mono ?_
 have hmn:m≤n:=by omega
 clear hm
 rintro e w1 ⟨rfl,h1⟩
 have hs1:=Below.size h1
 replace P0:=P0.below h1
 replace hb:=bel_tr hb h1
 clear h1
 have p6:=P0 6 _ rfl
 go_wp2
 go_loopw [5,17] (fun s5 s17 wr=>∃ (i:Nat),i≤P.rn∧s17 = .int .i64 i∧RA wr (w.heap.size+1) wr.heap.size s5 i (fun j=>cv (P.R j) X m) T∧Below w.heap.size w wr∧w.heap.size+1≤wr.heap.size) (fun _ s17 _=>P.rn-(intOf s17).toNat)
 case atStart=>exact ⟨0,Nat.zero_le _,rfl,RA.nil (by omega) (Nat.le_refl _) _ _,hb,by omega⟩
 case round =>
  obtain ⟨i,hi,rfl,L,hbel,hsr⟩:=hrel
  clear P0 hb p6
  obtain ⟨o1,k1,rfl⟩:=L.form
  by_cases hlt:i<P.rn
  ·have hkI:(i:Int)<(P.rn:Int):=by omega
   rcases (hP.r.below hbel) with h0|⟨rb,ro,hra,hew⟩
   ·omega
   have hR:=hew i hlt
   have hZi:P.ZR i≤1048576:=by have:=tot_le (Z:=P.ZR) hlt;have:=hP.all;omega
   obtain ⟨nmR,enm⟩:∃ nmR,nmR=(P.R i).nm:=⟨_,rfl⟩
   obtain ⟨nt,ent⟩:∃ nt,nt=(P.R i).nt:=⟨_,rfl⟩
   obtain ⟨hl,ehl⟩:∃ hl,hl=(P.R i).hlo:=⟨_,rfl⟩
   obtain ⟨hh,ehh⟩:∃ hh,hh=(P.R i).hhi:=⟨_,rfl⟩
   have r0:=hR.nm
   obtain ⟨ta,tc,Zt,r1,hLT,htot,htc⟩:=hR.terms
   have r2:=hR.hlo
   obtain ⟨pl,al,nl,cl,dl,ml,ll,r3,r4,r5,_⟩:=hR.lo
   have r6:=hR.hhi
   obtain ⟨ph,ah,nh,ch,dh,mh,lh,r7,r8,r9,_⟩:=hR.hi
   rw [← enm] at r0
   rw [← ent] at r1 hLT htot htc
   rw [← ehl] at r2
   rw [← ehh] at r6
   have ENT:Hid (nt=(P.R i).nt):=ent
   have hkI2:(i:Int)*10=((i*10:Nat):Int):=by omega
   have hnt:nt≤1048576:=by have:=tot_len Zt nt;omega
   have hra':P.ra=some ⟨rb,ro,none⟩:=hra
   clear hew hR enm ent ehl ehh hra
   go_wp2
   have Bx:=box_new wr #[.string nmR,.slice ta nt tc,.bool hl,.bool pl,.slice al nl cl,.slice dl ml ll,.bool hh,.bool ph,.slice ah nh ch,.slice dh mh lh] 60
   have hz:=bel_d0 wr (.cells #[.string nmR,.slice ta nt tc,.bool hl,.bool pl,.slice al nl cl,.slice dl ml ll,.bool hh,.bool ph,.slice ah nh ch,.slice dh mh lh] 60)
   have hsz2:wr.heap.size+1≤(wr.alloc (.cells #[.string nmR,.slice ta nt tc,.bool hl,.bool pl,.slice al nl cl,.slice dl ml ll,.bool hh,.bool ph,.slice ah nh ch,.slice dh mh lh] 60)).heap.size:=by simp
   have hLT2:=hLT.below hz
   have L2:=L.below hz
   have hbel2:=bel_tr hbel hz
   clear r0 r1 r2 r3 r4 r5 r6 r7 r8 r9 hz hLT L hbel Bx
   generalize wr.alloc (.cells #[.string nmR,.slice ta nt tc,.bool hl,.bool pl,.slice al nl cl,.slice dl ml ll,.bool hh,.bool ph,.slice ah nh ch,.slice dh mh lh] 60)=W2 at *
   go_loopw [8,24] (fun s8 s24 wq=>∃ (k c:Nat) (Y:Nat→Rat),k≤nt∧c≤k∧s24 = .int .i64 k∧ML wq W2.heap.size s8 c Y S∧(∀ j,j<c→∃ q,Y j=tv (P.R i) X m q∧q<nt∧0≤((P.R i).t q).var∧((P.R i).t q).var<(m:Int))∧rsum Y c=rsum (tv (P.R i) X m) k∧Below W2.heap.size W2 wq) (fun _ s24 _=>nt-(intOf s24).toNat)
   case atStart=>exact ⟨0,0,fun _=>0,Nat.zero_le _,Nat.zero_le _,rfl,(RL.nil _ _ _ _).ml,fun j hj=>by omega,rfl,Below.refl _ _⟩
   case round =>
    obtain ⟨k,c,Y,hk,hc,rfl,M,HY,hsum,hbs⟩:=hrel
    obtain ⟨o2,k2,rfl⟩:=M.form
    have hss:=Below.size hbs
    by_cases hlt2:k<nt
    ·have hkJ:(k:Int)<(nt:Int):=by omega
     rcases (hLT2.below hbs) with h0|⟨tb,to,rfl,hel⟩
     ·omega
     have hTm:=hel k hlt2
     obtain ⟨v,ev⟩:∃ v,v=((P.R i).t k).var:=⟨_,rfl⟩
     obtain ⟨t0,⟨pC,aC,nC,cC,dC,mC,lC,t1,t2,t3,hC⟩,hsC,hszC,hv1,hv2⟩:=hTm
     rw [← ev] at t0 hv1 hv2
     have EV:Hid (v=((P.R i).t k).var):=ev
     have hkJ2:(k:Int)*4=((k*4:Nat):Int):=by omega
     clear hel ev
     by_cases hv:0≤v∧v<(m:Int)
     ·obtain ⟨hv0,hvm⟩:=hv
      obtain ⟨j,rfl⟩:=Int.eq_ofNat_of_zero_le hv0
      have hjm:j<m:=by omega
      obtain ⟨hz1,hz2⟩:=HZ.out i j hlt hjm
      rcases (hx.below (bel_tr hbel2 hbs)) with h0|⟨bx,ox,rfl,helx⟩
      ·omega
      obtain ⟨pA,aA,nA,cA,dA,mA,lA,c0,c1,c2,hA⟩:=helx j (by omega)
      have hkI4:(j:Int)*3=((j*3:Nat):Int):=by omega
      have hZk:Zt k≤P.ZR i:=by have:=tot_le (Z:=Zt) hlt2;omega
      clear helx
      go_wp2_with fail
      have N:=box_new wr #[.int .i64 (j:Int),.bool pC,.slice aC nC cC,.slice dC mC lC] 62
      have hz:=bel_d0 wr (.cells #[.int .i64 (j:Int),.bool pC,.slice aC nC cC,.slice dC mC lC] 62)
      have hsz3:wr.heap.size+1≤(wr.alloc (.cells #[.int .i64 (j:Int),.bool pC,.slice aC nC cC,.slice dC mC lC] 62)).heap.size:=by simp
      have hrow:∀ g,(Value.slice o2 c k2).ownBlock=some g→W2.heap.size≤g∧g<wr.heap.size:=fun g hg=>M.lt g hg
      have hbx:bx<w.heap.size:=by
       rcases hx with h0|⟨b',o',e',hev'⟩
       ·omega
       ·simp only [Option.some.injEq,Addr.mk.injEq] at e'
        obtain ⟨rfl,_,_⟩:=e'
        obtain ⟨_,_,_,_,_,_,_,h,_⟩:=hev' j (by omega)
        exact World.block_lt_of_cell? _ _ h
      replace M:=M.below hss hz
      replace hA:=hA.below hz
      replace hC:=hC.below hz
      have hTw:=hT.below (bel_tr (bel_tr hbel2 hbs) hz)
      have hbs2:=bel_tr hbs hz
      replace c0:=kept_c hz c0
      replace c1:=kept_c hz c1
      replace c2:=kept_c hz c2
      have n0:=N 0 _ rfl
      have n1:=N 1 _ rfl
      have n2:=N 2 _ rfl
      have n3:=N 3 _ rfl
      clear t0 t1 t2 t3 hz N
      generalize wr.alloc (.cells #[.int .i64 (j:Int),.bool pC,.slice aC nC cC,.slice dC mC lC] 62)=W3 at *
      have HB:∀ w',Below W3.heap.size W3 w'→(w'.cell? ⟨wr.heap.size,0,none⟩=some (.int .i64 (j:Int))∧w'.cell? ⟨wr.heap.size,1,none⟩=some (.bool pC)∧w'.cell? ⟨wr.heap.size,2,none⟩=some (.slice aC nC cC)∧w'.cell? ⟨wr.heap.size,3,none⟩=some (.slice dC mC lC)∧w'.cell? ⟨bx,ox+j*3,none⟩=some (.bool pA)∧w'.cell? ⟨bx,ox+j*3+1,none⟩=some (.slice aA nA cA)∧w'.cell? ⟨bx,ox+j*3+2,none⟩=some (.slice dA mA lA)):=fun w' h=>⟨kept_c h n0,kept_c h n1,kept_c h n2,kept_c h n3,kept_c h c0,kept_c h c1,kept_c h c2⟩
      have HG:∀ V w':World,(V.cell? ⟨wr.heap.size,0,none⟩=some (.int .i64 (j:Int))∧V.cell? ⟨wr.heap.size,1,none⟩=some (.bool pC)∧V.cell? ⟨wr.heap.size,2,none⟩=some (.slice aC nC cC)∧V.cell? ⟨wr.heap.size,3,none⟩=some (.slice dC mC lC)∧V.cell? ⟨bx,ox+j*3,none⟩=some (.bool pA)∧V.cell? ⟨bx,ox+j*3+1,none⟩=some (.slice aA nA cA)∧V.cell? ⟨bx,ox+j*3+2,none⟩=some (.slice dA mA lA))→V.grownBy w' (Value.slice o2 c k2).ownBlock→(w'.cell? ⟨wr.heap.size,0,none⟩=some (.int .i64 (j:Int))∧w'.cell? ⟨wr.heap.size,1,none⟩=some (.bool pC)∧w'.cell? ⟨wr.heap.size,2,none⟩=some (.slice aC nC cC)∧w'.cell? ⟨wr.heap.size,3,none⟩=some (.slice dC mC lC)∧w'.cell? ⟨bx,ox+j*3,none⟩=some (.bool pA)∧w'.cell? ⟨bx,ox+j*3+1,none⟩=some (.slice aA nA cA)∧w'.cell? ⟨bx,ox+j*3+2,none⟩=some (.slice dA mA lA)) :=
       fun V w' h hg=>⟨keep_ne hg h.1 (fun e=>by have:=hrow _ e;simp at this),keep_ne hg h.2.1 (fun e=>by have:=hrow _ e;simp at this),keep_ne hg h.2.2.1 (fun e=>by have:=hrow _ e;simp at this),keep_ne hg h.2.2.2.1 (fun e=>by have:=hrow _ e;simp at this),keep_ne hg h.2.2.2.2.1 (fun e=>by have:=hrow _ e;simp at this;omega),keep_ne hg h.2.2.2.2.2.1 (fun e=>by have:=hrow _ e;simp at this;omega),keep_ne hg h.2.2.2.2.2.2 (fun e=>by have:=hrow _ e;simp at this;omega)⟩
      go_region_held3 (fun w'=>w'.cell? ⟨wr.heap.size,0,none⟩=some (.int .i64 (j:Int))∧w'.cell? ⟨wr.heap.size,1,none⟩=some (.bool pC)∧w'.cell? ⟨wr.heap.size,2,none⟩=some (.slice aC nC cC)∧w'.cell? ⟨wr.heap.size,3,none⟩=some (.slice dC mC lC)∧w'.cell? ⟨bx,ox+j*3,none⟩=some (.bool pA)∧w'.cell? ⟨bx,ox+j*3+1,none⟩=some (.slice aA nA cA)∧w'.cell? ⟨bx,ox+j*3+2,none⟩=some (.slice dA mA lA))
       (first|(with_reducible refine HG _ _ (HB _ ?_) hgrow;repeat' (first|with_reducible exact hc1|with_reducible exact Below.refl _ _|with_reducible refine bel_dr ?_|with_reducible refine bel_a ?_))|(with_reducible refine HB _ ?_;repeat' (first|with_reducible exact hc1|with_reducible exact Below.refl _ _|with_reducible refine bel_dr ?_|with_reducible refine bel_a ?_)))
       ((first
        | (go_at_call 43;go_fit (mulQ _ (hC.below (by first|exact bel_d1 _|exact bel_d2 _ _)) (hA.below (by first|exact bel_d1 _|exact bel_d2 _ _)) (by omega) (by omega) (by omega) (hTw.below (by first|exact bel_d1 _|exact bel_d2 _ _)));rintro e v1 ⟨f2,e2,m2,l2,e3,m3,l3,rfl,G2,hb1⟩;have hc1:Below W3.heap.size W3 v1:=(by first|exact bel_tr (bel_d1 _) hb1|exact bel_tr (bel_d2 _ _) hb1);have hsv1:=Below.size hc1)
        | (refine step_appendM _ (by rfl) _ _ (by rfl) W2.heap.size (.slice o2 c k2) c Y S (by rfl) ((M.below (by omega) hc1).below (by omega) (bel_d0 _ _)) v1.heap.size _ (by rfl) f2 e2 m2 l2 e3 m3 l3 _ (cell_new3 (by rfl)) (.inl (((G2.below (bel_d0 _ _)).mono (by simp;omega)).le (by omega))) (by omega) (by simp;omega) (v1.heap.size+1) (by simp) ?_;intro g cap1 w3 LN hgrow hat hlt1)))
      have hg2:=grown_below (B:=W2.heap.size) hgrow (by simp;omega) (fun g hg=>(hrow g hg).1)
      have hbs':Below W2.heap.size W2 w3:=(bel_a (bel_tr hbs2 hc1)).trans hg2
      have etv:tv (P.R i) X m k=((P.R i).t k).coef*X j:=by
       unfold tv
       rw [← EV.out,if_pos ⟨hv0,hvm⟩]
       rfl
      have hsum':rsum (fun q=>if q<c then Y q else ((P.R i).t k).coef*X j) (c+1)=rsum (tv (P.R i) X m) (k+1):=by
       rw [rsum_succ,rsum_succ,etv,← hsum]
       simp only [Nat.lt_irrefl,if_false]
       congr 1
       exact rsum_congr fun q hq=>by simp only [hq,if_true]
      have HY':∀ q,q<c+1→∃ q',(fun q=>if q<c then Y q else ((P.R i).t k).coef*X j) q=tv (P.R i) X m q'∧q'<nt∧0≤((P.R i).t q').var∧((P.R i).t q').var<(m:Int):=by
       intro q hq
       by_cases h:q<c
       ·simp only [h,if_true];exact HY q h
       ·simp only [h,if_false];exact ⟨k,etv.symm,hlt2,by rw [← EV.out];exact hv0,by rw [← EV.out];exact hvm⟩
      clear HB HG M hgrow hat hlt1 hsum HY
      go_wp2
      go_roundw
      case rel=>refine ⟨_,_,_,?_,rfl,rfl,rfl⟩;exact ⟨k+1,by omega,c+1,by omega,by go_num,_,LN,HY',hsum'⟩
      case measure=>simp [intOf];omega
     ·have etv:tv (P.R i) X m k=0:=by
       unfold tv
       rw [← EV.out,if_neg hv]
      have hsum':rsum Y c=rsum (tv (P.R i) X m) (k+1):=by rw [rsum_succ,etv,Rat.add_zero];exact hsum
      have hz:=bel_d0 wr (.cells #[.int .i64 v,.bool pC,.slice aC nC cC,.slice dC mC lC] 62)
      have M':=M.below hss hz
      have hbs':=bel_tr hbs hz
      clear hz hsum
      by_cases hv0:0≤v
      ·have hvm:¬ v<(m:Int):=fun h=>hv ⟨hv0,h⟩
       go_wp2
       go_roundw
       case rel=>first|exact ⟨k+1,c,Y,by omega,by omega,by go_num,M',HY,hsum',hbs'⟩|((repeat apply Exists.intro);refine ⟨?_,rfl⟩;exact ⟨k+1,c,Y,by omega,by omega,by go_num,M',HY,hsum',hbs'⟩)
       case measure=>simp [intOf];omega
      ·go_wp2
       go_roundw
       case rel=>first|exact ⟨k+1,c,Y,by omega,by omega,by go_num,M',HY,hsum',hbs'⟩|((repeat apply Exists.intro);refine ⟨?_,rfl⟩;exact ⟨k+1,c,Y,by omega,by omega,by go_num,M',HY,hsum',hbs'⟩)
       case measure=>simp [intOf];omega
    ·have hkJ:¬ (k:Int)<(nt:Int):=by omega
     obtain rfl:k=nt:=by omega
     have hTr:=hT.below (bel_tr hbel2 hbs)
     have L3:=(L2.below hbs).now
     have hbel3:=bel_tr hbel2 hbs
     have hsz4:=row_sz (r:=P.R i) (Zt:=Zt) (Y:=Y) (m:=m) (c:=c) (R:=P.ZR i) (hC:=by rw [← ENT.out];exact hLT2.sz) (by rw [← ENT.out];exact htot) HX.out HDA.out.1 HDA.out.2 (by rw [← ENT.out];exact HY) (by omega)
     have hsz5:∀ j,j≤c→SzR (rsum Y j) T:=fun j hj=>(hsz4 j hj).le (HT1.out i hlt)
     have ecv:rsum Y c=cv (P.R i) X m:=by rw [hsum];unfold cv;rw [← ENT.out]
     have hc2:c≤1100000:=by omega
     have HH:=sumQ o2 c k2 Y (fun _=>S) T wr M.lq (fun _ _=>⟨hS1,hST⟩) hT0 hsz5 hc2 hTr
     clear hsz4 hsz5 M HY hLT2 hbs hbel2 L2 hsum hTr
     go_wp2_with fail
     refine HH.mono ?_
     clear HH
     rintro e w2 ⟨f,c1,n1,l1,d1,m1,l2,rfl,G,hx2⟩
     have hs2:=Below.size hx2
     replace L3:=L3.below hx2
     replace hbel3:=bel_tr hbel3 hx2
     replace G:=G.val ecv
     clear hx2
     have hrow:∀ g,(Value.slice o1 i k1).ownBlock=some g→w.heap.size+1≤g:=fun g hg=>(L3.lt g hg).1
     have hs5:=hbel3.size
     go_wp2_with (at_builtin;refine wpList_appendRA _ rfl _ _ rfl (w.heap.size+1) wr.heap.size (.slice o1 i k1) i (fun j=>cv (P.R j) X m) T rfl (L3.below (bel_d0 _ _)) w2.heap.size _ rfl f c1 n1 l1 d1 m1 l2 (cell_new3 rfl) (G.below (bel_d0 _ _)) (by omega) (by simp;omega) (w2.heap.size+1) (by simp) ?_)
     intro g1 cap1 w3 LN hgrow hat _
     have hg2:=grown_below (B:=w.heap.size+1) hgrow (by simp;omega) hrow
     have hbelN:Below w.heap.size w w3:=(bel_a hbel3).trans (hg2.mono (by omega))
     have hs6:=hg2.size
     have hs7:w.heap.size+1≤w3.heap.size:=by simp at hs6;omega
     clear hgrow hat hrow L3 G hbel3
     rw [← hra']
     clear hra'
     go_wp2
     go_roundw
     case rel=>first|exact ⟨i+1,by omega,by go_num,LN,hbelN,hs7⟩|((repeat apply Exists.intro);refine ⟨?_,rfl⟩;exact ⟨i+1,by omega,by go_num,LN,hbelN,hs7⟩)
     case measure=>simp [intOf];omega
  ·have hkI:¬ (i:Int)<(P.rn:Int):=by omega
   obtain rfl:i=P.rn:=by omega
   go_wp2
   go_ret
   exact ⟨_,_,rfl,L.mono (by omega),hbel⟩
end Go.Proofs.YtdcocflnafcikaaGreatDoor

import Derived.Test.YtdcocflnafcikaaGreatDoorPqKAll
import Derived.Test.YtdcocflnafcikaaGreatDoorPqEAll
namespace Go.Proofs.YtdcocflnafcikaaGreatDoor
open Go.RowKit
structure HK (P:Prob):Prop where
 vn:P.vn≤1048576
 rn:P.rn≤1048576
 ZV:∀ j,j<P.vn→P.ZV j≤1100000
 ZR:∀ i,i<P.rn→P.ZR i≤2200000
theorem PQ.hk {w:World} {P:Prob} (hP:PQ w P) (hK:P.K≤1048576):HK P:=by
 have hall:=hP.all
 have h1:=tot_len P.ZV P.vn
 have h2:=tot_len P.ZR P.rn
 exact ⟨by omega,by omega,fun j hj=>by have:=tot_le (Z:=P.ZV) hj;omega,fun i hi=>by have:=tot_le (Z:=P.ZR) hi;omega⟩
set_option maxRecDepth 100000 in
set_option maxHeartbeats 16000000 in
theorem sumsDn (P:Prob) {xa:Option Addr} {n xc:Nat} {X:Nat→Rat} {Z:Nat→Nat} {S T U:Nat} (w:World) (hP:PQ w P) (hx:LQ w xa n X Z) (hz:∀ j,j<n→1≤Z j∧Z j≤U) (hU:1≤U∧U≤7000000) (hS:∀ i,i<P.rn→P.ZR i+U≤S) (hST:T+S≤5999999) (hT1:1≤T) (hK:HK P)
  (hsz:∀ i k,i<P.rn→k≤(P.R i).nt→SzR (rsum (tv (P.R i) (xn X n) P.vn) k) T) :
  Calls Tryz.prog 20 #[P.val,.slice xa n xc] w fun e w'=>∃ a cap,e = .returned (.slice a P.rn cap)∧RL w' w.heap.size (.slice a P.rn cap) P.rn (fun i=>cv (P.R i) (xn X n) P.vn) T∧Below w.heap.size w w':=by
 have HS:Hid (∀ i k,i<P.rn→k≤(P.R i).nt→SzR (rsum (tv (P.R i) (xn X n) P.vn) k) T):=hsz
 have hrn:=hK.rn
 have hvn:=hK.vn
 clear hsz
 unfold Prob.val
 have Pb:=box_new w #[.bool P.mx,.string P.nm,.bool P.p,.slice P.a P.na P.ca,.slice P.d P.nd P.cd,.slice P.va P.vn P.vc,.slice P.ra P.rn P.rc] 31
 have hb0:=bel_d0 w (.cells #[.bool P.mx,.string P.nm,.bool P.p,.slice P.a P.na P.ca,.slice P.d P.nd P.cd,.slice P.va P.vn P.vc,.slice P.ra P.rn P.rc] 31)
 have hsA:w.heap.size+1≤(w.alloc (.cells #[.bool P.mx,.string P.nm,.bool P.p,.slice P.a P.na P.ca,.slice P.d P.nd P.cd,.slice P.va P.vn P.vc,.slice P.ra P.rn P.rc] 31)).heap.size:=by simp
 go_enter Tryz.func20,Tryz.ntmps20
 go_wp2
 generalize w.alloc (.cells #[.bool P.mx,.string P.nm,.bool P.p,.slice P.a P.na P.ca,.slice P.d P.nd P.cd,.slice P.va P.vn P.vc,.slice P.ra P.rn P.rc] 31)=W0 at *
 go_loopw [5,6] (fun s5 s6 wr=>∃ (i:Nat),i≤P.rn∧s6 = .int .i64 i∧RL wr (w.heap.size+1) s5 i (fun j=>cv (P.R j) (xn X n) P.vn) T∧BoxC wr w.heap.size (#[.bool P.mx,.string P.nm,.bool P.p,.slice P.a P.na P.ca,.slice P.d P.nd P.cd,.slice P.va P.vn P.vc,.slice P.ra P.rn P.rc]).toList∧Below w.heap.size w wr∧w.heap.size+1≤wr.heap.size) (fun _ s6 _=>P.rn-(intOf s6).toNat)
 case atStart=>exact ⟨0,Nat.zero_le _,rfl,RL.nil _ _ _ _,Pb,hb0,hsA⟩
 case round =>
  clear Pb hb0 hsA
  obtain ⟨i,hi,rfl,L,Pb,hbel,hsr⟩:=hrel
  obtain ⟨o1,k1,rfl⟩:=L.form
  have q6:=Pb 6 _ rfl
  by_cases hlt:i<P.rn
  ·have hkI:(i:Int)<(P.rn:Int):=by omega
   have hSi:=hS i hlt
   have hZi:=hK.ZR i hlt
   have hkI2:(i:Int)*10=((i*10:Nat):Int):=by omega
   obtain ⟨nt,ent⟩:∃ nt,nt=(P.R i).nt:=⟨_,rfl⟩
   have ENT:Hid (nt=(P.R i).nt):=ent
   have hnt:nt≤2200000:=by
    rcases hP.r with h0|⟨rb,ro,hra,hew⟩
    ·omega
    obtain ⟨ta,tc,Zt,r1,hLT,htot,htc⟩:=(hew i hlt).terms
    have:=tot_len Zt (P.R i).nt
    omega
   clear ent
   go_wp2_with fail
   refine (ofD 0 _ (by decide) (by decide)).mono ?_
   rintro e w2 ⟨f0,c0,n0,k0,d0,m0,l0,rfl,G0,hx1⟩
   have hs1:=Below.size hx1
   replace G0:=(((G0.mono (B':=w.heap.size+1) (by omega)).val (show ((0:Int):Rat)=rsum (tv (P.R i) (xn X n) P.vn) 0 from rfl)).fit (HS.out i 0 hlt (Nat.zero_le _))).gx (R:=w2.heap.size) (.inr (Nat.le_refl _))
   replace L:=L.below hx1
   replace Pb:=Pb.below hx1
   replace hbel:=bel_tr hbel hx1
   clear hx1 q6
   have hz1:=bel_d0 w2 (.cells #[.bool f0,.slice c0 n0 k0,.slice d0 m0 l0] 27)
   have V0:=var3_new w2 (.bool f0) (.slice c0 n0 k0) (.slice d0 m0 l0) 27
   have hs2:(w2.alloc (.cells #[.bool f0,.slice c0 n0 k0,.slice d0 m0 l0] 27)).heap.size=w2.heap.size+1:=by simp
   replace G0:=G0.below hz1
   go_wp2
   generalize w2.alloc (.cells #[.bool f0,.slice c0 n0 k0,.slice d0 m0 l0] 27)=W1 at *
   go_loopw [8] (fun s wq=>∃ (k:Nat) (f:Bool) (c:Option Addr) (n1 k1:Nat) (d:Option Addr) (m l:Nat),k≤nt∧s = .int .i64 k∧Var3 wq w2.heap.size (.bool f) (.slice c n1 k1) (.slice d m l)∧GX wq (w.heap.size+1) w2.heap.size f c n1 k1 d m l (rsum (tv (P.R i) (xn X n) P.vn) k) T∧Below w2.heap.size w2 wq∧w2.heap.size+1≤wq.heap.size) (fun t _=>nt-(intOf t).toNat)
   case atStart=>exact ⟨0,_,_,_,_,_,_,_,Nat.zero_le _,rfl,V0,G0,hz1,by omega⟩
   case round =>
    clear V0 G0 hz1 hs2
    obtain ⟨k,f,c,n1,k2,d,m,l,hk,rfl,V,G,hbs,hsw⟩:=hrel
    have hbq:=bel_tr hbel hbs
    have Pq:=Pb.below hbs
    have q6:=Pq 6 _ rfl
    have q5:=Pq 5 _ rfl
    rcases (hP.r.below hbq) with h0|⟨rb,ro,hra,hew⟩
    ·omega
    obtain ⟨ta,tc,Zt,r1,hLT,htot,htc⟩:=(hew i hlt).terms
    rw [hra] at q6
    rw [← ENT.out] at r1 hLT htot
    clear hra hew htc
    by_cases hlt2:k<nt
    ·have hkJ:(k:Int)<(nt:Int):=by omega
     rcases hLT with h0|⟨tb,to,rfl,hel⟩
     ·omega
     obtain ⟨t0,⟨pC,aC,nC,cC,dC,mC,lC,t1,t2,t3,hC⟩,hsC,hszC,hv1,hv2⟩:=hel k hlt2
     obtain ⟨v,ev⟩:∃ v,v=((P.R i).t k).var:=⟨_,rfl⟩
     rw [← ev] at t0 hv1 hv2
     have EV:Hid (v=((P.R i).t k).var):=ev
     have hkJ2:(k:Int)*4=((k*4:Nat):Int):=by omega
     have hZk:Zt k≤P.ZR i:=by have:=tot_le (Z:=Zt) hlt2;omega
     clear hel ev htot
     by_cases hv:0≤v∧v<(P.vn:Int)
     ·obtain ⟨hv0,hvm⟩:=hv
      obtain ⟨j,rfl⟩:=Int.eq_ofNat_of_zero_le hv0
      have hz2:=bel_d0 wr (.cells #[.int .i64 (j:Int),.bool pC,.slice aC nC cC,.slice dC mC lC] 62)
      have q5':=kept_c hz2 q5
      go_wp2_with fail
      have N:=box_new wr #[.int .i64 (j:Int),.bool pC,.slice aC nC cC,.slice dC mC lC] 62
      have hsz3:(wr.alloc (.cells #[.int .i64 (j:Int),.bool pC,.slice aC nC cC,.slice dC mC lC] 62)).heap.size=wr.heap.size+1:=by simp
      replace hC:=hC.below hz2
      replace V:=V.below hz2
      replace G:=G.below hz2
      have hxr:=hx.below (bel_tr hbq hz2)
      replace hbs:=hbs.trans (hz2.mono (by omega))
      have n0:=N 0 _ rfl
      have n1':=N 1 _ rfl
      have n2:=N 2 _ rfl
      have n3:=N 3 _ rfl
      clear t0 t1 t2 t3 hz2 N q5 q5' q6 r1 Pq hbq
      generalize wr.alloc (.cells #[.int .i64 (j:Int),.bool pC,.slice aC nC cC,.slice dC mC lC] 62)=W3 at *
      obtain ⟨s0,s1,s2,_,_,_⟩:=id V
      have etv:tv (P.R i) (xn X n) P.vn k=((P.R i).t k).coef*xat X n (j:Int):=by
       unfold tv
       rw [← EV.out,if_pos ⟨hv0,hvm⟩,xat_nat]
       rfl
      have HS1:Hid (SzR (rsum (tv (P.R i) (xn X n) P.vn) k+((P.R i).t k).coef*xat X n (j:Int)) T):=by rw [← etv];exact HS.out i (k+1) hlt (by rw [← ENT.out];omega)
      have HBX:∀ w',Below W3.heap.size W3 w'→(w'.cell? ⟨w2.heap.size,0,none⟩=some (.bool f)∧w'.cell? ⟨w2.heap.size,1,none⟩=some (.slice c n1 k2)∧w'.cell? ⟨w2.heap.size,2,none⟩=some (.slice d m l)∧w'.cell? ⟨wr.heap.size,0,none⟩=some (.int .i64 (j:Int))∧w'.cell? ⟨wr.heap.size,1,none⟩=some (.bool pC)∧w'.cell? ⟨wr.heap.size,2,none⟩=some (.slice aC nC cC)∧w'.cell? ⟨wr.heap.size,3,none⟩=some (.slice dC mC lC)):=fun w' h=>⟨kept_c h s0,kept_c h s1,kept_c h s2,kept_c h n0,kept_c h n1',kept_c h n2,kept_c h n3⟩
      refine wp_region_noPanic (wp_region_guardT 9 HBX (by as_aux_lemma=>kernel_rfl) ?_)
      have hc0:Below W3.heap.size W3 W3.drew:=bel_d1 _
      generalize W3.drew=z0 at *
      refine wpAnyG.tT 0 (v:=.agg #[.bool f,.slice c n1 k2,.slice d m l]) (by decide) 9 (by as_aux_lemma=>kernel_rfl) (by rfl) ?y0 (HBX _ hc0) ?_
      case y0 =>
       rintro w' ⟨q0,q1,q2,q3,q4,q5,q6⟩
       simp only [lgA,lgZ]
       go_simp
      simp only [lgA,lgZ,Act.put,lsA,lsZ,lsS]
      refine wpAnyG.tT 1 (v:=.pointer (some ⟨wr.heap.size,1,none⟩)) (by decide) 9 (by as_aux_lemma=>kernel_rfl) (by rfl) ?y1 (HBX _ hc0) ?_
      case y1 =>
       rintro w' ⟨q0,q1,q2,q3,q4,q5,q6⟩
       simp only [lgA,lgZ,lgS]
       go_simp
      simp only [lgA,lgZ,lgS,Act.put,lsA,lsZ,lsS]
      refine wpAnyG.tT 2 (v:=.agg #[.bool pC,.slice aC nC cC,.slice dC mC lC]) (by decide) 9 (by as_aux_lemma=>kernel_rfl) (by rfl) ?y2 (HBX _ hc0) ?_
      case y2 =>
       rintro w' ⟨q0,q1,q2,q3,q4,q5,q6⟩
       simp only [lgA,lgZ,lgS]
       go_simp
      simp only [lgA,lgZ,lgS,Act.put,lsA,lsZ,lsS]
      refine wpAnyG.tT 3 (v:=.slice xa n xc) (by decide) 9 (by as_aux_lemma=>kernel_rfl) (by rfl) ?y3 (HBX _ hc0) ?_
      case y3 =>
       rintro w' ⟨q0,q1,q2,q3,q4,q5,q6⟩
       simp only [lgA,lgZ,lgS]
       go_simp
      simp only [lgA,lgZ,lgS,Act.put,lsA,lsZ,lsS]
      refine wpAnyG.tT 4 (v:=.pointer (some ⟨wr.heap.size,0,none⟩)) (by decide) 9 (by as_aux_lemma=>kernel_rfl) (by rfl) ?y4 (HBX _ hc0) ?_
      case y4 =>
       rintro w' ⟨q0,q1,q2,q3,q4,q5,q6⟩
       simp only [lgA,lgZ,lgS]
       go_simp
      simp only [lgA,lgZ,lgS,Act.put,lsA,lsZ,lsS]
      refine wpAnyG.tT 5 (v:=.int .i64 (j:Int)) (by decide) 9 (by as_aux_lemma=>kernel_rfl) (by rfl) ?y5 (HBX _ hc0) ?_
      case y5 =>
       rintro w' ⟨q0,q1,q2,q3,q4,q5,q6⟩
       simp only [lgA,lgZ,lgS]
       go_simp
      simp only [lgA,lgZ,lgS,Act.put,lsA,lsZ,lsS]
      refine wpAnyG.one 6 (by as_aux_lemma=>kernel_rfl) (by decide) (by rfl) (fun K hK=>?_)
      simp only [lgA,lgZ,lgS]
      go_simp
      refine (atD (S:=U) (j:Int) z0 (hxr.below hc0) hz hU).mono ?_
      rintro e z1 ⟨g1,u1,i1,j1,o2,t1,x1,rfl,G1,hk1⟩
      have hc1:Below W3.heap.size W3 z1:=bel_tr hc0 hk1
      dsimp only
      refine hK _ _ ⟨fun _=>HBX _ hc1,fun _=>trivial⟩ ?_
      clear hK K
      refine wpAnyG.one 7 (by as_aux_lemma=>kernel_rfl) (by decide) (by rfl) (fun K hK=>?_)
      simp only [lgA,lgZ,lgS]
      go_simp
      refine (mulD z1 (hC.below hc1) G1.tr (by omega) (by omega) (by omega)).mono ?_
      rintro e z2 ⟨g2,u2,i2,j2,o3,t2,x2,rfl,G2,hk2⟩
      have hc2:Below W3.heap.size W3 z2:=bel_tr hc1 hk2
      dsimp only
      refine hK _ _ ⟨fun _=>HBX _ hc2,fun _=>trivial⟩ ?_
      clear hK K
      refine wpAnyG.one 8 (by as_aux_lemma=>kernel_rfl) (by decide) (by rfl) (fun K hK=>?_)
      simp only [lgA,lgZ,lgS]
      go_simp
      refine (addD z2 (G.1.tr.below hc2) G2.tr (by omega) (by omega) (by omega)).mono ?_
      rintro e z3 ⟨g3,u3,i3,j3,o4,t3,x3,rfl,G3,hk3⟩
      have hc3:Below W3.heap.size W3 z3:=bel_tr hc2 hk3
      have hs3:=Below.size hc3
      dsimp only
      refine hK _ _ ⟨fun _=>HBX _ hc3,fun _=>trivial⟩ ?_
      clear hK K
      refine wpAnyG.one 9 (by as_aux_lemma=>kernel_rfl) (by decide) (by rfl) (fun K hK=>?_)
      simp only [lgA,lgZ,lgS]
      have VS:=V.below hc3
      obtain ⟨y0,y1,y2,y3,y4,y5⟩:=id VS
      go_simp
      refine hK _ _ ⟨fun h=>absurd h (by decide),fun _=>trivial⟩ ?_
      clear hK K
      refine wpAnyG.done (by as_aux_lemma=>kernel_rfl) (NoPanic.normal ?_)
      have hsz2:=Below.size hk2
      have hsz4:=Below.size hc2
      have GN:=((G3.fit HS1.out).gx (R:=w2.heap.size) (.inl (by omega))).mono (B':=w.heap.size+1) (by omega)
      obtain ⟨V',O⟩:=VS.set (.bool g3) (.slice u3 i3 j3) (.slice o4 t3 x3)
      have GN':=(GN.off O)
      have GN2:GX _ (w.heap.size+1) w2.heap.size g3 u3 i3 j3 o4 t3 x3 (rsum (tv (P.R i) (xn X n) P.vn) (k+1)) T:=⟨GN'.1.val (by rw [← etv];rfl),GN'.2⟩
      have hbs':Below w2.heap.size w2 _:=(hbs.trans (hc3.mono (by omega))).trans (O.below (Nat.le_refl _))
      have hs4:=O.size
      clear V hbs O GN GN' VS HBX G1 G2 G3 hc0 hc1 hc2 hc3 hk1 hk2 hk3 y0 y1 y2 y3 y4 y5 s0 s1 s2 n0 n1' n2 n3 hxr hC G etv
      go_wp2
      go_roundw
      case rel=>first|exact ⟨k+1,_,_,_,_,_,_,_,by omega,by go_num,V',GN2,hbs',by omega⟩|((repeat apply Exists.intro);refine ⟨?_,rfl⟩;exact ⟨k+1,_,_,_,_,_,_,_,by omega,by go_num,V',GN2,hbs',by omega⟩)
      case measure=>simp [intOf];omega
     ·have etv:tv (P.R i) (xn X n) P.vn k=0:=by
       unfold tv
       rw [← EV.out,if_neg hv]
      have hz2:=bel_d0 wr (.cells #[.int .i64 v,.bool pC,.slice aC nC cC,.slice dC mC lC] 62)
      have hsz3:(wr.alloc (.cells #[.int .i64 v,.bool pC,.slice aC nC cC,.slice dC mC lC] 62)).heap.size=wr.heap.size+1:=by simp
      have V':=V.below hz2
      have GN':=G.below hz2
      have GN2:GX _ (w.heap.size+1) w2.heap.size f c n1 k2 d m l (rsum (tv (P.R i) (xn X n) P.vn) (k+1)) T:=⟨GN'.1.val (by rw [rsum_succ,etv,Rat.add_zero]),GN'.2⟩
      have hbs':Below w2.heap.size w2 _:=hbs.trans (hz2.mono (by omega))
      have q5':=kept_c hz2 q5
      clear GN' hz2 G V hbs hC
      by_cases hv0:0≤v
      ·have hvm:¬ v<(P.vn:Int):=fun h=>hv ⟨hv0,h⟩
       go_wp2
       go_roundw
       case rel=>first|exact ⟨k+1,_,_,_,_,_,_,_,by omega,by go_num,V',GN2,hbs',by omega⟩|((repeat apply Exists.intro);refine ⟨?_,rfl⟩;exact ⟨k+1,_,_,_,_,_,_,_,by omega,by go_num,V',GN2,hbs',by omega⟩)
       case measure=>simp [intOf];omega
      ·go_wp2
       go_roundw
       case rel=>first|exact ⟨k+1,_,_,_,_,_,_,_,by omega,by go_num,V',GN2,hbs',by omega⟩|((repeat apply Exists.intro);refine ⟨?_,rfl⟩;exact ⟨k+1,_,_,_,_,_,_,_,by omega,by go_num,V',GN2,hbs',by omega⟩)
       case measure=>simp [intOf];omega
    ·have hkJ:¬ (k:Int)<(nt:Int):=by omega
     obtain rfl:k=nt:=by omega
     have ecv:rsum (tv (P.R i) (xn X n) P.vn) k=cv (P.R i) (xn X n) P.vn:=by unfold cv;rw [← ENT.out]
     have GG:=G.1.val ecv
     have L3:=L.below hbs
     have hrow:∀ g,(Value.slice o1 i k1).ownBlock=some g→w.heap.size+1≤g:=fun g hg=>(L3.lt g hg).1
     obtain ⟨s0,s1,s2,_,_,_⟩:=id V
     have hsq:=hbq.size
     clear G hLT htot ecv q5
     go_wp2_with (at_builtin;refine wpList_appendR _ rfl _ _ rfl (w.heap.size+1) (.slice o1 i k1) i (fun j=>cv (P.R j) (xn X n) P.vn) T rfl (L3.below (bel_d0 _ _)) wr.heap.size _ rfl f c n1 k2 d m l (cell_new3 rfl) (GG.below (bel_d0 _ _)) (by omega) (by simp;omega) (wr.heap.size+1) (by simp) ?_)
     intro g1 cap1 w3 LN hgrow hat _
     have hg2:=grown_below (B:=w.heap.size+1) hgrow (by simp;omega) hrow
     have Pn:BoxC w3 w.heap.size (#[.bool P.mx,.string P.nm,.bool P.p,.slice P.a P.na P.ca,.slice P.d P.nd P.cd,.slice P.va P.vn P.vc,.slice P.ra P.rn P.rc]).toList:=fun a u hu=>keep_ne hgrow ((Pq.below (bel_d0 wr _)) a u hu) (fun e=>by have:=hrow _ e;simp at this;omega)
     have hbelN:Below w.heap.size w w3:=(bel_a hbq).trans (hg2.mono (by omega))
     have hs6:=hg2.size
     have hs7:w.heap.size+1≤w3.heap.size:=by simp at hs6;omega
     clear hgrow hat hrow L3 GG hbq hbs V s0 s1 s2 L Pb Pq hbel q6 r1
     go_wp2
     go_roundw
     case rel=>first|exact ⟨i+1,by omega,by go_num,LN,Pn,hbelN,hs7⟩|((repeat apply Exists.intro);refine ⟨?_,rfl⟩;exact ⟨i+1,by omega,by go_num,LN,Pn,hbelN,hs7⟩)
     case measure=>simp [intOf];omega
  ·have hkI:¬ (i:Int)<(P.rn:Int):=by omega
   obtain rfl:i=P.rn:=by omega
   go_wp2
   go_ret
   exact ⟨_,_,rfl,L.mono (by omega),hbel⟩
theorem sumsD (P:Prob) {xa:Option Addr} {n xc:Nat} {X:Nat→Rat} {Z:Nat→Nat} {S T U:Nat} (w:World) (hP:PQ w P) (hx:LQ w xa n X Z) (hz:∀ j,j<n→1≤Z j∧Z j≤U) (hU:1≤U∧U≤7000000) (hS:∀ i,i<P.rn→P.ZR i+U≤S) (hST:T+S≤5999999) (hT1:1≤T) (hK:P.K≤1048576)
  (hsz:∀ i k,i<P.rn→k≤(P.R i).nt→SzR (rsum (tv (P.R i) (xn X n) P.vn) k) T) :
  Calls Tryz.prog 20 #[P.val,.slice xa n xc] w fun e w'=>∃ a cap,e = .returned (.slice a P.rn cap)∧RL w' w.heap.size (.slice a P.rn cap) P.rn (fun i=>cv (P.R i) (xn X n) P.vn) T∧Below w.heap.size w w':=sumsDn P w hP hx hz hU hS hST hT1 (hP.hk hK) hsz
end Go.Proofs.YtdcocflnafcikaaGreatDoor

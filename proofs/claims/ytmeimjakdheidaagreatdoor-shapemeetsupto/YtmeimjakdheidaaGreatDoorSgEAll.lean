import Derived.Test.YtmeimjakdheidaaGreatDoorSgD
import Derived.Test.YtmeimjakdheidaaGreatDoorShV0All
import Derived.Test.YtmeimjakdheidaaGreatDoorPqFAll
import Derived.Test.YtmeimjakdheidaaGreatDoorShV
import Derived.Test.YtmeimjakdheidaaGreatDoorShQ
namespace Go.Proofs.YtmeimjakdheidaaGreatDoor
open Go.RowKit
theorem mts_iff {A:List Eqn × Nat} {Y:Nat→Rat} (ho:EqO A):Mts A Y↔(∀ c,c<A.2→0≤Y c)∧∀ i,i<A.1.length→bJ (fun c=>bV (A.1.getD i ⟨[],0⟩).l c*Y c) A.2=(A.1.getD i ⟨[],0⟩).r :=
 ⟨fun h=>⟨h.1,fun i hi=>by rw [tH (ho _ (getD_mem hi))];exact h.2 _ (getD_mem hi)⟩,fun h=>Mts.of ho h.1 h.2⟩
theorem zn_lay (Q:Prob) (X:Nat→Rat):zn (bM Q).2 (gt0 (iV Q X))=gt0 (iV Q X):=by
 funext c
 unfold zn
 by_cases h:c<(bM Q).2
 ·exact if_pos h
 ·rw [if_neg h,xM (by rw [layQ_len];omega)]
set_option maxRecDepth 100000 in
set_option maxHeartbeats 16000000 in
theorem meets_walk (P:Prob) {xa:Option Addr} {m xc:Nat} {X:Nat→Rat} {Zx:Nat→Nat} {Kx:Nat} (w:World) (hP:PQ w P) (hx:LQ w xa m X Zx) (hzx:∀ i,i<m→1≤Zx i∧SzR (X i) (Zx i)) (htx:tot Zx m≤Kx) (hmc:m≤xc) (hK:P.K+Kx≤1048576) (hT:TB w)
 (HA:∀ w1,Below w.heap.size w w1→Calls Tryz.prog 5 #[] w1 fun e w'=>e = .returned (.bool true)∧Below w1.heap.size w1 w') :
 Calls Tryz.prog 3 #[P.val,.slice xa m xc] w fun e w'=>e = .returned (.bool true)∧Below w.heap.size w w':=by
 have hKx:1≤Kx:=by have:=wJ Zx m;omega
 obtain ⟨Dx,d1,d2,d3⟩:=Wd.list (X:=X) (Z:=Zx) (n:=m) (K:=Kx) (fun i hi=>(hzx i hi).2) htx
 have hxU:LQ w xa m X (fun _=>Kx):=hx.unif fun i hi=>by have:=bY (Z:=Zx) hi;omega
 have hKP:P.K≤1048576:=by omega
 have HZX:Hid (∀ i,i<m→SzR (X i) (Zx i)):=fun i hi=>(hzx i hi).2
 have HLG:=fun w1 (h:PQ w1 P)=>largeQ P w1 h hKP
 have HMK:=fun w1 (h:PQ w1 P) (ht:TB w1)=>shapeQ P w1 h hKP ht
 have HHD:∀ w1,Below w.heap.size w w1→Calls Tryz.prog 12 #[P.val,.slice xa m xc] w1 fun e w'=>∃ b,e = .returned (.bool b)∧(b=true↔sW P m X)∧Below w1.heap.size w1 w':=fun w1 hb=>by
  have hall:=hP.all
  exact holdsQ P (S:=P.K+Kx) (T:=2*P.K+2*Kx+3) (dx:=Kx) (ax:=Kx+1) (Ax:=pw Kx) w1 (hP.below hb) (hxU.below hb) hmc (fun j _=>⟨hKx,by omega⟩) (fun i j hi _=>⟨hKx,by have:=bY (Z:=P.ZR) hi;omega⟩) (by omega) (by omega) d1 d2 (Int.le_of_lt (bG _)) (pw_lt1 _) (fun j hj=>(d3 j (by omega)).ovp) (fun i hi=>by have:=bY (Z:=P.ZR) hi;omega) (by omega) hKP (hT.below hb)
 have HTX:Hid (tot Zx m≤Kx):=htx
 clear hx hzx htx d1 d2 d3
 have RP0:=Rw.new 31 w #[.bool P.mx,.string P.nm,.bool P.p,.slice P.a P.na P.ca,.slice P.d P.nd P.cd,.slice P.va P.vn P.vc,.slice P.ra P.rn P.rc]
 have hb0:=aI w (.cells #[.bool P.mx,.string P.nm,.bool P.p,.slice P.a P.na P.ca,.slice P.d P.nd P.cd,.slice P.va P.vn P.vc,.slice P.ra P.rn P.rc] 31)
 have y0:=(RP0.cell 0).trans (show _=some (.bool P.mx) from rfl);have y1:=(RP0.cell 1).trans (show _=some (.string P.nm) from rfl);have y2:=(RP0.cell 2).trans (show _=some (.bool P.p) from rfl);have y3:=(RP0.cell 3).trans (show _=some (.slice P.a P.na P.ca) from rfl);have y4:=(RP0.cell 4).trans (show _=some (.slice P.d P.nd P.cd) from rfl);have y5:=(RP0.cell 5).trans (show _=some (.slice P.va P.vn P.vc) from rfl);have y6:=(RP0.cell 6).trans (show _=some (.slice P.ra P.rn P.rc) from rfl)
 unfold Prob.val at HLG HMK HHD ⊢
 go_enter Tryz.func3,Tryz.ntmps3
 go_wp2_with fail
 clear y0 y1 y2 y3 y4 y5 y6
 generalize w.alloc (.cells #[.bool P.mx,.string P.nm,.bool P.p,.slice P.a P.na P.ca,.slice P.d P.nd P.cd,.slice P.va P.vn P.vc,.slice P.ra P.rn P.rc] 31)=W0 at *
 refine (HLG W0 (hP.below hb0)).mono ?_
 rintro e w1 ⟨lb,rfl,h1⟩
 replace hb0:=aF hb0 h1
 replace RP0:=RP0.below h1
 clear h1 HLG
 cases lb
 case true =>
  go_wp2
  go_ret
  exact ⟨rfl,hb0⟩
 case false =>
  go_wp2_with fail
  refine (HA w1 hb0).mono ?_
  rintro e w2 ⟨rfl,h2⟩
  replace hb0:=aF hb0 h2
  replace RP0:=RP0.below h2
  clear h2 HA
  have y0:=(RP0.cell 0).trans (show _=some (.bool P.mx) from rfl);have y1:=(RP0.cell 1).trans (show _=some (.string P.nm) from rfl);have y2:=(RP0.cell 2).trans (show _=some (.bool P.p) from rfl);have y3:=(RP0.cell 3).trans (show _=some (.slice P.a P.na P.ca) from rfl);have y4:=(RP0.cell 4).trans (show _=some (.slice P.d P.nd P.cd) from rfl);have y5:=(RP0.cell 5).trans (show _=some (.slice P.va P.vn P.vc) from rfl);have y6:=(RP0.cell 6).trans (show _=some (.slice P.ra P.rn P.rc) from rfl)
  go_wp2_with fail
  clear y0 y1 y2 y3 y4 y5 y6
  refine (HMK w2 (hP.below hb0) (hT.below hb0)).mono ?_
  rintro e w3 ⟨R,rfl,Q,TID,PQ3,SH3,h3⟩
  replace hb0:=aF hb0 h3
  replace RP0:=RP0.below h3
  clear h3 HMK
  have y5:=(RP0.cell 5).trans (show _=some (.slice P.va P.vn P.vc) from rfl)
  by_cases hm:m=P.vn
  rotate_left
  ·have hmi:¬ (m:Int)=(P.vn:Int):=by omega
   go_wp2
   go_ret
   exact ⟨rfl,hb0⟩
  subst hm
  have hKQ:Q.K=P.K:=TID.K
  have hKQ1:Q.K≤1048576:=by omega
  have hKQ0:1≤Q.K:=by have:=PQ3.all;have:=PQ3.s1;omega
  have evn:Q.vn=P.vn:=TID.vn
  have heo:EqO (bM Q)∧clm Q.V Q.vn≤(bM Q).2:=TID.eqs
  obtain ⟨hlv,hlr⟩:=PQ3.lens hKQ1
  obtain ⟨hle1,hle⟩:=zG Q
  obtain ⟨pz1,pz2⟩:=PQ3.pz TID (Zx:=Zx) (Kx:=Kx) (X:=X) (fun j hj=>HZX.out j (by omega)) (by rw [evn];exact HTX.out) hKQ1
  have hli:=lai_Q TID X
  rw [evn] at hli
  have hLAY:=layL_at Q X
  have hVV:∀ j,(Q.V j).hlo=(P.V j).hlo∧(Q.V j).hhi=(P.V j).hhi∧((P.V j).hlo=true→(Q.V j).lo=(P.V j).lo)∧((P.V j).hhi=true→(Q.V j).hi=(P.V j).hi):=fun j=>by
   rw [TID.V j]
   exact ⟨rfl,rfl,fun h=>(by rw [h];rfl),fun h=>(by rw [h];rfl)⟩
  have hscM:∀ i,i<(bM Q).1.length→∀ c,SzR (bV ((bM Q).1.getD i ⟨[],0⟩).l c) Q.K:=fun i hi=>(PQ3.meet_sz (Ky:=1) (Y:=fun _=>0) (Dy:=1) hKQ1 (by decide) (by decide) (fun _=>Wd.zero (by decide) (by decide)) (n:=0) (by omega) hi).1
  have HIFF:Hid (((∀ c,c<(bM Q).2→0≤zn (bM Q).2 (gt0 (iV Q X)) c)∧∀ i,i<(bM Q).1.length→bJ (fun c=>bV ((bM Q).1.getD i ⟨[],0⟩).l c*zn (bM Q).2 (gt0 (iV Q X)) c) (bM Q).2=((bM Q).1.getD i ⟨[],0⟩).r)↔sW P P.vn X):=by
   show _↔_
   rw [zn_lay,← mts_iff heo.1,meets_iff TID X,TID.hlds,evn]
  have HPT:Hid (∀ j,j<P.vn→ptv (Q.V j) (clm Q.V j) (zn (bM Q).2 (gt0 (iV Q X)))=X j):=fun j hj=>by rw [zn_lay];exact mD Q X (by omega)
  go_wp2_with fail
  clear y5
  refine (zH w3 SH3 PQ3 hKQ1 heo (hT.below hb0)).mono ?_
  rintro e w4 ⟨aA,cA,aB,cB,gC,fK,cK,nK,kK,dK,mK,lK,rfl,AL4,BL4,_,_,h4⟩
  have hb4:=aF hb0 h4
  have RP4:=RP0.below h4
  have SH4:=SH3.below h4
  have PQ4:=PQ3.below h4
  have hx4:=aI w4 (.cells #[.slice aA (bM Q).1.length cA,.slice aB (bM Q).1.length cB,.slice (some ⟨gC,0,none⟩) (bM Q).2 (bM Q).2,.bool fK,.slice cK nK kK,.slice dK mK lK] 39)
  have RD5:=Rw.new 39 w4 #[.slice aA (bM Q).1.length cA,.slice aB (bM Q).1.length cB,.slice (some ⟨gC,0,none⟩) (bM Q).2 (bM Q).2,.bool fK,.slice cK nK kK,.slice dK mK lK]
  have RP5:=RP4.below hx4
  have SH5:=SH4.below hx4
  have PQ5:=PQ4.below hx4
  have AL5:=AL4.below hx4
  have BL5:=BL4.below hx4
  have hb5:=aF hb4 hx4
  clear RP0 hb0 SH3 PQ3 h4 RP4 SH4 PQ4 AL4 BL4 hb4 hx4
  have y0:=(RP5.cell 0).trans (show _=some (.bool P.mx) from rfl);have y1:=(RP5.cell 1).trans (show _=some (.string P.nm) from rfl);have y2:=(RP5.cell 2).trans (show _=some (.bool P.p) from rfl);have y3:=(RP5.cell 3).trans (show _=some (.slice P.a P.na P.ca) from rfl);have y4:=(RP5.cell 4).trans (show _=some (.slice P.d P.nd P.cd) from rfl);have y5:=(RP5.cell 5).trans (show _=some (.slice P.va P.vn P.vc) from rfl);have y6:=(RP5.cell 6).trans (show _=some (.slice P.ra P.rn P.rc) from rfl)
  have d0:=(RD5.cell 0).trans (show _=some (.slice aA (bM Q).1.length cA) from rfl);have d1:=(RD5.cell 1).trans (show _=some (.slice aB (bM Q).1.length cB) from rfl);have d2:=(RD5.cell 2).trans (show _=some (.slice (some ⟨gC,0,none⟩) (bM Q).2 (bM Q).2) from rfl);have d3:=(RD5.cell 3).trans (show _=some (.bool fK) from rfl);have d4:=(RD5.cell 4).trans (show _=some (.slice cK nK kK) from rfl);have d5:=(RD5.cell 5).trans (show _=some (.slice dK mK lK) from rfl)
  go_wp2_with fail
  clear y0 y1 y2 y3 y4 y5 y6 d0 d1 d2 d3 d4 d5
  generalize w4.alloc (.cells #[.slice aA (bM Q).1.length cA,.slice aB (bM Q).1.length cB,.slice (some ⟨gC,0,none⟩) (bM Q).2 (bM Q).2,.bool fK,.slice cK nK kK,.slice dK mK lK] 39)=W5 at *
  obtain ⟨bD,ebD⟩:∃ x,x=w4.heap.size:=⟨_,rfl⟩
  rw [← ebD] at RD5 ⊢
  clear ebD
  have HLY:=layD P Q (gC:=gC) (fK:=fK) (cK:=cK) (nK:=nK) (kK:=kK) (dK:=dK) (mK:=mK) (lK:=lK) (xc:=xc) (Y:=gt0 (iV Q X)) (H:=sW Q P.vn X) (T:=Kx) (Sc:=Q.K) (Wz:=2*Q.K+Kx+8) (S:=2*Q.K+3) W5 (hP.below hb5) SH5 evn hKP hVV AL5 BL5 (hxU.below hb5) hKx (by omega) hli (fun j hj d hd=>hLAY j (by omega) d hd) pz1 pz2 hscM (by omega) (by omega) (by omega) hKQ0 (by omega) (by omega) (by omega) (hT.below hb5)
  unfold Prob.val at HLY
  refine HLY.mono ?_
  clear HLY
  rintro e w6 ⟨gY,rfl,LY,h6⟩
  have RP6:=RP5.below h6
  have RD6:=RD5.below h6
  have SH6:=SH5.below h6
  have PQ6:=PQ5.below h6
  have AL6:=AL5.below h6
  have BL6:=BL5.below h6
  have hb6:=aF hb5 h6
  clear RP5 RD5 SH5 PQ5 AL5 BL5 hb5 h6 hli hLAY hVV
  have d2:=(RD6.cell 2).trans (show _=some (.slice (some ⟨gC,0,none⟩) (bM Q).2 (bM Q).2) from rfl)
  go_wp2_with fail
  clear d2
  refine (ptShape w6 SH6 PQ6 hKQ1 LY (by omega) (by omega) (hT.below hb6)).mono ?_
  rintro e w7 ⟨ba,bc,rfl,LB,h7⟩
  rw [evn] at LB ⊢
  have LB2:=LB.congr HPT.out
  have LY7:=LY.below h7
  have RP7:=RP6.below h7
  have RD7:=RD6.below h7
  have AL7:=AL6.below h7
  have BL7:=BL6.below h7
  have hb7:=aF hb6 h7
  have HBK:Hid (RL w7 0 (.slice ba P.vn bc) P.vn X (2*Q.K+3+(2*Q.K+Kx+8)+(2*Q.K+Kx+8)+1)):=LB2.mono1
  clear LB LB2 LY RP6 RD6 SH6 PQ6 AL6 BL6 hb6 h7
  go_wp2_with fail
  go_loopw [10] (fun s wr=>∃ (j:Nat),j≤P.vn∧s = .int .i64 j∧Below w7.heap.size w7 wr) (fun t _=>P.vn-(intOf t).toNat)
  case atStart=>exact ⟨0,Nat.zero_le _,rfl,Below.refl _ _⟩
  case round =>
   obtain ⟨j,hj,rfl,h7r⟩:=hrel
   have hbr:=aF hb7 h7r
   by_cases hlt:j<P.vn
   ·have hkI:(j:Int)<(P.vn:Int):=by omega
    have hkN:¬ (P.vn:Int)≤(j:Int):=by omega
    have hkI3:(j:Int)*3=((j*3:Nat):Int):=by omega
    obtain ⟨gB,pb,ab,nb,cb,db,mb,lb,egB,b0,b1,b2,GB⟩:=HBK.out.at hlt
    replace b0:=aG h7r b0
    replace b1:=aG h7r b1
    replace b2:=aG h7r b2
    replace GB:=(GB.below h7r).fit (HZX.out j hlt)
    rcases (hxU.below hbr) with h0|⟨bx,ox,exa,helx⟩
    ·omega
    obtain ⟨pA,aX,nA,cX,dA,mA,lA,c0,c1,c2,hTx⟩:=helx j hlt
    have egB':ba=some ⟨gB,0,none⟩:=egB
    have exa':xa=some ⟨bx,ox,none⟩:=exa
    clear egB exa helx
    have hzj:1≤Zx j∧Zx j≤Kx:=by
     have h1:=bY (Z:=Zx) hlt
     have h2:=HTX.out
     refine ⟨?_,by omega⟩
     rcases Nat.eq_zero_or_pos (Zx j) with h0|h0
     ·exact absurd (HZX.out j hlt).2 (by rw [h0];show ¬ ((X j).den:Int)<1;have:=(X j).den_pos;omega)
     ·exact h0
    go_wp2_with fail
    subst egB' exa'
    have HBX:∀ w',Below wr.heap.size wr w'→(w'.cell? ⟨gB,j*3,none⟩=some (.bool pb)∧w'.cell? ⟨gB,j*3+1,none⟩=some (.slice ab nb cb)∧w'.cell? ⟨gB,j*3+2,none⟩=some (.slice db mb lb)∧w'.cell? ⟨bx,ox+j*3,none⟩=some (.bool pA)∧w'.cell? ⟨bx,ox+j*3+1,none⟩=some (.slice aX nA cX)∧w'.cell? ⟨bx,ox+j*3+2,none⟩=some (.slice dA mA lA)):=fun w' h=>⟨aG h b0,aG h b1,aG h b2,aG h c0,aG h c1,aG h c2⟩
    refine wp_region_noPanic (bU HBX (by as_aux_lemma=>kernel_rfl) ?_)
    have hc0:Below wr.heap.size wr wr.drew:=aK _
    generalize wr.drew=z0 at *
    refine wpAnyG.tA 0 (v:=.int .i64 (j:Nat)) (by decide) 3 (by as_aux_lemma=>kernel_rfl) (by rfl) ?y0 (HBX _ hc0) ?_
    case y0 =>
     rintro w' ⟨q0,q1,q2,q3,q4,q5⟩
     simp only [lgA,lgZ]
     go_simp
    simp only [lgA,lgZ,Act.put,lsA,lsZ,lsS]
    refine wpAnyG.tA 1 (v:=.slice (some ⟨gB,0,none⟩) P.vn bc) (by decide) 2 (by as_aux_lemma=>kernel_rfl) (by rfl) ?y1 (HBX _ hc0) ?_
    case y1 =>
     rintro w' ⟨q0,q1,q2,q3,q4,q5⟩
     simp only [lgA,lgZ,lgS]
     go_simp
    simp only [lgA,lgZ,lgS,Act.put,lsA,lsZ,lsS]
    refine wpAnyG.tA 2 (v:=.int .i64 (P.vn:Nat)) (by decide) 3 (by as_aux_lemma=>kernel_rfl) (by rfl) ?y2 (HBX _ hc0) ?_
    case y2 =>
     rintro w' ⟨q0,q1,q2,q3,q4,q5⟩
     simp only [lgA,lgZ,lgS]
     go_simp
    simp only [lgA,lgZ,lgS,Act.put,lsA,lsZ,lsS]
    refine wpAnyG.tA 3 (v:=.bool false) (by decide) 4 (by as_aux_lemma=>kernel_rfl) (by rfl) ?y3 (HBX _ hc0) ?_
    case y3 =>
     rintro w' ⟨q0,q1,q2,q3,q4,q5⟩
     simp only [lgA,lgZ,lgS]
     go_simp
    simp only [lgA,lgZ,lgS,Act.put,lsA,lsZ,lsS]
    refine wpAnyG.tA 4 (v:=.bool false) (by decide) 15 (by as_aux_lemma=>kernel_rfl) (by rfl) ?y4 (HBX _ hc0) ?_
    case y4 =>
     rintro w' ⟨q0,q1,q2,q3,q4,q5⟩
     simp only [lgA,lgZ,lgS]
     go_simp
    simp only [lgA,lgZ,lgS,Act.put,lsA,lsZ,lsS]
    refine wpAnyG.tA 5 (v:=.slice (some ⟨gB,0,none⟩) P.vn bc) (by decide) 7 (by as_aux_lemma=>kernel_rfl) (by rfl) ?y5 (HBX _ hc0) ?_
    case y5 =>
     rintro w' ⟨q0,q1,q2,q3,q4,q5⟩
     simp only [lgA,lgZ,lgS]
     go_simp
    simp only [lgA,lgZ,lgS,Act.put,lsA,lsZ,lsS]
    refine wpAnyG.tA 6 (v:=.int .i64 (j:Nat)) (by decide) 7 (by as_aux_lemma=>kernel_rfl) (by rfl) ?y6 (HBX _ hc0) ?_
    case y6 =>
     rintro w' ⟨q0,q1,q2,q3,q4,q5⟩
     simp only [lgA,lgZ,lgS]
     go_simp
    simp only [lgA,lgZ,lgS,Act.put,lsA,lsZ,lsS]
    refine wpAnyG.tA 7 (v:=.pointer (some ⟨gB,j*3,none⟩)) (by decide) 8 (by as_aux_lemma=>kernel_rfl) (by rfl) ?y7 (HBX _ hc0) ?_
    case y7 =>
     rintro w' ⟨q0,q1,q2,q3,q4,q5⟩
     simp only [lgA,lgZ,lgS]
     go_simp
    simp only [lgA,lgZ,lgS,Act.put,lsA,lsZ,lsS]
    refine wpAnyG.tA 8 (v:=.agg #[.bool pb,.slice ab nb cb,.slice db mb lb]) (by decide) 13 (by as_aux_lemma=>kernel_rfl) (by rfl) ?y8 (HBX _ hc0) ?_
    case y8 =>
     rintro w' ⟨q0,q1,q2,q3,q4,q5⟩
     simp only [lgA,lgZ,lgS]
     go_simp
    simp only [lgA,lgZ,lgS,Act.put,lsA,lsZ,lsS]
    refine wpAnyG.tA 9 (v:=.slice (some ⟨bx,ox,none⟩) P.vn xc) (by decide) 11 (by as_aux_lemma=>kernel_rfl) (by rfl) ?y9 (HBX _ hc0) ?_
    case y9 =>
     rintro w' ⟨q0,q1,q2,q3,q4,q5⟩
     simp only [lgA,lgZ,lgS]
     go_simp
    simp only [lgA,lgZ,lgS,Act.put,lsA,lsZ,lsS]
    refine wpAnyG.tA 10 (v:=.int .i64 (j:Nat)) (by decide) 11 (by as_aux_lemma=>kernel_rfl) (by rfl) ?y10 (HBX _ hc0) ?_
    case y10 =>
     rintro w' ⟨q0,q1,q2,q3,q4,q5⟩
     simp only [lgA,lgZ,lgS]
     go_simp
    simp only [lgA,lgZ,lgS,Act.put,lsA,lsZ,lsS]
    refine wpAnyG.tA 11 (v:=.pointer (some ⟨bx,ox+j*3,none⟩)) (by decide) 12 (by as_aux_lemma=>kernel_rfl) (by rfl) ?y11 (HBX _ hc0) ?_
    case y11 =>
     rintro w' ⟨q0,q1,q2,q3,q4,q5⟩
     simp only [lgA,lgZ,lgS]
     go_simp
    simp only [lgA,lgZ,lgS,Act.put,lsA,lsZ,lsS]
    refine wpAnyG.tA 12 (v:=.agg #[.bool pA,.slice aX nA cX,.slice dA mA lA]) (by decide) 13 (by as_aux_lemma=>kernel_rfl) (by rfl) ?y12 (HBX _ hc0) ?_
    case y12 =>
     rintro w' ⟨q0,q1,q2,q3,q4,q5⟩
     simp only [lgA,lgZ,lgS]
     go_simp
    simp only [lgA,lgZ,lgS,Act.put,lsA,lsZ,lsS]
    refine wpAnyG.one 13 (by as_aux_lemma=>kernel_rfl) (by decide) (by rfl) (fun K hK=>?_)
    simp only [lgA,lgZ,lgS]
    go_simp
    refine (cmpB 0 z0 (GB.tr.below hc0) (hTx.below hc0) (by omega) hzj.1 hKx (jQ.2 rfl).symm).mono ?_
    rintro e z1 ⟨rfl,hk1⟩
    have hc1:Below wr.heap.size wr z1:=aF hc0 hk1
    dsimp only
    refine hK _ _ (HBX _ hc1) ?_
    clear hK K
    refine wpAnyG.tA 14 (v:=.bool false) (by decide) 15 (by as_aux_lemma=>kernel_rfl) (by rfl) ?y14 (HBX _ hc1) ?_
    case y14 =>
     rintro w' ⟨q0,q1,q2,q3,q4,q5⟩
     simp only [lgA,lgZ,lgS]
     go_simp
    simp only [lgA,lgZ,lgS,Act.put,lsA,lsZ,lsS]
    refine wpAnyG.one 15 (by as_aux_lemma=>kernel_rfl) (by decide) (by rfl) (fun K hK=>?_)
    simp only [lgA,lgZ,lgS]
    go_simp
    refine hK _ _ (HBX _ hc1) ?_
    clear hK K
    refine wpAnyG.done (by as_aux_lemma=>kernel_rfl) (NoPanic.normal ?_)
    have hN:=aF h7r hc1
    clear HBX hc0 hc1 hk1 GB hTx b0 b1 b2 c0 c1 c2 h7r hbr
    go_wp2
    go_roundw
    case rel=>first|exact ⟨j+1,by omega,by go_num,hN⟩|((repeat apply Exists.intro);refine ⟨?_,rfl⟩;exact ⟨j+1,by omega,by go_num,hN⟩)
    case measure=>simp [intOf];omega
   ·obtain rfl:j=P.vn:=by omega
    have hkI:¬ (P.vn:Int)<(P.vn:Int):=by omega
    have RP8:=RP7.below h7r
    have RD8:=RD7.below h7r
    have HME:=fun w1 (hb:Below wr.heap.size wr w1)=>@meetsQ aA cA aB cB gC (bM Q).2 fK cK nK kK dK mK lK (bM Q).1 (2*Q.K+3) w3.heap.size (some ⟨gY,0,none⟩) (bM Q).2 (bM Q).2 (gt0 (iV Q X)) (2*Q.K+Kx+8) Q.K (2*Q.K+Kx+8) w1 ((AL7.below h7r).below hb) ((BL7.below h7r).below hb) ((LY7.below h7r).below hb) (by omega) (by omega) (by omega) (by omega) (by omega) (by omega) hscM hKQ0 (fun i hi j hj=>by rw [xQ];exact (pz2 _ (getD_mem hi) _ (by omega)).1) (by omega) (by omega) (by omega)
    unfold MtP at HME
    go_wp2_with fail
    have HBX:∀ w',Below wr.heap.size wr w'→(w'.cell? ⟨w.heap.size,0,none⟩=some (.bool P.mx)∧w'.cell? ⟨w.heap.size,1,none⟩=some (.string P.nm)∧w'.cell? ⟨w.heap.size,2,none⟩=some (.bool P.p)∧w'.cell? ⟨w.heap.size,3,none⟩=some (.slice P.a P.na P.ca)∧w'.cell? ⟨w.heap.size,4,none⟩=some (.slice P.d P.nd P.cd)∧w'.cell? ⟨w.heap.size,5,none⟩=some (.slice P.va P.vn P.vc)∧w'.cell? ⟨w.heap.size,6,none⟩=some (.slice P.ra P.rn P.rc)∧w'.cell? ⟨bD,0,none⟩=some (.slice aA (bM Q).1.length cA)∧w'.cell? ⟨bD,1,none⟩=some (.slice aB (bM Q).1.length cB)∧w'.cell? ⟨bD,2,none⟩=some (.slice (some ⟨gC,0,none⟩) (bM Q).2 (bM Q).2)∧w'.cell? ⟨bD,3,none⟩=some (.bool fK)∧w'.cell? ⟨bD,4,none⟩=some (.slice cK nK kK)∧w'.cell? ⟨bD,5,none⟩=some (.slice dK mK lK)):=fun w' h=>⟨((RP8.below h).cell 0).trans rfl,((RP8.below h).cell 1).trans rfl,((RP8.below h).cell 2).trans rfl,((RP8.below h).cell 3).trans rfl,((RP8.below h).cell 4).trans rfl,((RP8.below h).cell 5).trans rfl,((RP8.below h).cell 6).trans rfl,((RD8.below h).cell 0).trans rfl,((RD8.below h).cell 1).trans rfl,((RD8.below h).cell 2).trans rfl,((RD8.below h).cell 3).trans rfl,((RD8.below h).cell 4).trans rfl,((RD8.below h).cell 5).trans rfl⟩
    refine wp_region_noPanic (aS 7 HBX (by as_aux_lemma=>kernel_rfl) ?_)
    have hc0:Below wr.heap.size wr wr.drew:=aK _
    generalize wr.drew=z0 at *
    refine wpAnyG.tT 0 (v:=.agg #[.slice aA (bM Q).1.length cA,.slice aB (bM Q).1.length cB,.slice (some ⟨gC,0,none⟩) (bM Q).2 (bM Q).2,.bool fK,.slice cK nK kK,.slice dK mK lK]) (by decide) 7 (by as_aux_lemma=>kernel_rfl) (by rfl) ?y0 (HBX _ hc0) ?_
    case y0 =>
     rintro w' ⟨q0,q1,q2,q3,q4,q5,q6,q7,q8,q9,q10,q11,q12⟩
     simp only [lgA,lgZ]
     go_simp
    simp only [lgA,lgZ,Act.put,lsA,lsZ,lsS]
    refine wpAnyG.tT 1 (v:=.slice (some ⟨gY,0,none⟩) (bM Q).2 (bM Q).2) (by decide) 7 (by as_aux_lemma=>kernel_rfl) (by rfl) ?y1 (HBX _ hc0) ?_
    case y1 =>
     rintro w' ⟨q0,q1,q2,q3,q4,q5,q6,q7,q8,q9,q10,q11,q12⟩
     simp only [lgA,lgZ,lgS]
     go_simp
    simp only [lgA,lgZ,lgS,Act.put,lsA,lsZ,lsS]
    refine wpAnyG.tT 3 (v:=.agg #[.bool P.mx,.string P.nm,.bool P.p,.slice P.a P.na P.ca,.slice P.d P.nd P.cd,.slice P.va P.vn P.vc,.slice P.ra P.rn P.rc]) (by decide) 7 (by as_aux_lemma=>kernel_rfl) (by rfl) ?y3 (HBX _ hc0) ?_
    case y3 =>
     rintro w' ⟨q0,q1,q2,q3,q4,q5,q6,q7,q8,q9,q10,q11,q12⟩
     simp only [lgA,lgZ,lgS]
     go_simp
    simp only [lgA,lgZ,lgS,Act.put,lsA,lsZ,lsS]
    refine wpAnyG.tT 4 (v:=.slice xa P.vn xc) (by decide) 7 (by as_aux_lemma=>kernel_rfl) (by rfl) ?y4 (HBX _ hc0) ?_
    case y4 =>
     rintro w' ⟨q0,q1,q2,q3,q4,q5,q6,q7,q8,q9,q10,q11,q12⟩
     simp only [lgA,lgZ,lgS]
     go_simp
    simp only [lgA,lgZ,lgS,Act.put,lsA,lsZ,lsS]
    refine wpAnyG.one 2 (by as_aux_lemma=>kernel_rfl) (by decide) (by rfl) (fun K hK=>?_)
    simp only [lgA,lgZ,lgS]
    go_simp
    refine (HME z0 hc0).mono ?_
    rintro e z1 ⟨b1,rfl,hb1,hk1⟩
    have hc1:Below wr.heap.size wr z1:=aF hc0 hk1
    dsimp only
    refine hK _ _ ⟨fun _=>HBX _ hc1,fun _=>trivial⟩ ?_
    clear hK K
    refine wpAnyG.one 5 (by as_aux_lemma=>kernel_rfl) (by decide) (by rfl) (fun K hK=>?_)
    simp only [lgA,lgZ,lgS]
    go_simp
    refine (HHD z1 (aF hbr hc1)).mono ?_
    rintro e z2 ⟨b2,rfl,hb2,hk2⟩
    have hc2:Below wr.heap.size wr z2:=aF hc1 hk2
    obtain rfl:b1=b2:=by
     have h:=HIFF.out
     cases b1 <;> cases b2
     ·rfl
     ·exact absurd (hb1.2 (h.2 (hb2.1 rfl))) (by decide)
     ·exact absurd (hb2.2 (h.1 (hb1.1 rfl))) (by decide)
     ·rfl
    dsimp only
    refine hK _ _ ⟨fun _=>HBX _ hc2,fun _=>trivial⟩ ?_
    clear hK K
    refine wpAnyG.tT 6 (v:=.bool true) (by decide) 7 (by as_aux_lemma=>kernel_rfl) (by rfl) ?y6 (HBX _ hc2) ?_
    case y6 =>
     rintro w' ⟨q0,q1,q2,q3,q4,q5,q6,q7,q8,q9,q10,q11,q12⟩
     simp only [lgA,lgZ,lgS]
     go_simp
    simp only [lgA,lgZ,lgS,Act.put,lsA,lsZ,lsS]
    refine wpAnyG.one 7 (by as_aux_lemma=>kernel_rfl) (by decide) (by rfl) (fun K hK=>?_)
    simp only [lgA,lgZ,lgS]
    go_simp
    refine hK _ _ ⟨fun h=>absurd h (by decide),fun _=>trivial⟩ ?_
    clear hK K
    refine wpAnyG.done (by as_aux_lemma=>kernel_rfl) (NoPanic.normal ?_)
    have hbF:=aF hbr hc2
    go_wp2
    go_ret
    exact ⟨rfl,hbF⟩
theorem zW {w:World} (hT:TB w):∀ w1,Below w.heap.size w w1→Calls Tryz.prog 5 #[] w1 fun e w'=>e = .returned (.bool true)∧Below w1.heap.size w1 w':=fun w1 h=>awake10 w1 (hT.below h)
end Go.Proofs.YtmeimjakdheidaaGreatDoor

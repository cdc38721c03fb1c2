import Derived.Test.YtdcocflnafcikaaGreatDoorPtGAll
import Derived.Test.YtdcocflnafcikaaGreatDoorPtF
import Derived.Test.YtdcocflnafcikaaGreatDoorApKAll
import Derived.Test.YtdcocflnafcikaaGreatDoorNgNAll
import Derived.Test.YtdcocflnafcikaaGreatDoorQ3OAll
import Derived.Test.YtdcocflnafcikaaGreatDoorPrDAll
import Derived.Test.YtdcocflnafcikaaGreatDoorQAll
import Derived.Test.YtdcocflnafcikaaGreatDoorApVAll
import Derived.Test.YtdcocflnafcikaaGreatDoorOpenPAll
set_option maxRecDepth 100000
set_option maxHeartbeats 8000000
namespace Go.Proofs.YtdcocflnafcikaaGreatDoor
open Go.RowKit
theorem Cpy.off {P Q:Prob} (h:Cpy P Q):∀ i,aQ Q i=aQ P i
 | 0=>by show 1+3*Q.vn=1+3*P.vn;rw [h.vn]
 | i+1=>by show aQ Q i+2+(Q.R i).nt=aQ P i+2+(P.R i).nt;rw [Cpy.off h i,h.R]
theorem FO.tpp {w:World} {B:Nat} {P Q:Prob} {c:Nat→List Value} (h:FO w B P c (.agg Q.cells.toArray)) (hc:Cpy P Q) (hf:∀ i,i<aQ P P.rn→∃ p a na ca d nd cd,c i=[.bool p,.slice a na ca,.slice d nd cd]):TPP w Q (fun i l=>l=c i):=by
 obtain ⟨x0,x1,x2,gv,vc,gr,rc,ER,e0,ev,hvc,hrc,SV,SR,RF⟩:=h
 have h0:aQ P 0=1+3*P.vn:=rfl
 have hN:=jQ P (Nat.zero_le P.rn)
 simp only [Prob.cells,Value.agg.injEq,Array.mk.injEq,List.cons.injEq,and_true] at ev
 obtain ⟨_,_,rfl,rfl,rfl,ev1,ev2⟩:=ev
 simp only [Value.slice.injEq] at ev1 ev2
 rcases SV.cell with hz|⟨gv',eg,cv⟩
 ·omega
 obtain rfl:gv=gv':=by simpa using eg
 rcases SR.cell with hz|⟨gr',eg2,cr⟩
 ·omega
 obtain rfl:gr=gr':=by simpa using eg2
 refine ⟨e0.symm,.inr ⟨gv,0,ev1.1,fun j hj=>?_⟩,.inr ⟨gr,0,ev2.1,fun i hi=>?_⟩⟩
 ·rw [hc.vn] at hj
  obtain ⟨p1,a1,n1,c1,d1,m1,l1,e1⟩:=hf (1+3*j) (by omega)
  obtain ⟨p2,a2,n2,c2,d2,m2,l2,e2⟩:=hf (1+3*j+1) (by omega)
  obtain ⟨p3,a3,n3,c3,d3,m3,l3,e3⟩:=hf (1+3*j+2) (by omega)
  have k:=cv j (by omega)
  unfold vcl at k
  rw [if_pos hj,e1,e2,e3] at k
  simp only [Nat.zero_add]
  exact ⟨jS e1 rfl (k 1 _ rfl) (k 2 _ rfl) (k 3 _ rfl),jS e2 rfl (k 5 _ rfl) (k 6 _ rfl) (k 7 _ rfl),jS e3 rfl (k 9 _ rfl) (k 10 _ rfl) (k 11 _ rfl)⟩
 ·rw [hc.rn] at hi
  have hn:=fV P hi
  obtain ⟨p1,a1,n1,c1,d1,m1,l1,e1⟩:=hf (aQ P i) (by omega)
  obtain ⟨p2,a2,n2,c2,d2,m2,l2,e2⟩:=hf (aQ P i+1) (by omega)
  have k:=cr i (by omega)
  obtain ⟨g,cap,eE,hcap,ST⟩:=(RF i (by omega)).1.1 hi
  rw [eE,e1,e2] at k
  rcases ST.cell with hz|⟨g',eg3,ct⟩
  ·omega
  obtain rfl:g=g':=by simpa using eg3
  simp only [Nat.zero_add,hc.off,hc.R]
  refine ⟨jS e1 rfl (k 3 _ rfl) (k 4 _ rfl) (k 5 _ rfl),jS e2 rfl (k 7 _ rfl) (k 8 _ rfl) (k 9 _ rfl),some ⟨g,0,none⟩,cap,k 1 _ rfl,by omega,.inr ⟨g,0,rfl,fun x hx=>?_⟩⟩
  obtain ⟨p3,a3,n3,c3,d3,m3,l3,e3⟩:=hf (aQ P i+2+x) (by omega)
  have kt:=ct x (by omega)
  unfold tcl at kt
  rw [if_pos hx,e3] at kt
  simp only [Nat.zero_add]
  exact jS e3 rfl (kt 1 _ rfl) (kt 2 _ rfl) (kt 3 _ rfl)
theorem LP.tpp {w:World} {P:Prob} {R Rr N:Nat} {F:Nat→Fr} {A:Nat→Bk} {va vn vd vg:Value} {G:PF} {Q O:Prob} {gv gr:Nat} (h:LP w P R Rr N F A va vn vd vg G Q O gv gr):TPP w Q (fun i l=>l=lcl F A i):=by
 obtain ⟨B,_,hf⟩:=h.fo
 exact hf.tpp h.cq fun i _=>⟨_,_,_,_,_,_,_,rfl⟩
theorem Lnt.own3 {w:World} {r gf cf gw cw n:Nat} {xs:List Int} (h:Lnt w r gf cf gw cw n (bQ xs) (bQ xs)):OwnV w gf (.slice (some ⟨gf,0,none⟩) xs.length cf) xs:=by
 have h1:=h.rf.take xs.length
 have e:(bQ xs).take xs.length=xs:=by unfold bQ;rw [List.take_append_of_le_length (Nat.le_refl _),List.take_length]
 rw [e] at h1
 exact h1.own (Nat.le_refl _)
theorem LJ.nmx {w:World} {R n ka kn kd kg:Nat} {F:Nat→Fr} {A:Nat→Bk} {va vn vd vg:Value} (h:LJ w R n ka kn kd kg n F A va vn vd vg) (hF:∀ i,i<n→(F i).xs.length≤2000000∧(F i).ys.length≤2000000):∀ i,i<n→NmX w (A i).gf ((A i).hf+1) (lcl F A i):=by
 intro i hi
 obtain ⟨o1,o2,_⟩:=h.od i hi
 obtain ⟨f1,f2⟩:=hF i hi
 have r2:=(h.ld i hi).own3
 refine ⟨_,_,_,(F i).xs,(F i).ys,rfl,(h.ln i hi).own3,r2.mono (by omega),by omega,by omega,fun g hg=>?_,fun g e1 e2=>?_⟩
 ·simp only [Value.ownBlock,Option.some.injEq] at hg
  omega
 ·simp only [Value.ownBlock,Option.some.injEq] at e1 e2
  omega
theorem PAp.mono {w:World} {B B':Nat} {P:Prob} {c:Nat→List Value} {lo hi:Nat} {EV ER:Nat→List Value} {xv xr tv:Nat→Value} {ET:Nat→Nat→List Value} {xt:Nat→Nat→Value} (h:PAp w B P c lo hi EV ER xv xr tv ET xt) (hB:B'≤B):PAp w B' P c lo hi EV ER xv xr tv ET xt :=
 ⟨h.pq,h.K,h.sz,h.tp,h.fam,h.vs.mono hB,h.vx,h.rs.mono hB,h.rx,fun k hk=>(h.ts k hk).mono hB,h.tx,h.tn⟩
theorem LP.pap {w:World} {P:Prob} {R Rr N:Nat} {F:Nat→Fr} {A:Nat→Bk} {va vn vd vg:Value} {G:PF} {Q O:Prob} {gv gr:Nat} (h:LP w P R Rr N F A va vn vd vg G Q O gv gr) (hK:P.K≤1048576) :
 ∃ (EV ER:Nat→List Value) (xv xr tv:Nat→Value) (ET:Nat→Nat→List Value) (xt:Nat→Nat→Value),PAp w Rr Q (lcl F A) Rr w.heap.size EV ER xv xr tv ET xt∧PSp Rr w.heap.size Q tv:=by
 obtain ⟨G',hG⟩:=h.pq.told
 have hQK:Q.K≤1048576:=by rw [h.cq.K];exact hK
 have hsz:=jE h.pq hG.ok hQK
 have hN:aQ Q Q.rn=N:=by rw [h.cq.off,h.cq.rn,h.en]
 have hnm:=h.lj.nmx h.hF
 have hfam:FamR w (aQ Q Q.rn) (lcl F A) Rr w.heap.size:=by
  rw [hN]
  refine ⟨fun x=>(A x).gf,fun x=>(A x).hf+1,fun x hx=>⟨?_,?_,hnm x hx⟩,fun x y hxy hy=>.inl ?_⟩
  ·exact Nat.le_of_lt (h.lj.od x hx).1
  ·exact (World.ownsRow.lt (h.lj.ld x hx).own3 _ rfl).2
  ·exact (h.lj.od x (by omega)).2.2 y hxy hy
 have htp:=h.tpp
 obtain ⟨B,hB,x0,x1,x2,gv',vc,gr',rc,ER,e0,ev,hvc,hrc,SV,SR,RF⟩:=h.fo
 have hqv:=h.cq.vn
 have hqr:=h.cq.rn
 have hqR:=h.cq.R
 simp only [Prob.cells,Value.agg.injEq,Array.mk.injEq,List.cons.injEq,and_true] at ev
 obtain ⟨_,_,_,_,_,ev1,ev2⟩:=ev
 simp only [Value.slice.injEq] at ev1 ev2
 obtain ⟨v1,_,v2⟩:=ev1
 obtain ⟨r1,_,r2⟩:=ev2
 have SVp:=SV.prefix (n:=P.vn) (by omega)
 have SRp:=SR.prefix (n:=P.rn) (by omega)
 have HR:∀ i,i<P.rn→∃ g cap r,ER i = .string (P.R i).nm :: .slice (some ⟨g,0,none⟩) (P.R i).nt cap::r∧SL w B 62 4 (.slice (some ⟨g,0,none⟩) (P.R i).nt cap) (P.R i).nt (tcl P (lcl F A) i):=fun i hi=>by
  obtain ⟨g,cap,eE,hcap,ST⟩:=(RF i (by omega)).1.1 hi
  exact ⟨g,cap,_,eE,ST.prefix (by omega)⟩
 refine ⟨vcl P (lcl F A),ER,fun k=>.string (P.V k).nm,fun i=>.string (P.R i).nm,fun i=>(ER i)[1]?.getD (.bool false),tcl P (lcl F A),fun i q=>.int .i64 ((P.R i).t q).var,⟨h.pq,hQK,hsz,htp,hfam,by rw [v1,hqv,v2];exact SVp.mono hB,fun k hk=>?_,by rw [r1,hqr,r2];exact SRp.mono hB,fun i hi=>?_,fun i hi=>?_,fun i hi q hq=>?_,fun i hi=>?_⟩,⟨fun g hg=>?_,fun g hg=>?_,fun i hi g hg=>?_,fun i j hi hj hij g hg hg'=>?_⟩⟩
 ·unfold vcl
  rw [if_pos (by omega)]
  exact ⟨_,rfl⟩
 ·obtain ⟨g,cap,r,eE,_⟩:=HR i (by omega)
  exact ⟨r,by rw [eE];rfl⟩
 ·obtain ⟨g,cap,r,eE,ST⟩:=HR i (by omega)
  rw [eE,hqR]
  exact ST.mono hB
 ·rw [hqR] at hq
  unfold tcl
  rw [if_pos hq]
  exact ⟨_,rfl⟩
 ·have h1:=hsz Q.rn (Nat.le_refl _)
  have h2:=fV Q hi
  omega
 ·rw [v1,v2,hqv] at hg
  have:=SVp.lt g hg
  exact ⟨by omega,this.2⟩
 ·rw [r1,r2,hqr] at hg
  have:=SRp.lt g hg
  exact ⟨by omega,this.2⟩
 ·obtain ⟨g',cap,r,eE,ST⟩:=HR i (by omega)
  rw [eE] at hg
  have:=ST.lt g hg
  exact ⟨by omega,this.2⟩
 ·have key:∀ i j,i<j→j<P.rn→∀ g,((ER i)[1]?.getD (Value.bool false)).ownBlock=some g→((ER j)[1]?.getD (Value.bool false)).ownBlock≠some g:=fun i j hij hj g e1 e2=>by
   obtain ⟨g1,cap1,t1,eE1,_⟩:=HR i (by omega)
   obtain ⟨g2,cap2,t2,eE2,_⟩:=HR j hj
   rw [eE1] at e1
   rw [eE2] at e2
   have:=(RF j (by omega)).2 i hij hj _ _ g g (by rw [eE1];rfl) (by rw [eE2];rfl) e1 e2
   omega
  rcases (by omega:i<j∨j<i) with hlt|hlt
  ·exact key i j hlt (by omega) g hg hg'
  ·exact key j i hlt (by omega) g hg' hg
def fD {α:Type} (a b c:α):Nat→α
 | 0=>a
 | 1=>b
 | _=>c
theorem apart3 {w:World} {B C:Nat} {va:Option Addr} {vc:Nat} {Qa Qb Qo:Prob} {ca cb co:Nat→List Value} {Ba Ca Bb Cb Bo Co:Nat}
 {EVa ERa EVb ERb EVo ERo:Nat→List Value} {xva xra tva xvb xrb tvb xvo xro tvo:Nat→Value} {ETa ETb ETo:Nat→Nat→List Value} {xta xtb xto:Nat→Nat→Value}
 (hC:B≤C) (hCs:C≤w.heap.size) (hT:SL w C 31 7 (.slice va 3 vc) 3 (fun i=>pcl (fD Qa Qb Qo i)))
 (Ha:PAp w Ba Qa ca Ba Ca EVa ERa xva xra tva ETa xta) (Sa:PSp Ba Ca Qa tva) (Hb:PAp w Bb Qb cb Bb Cb EVb ERb xvb xrb tvb ETb xtb) (Sb:PSp Bb Cb Qb tvb) (Ho:PAp w Bo Qo co Bo Co EVo ERo xvo xro tvo ETo xto) (So:PSp Bo Co Qo tvo)
 (h0:B≤Bo) (h1:Co≤Ba) (h2:Ca≤Bb) (h3:Co≤Bb) (h4:B≤Ba) (h5:B≤Bb) :
 Calls Tryz.prog 12 #[.slice va 3 vc] w fun e w'=>e = .returned (.bool true)∧Below B w w':=by
 have o1:dP (fD Qa Qb Qo) 1=Qa.rn:=by show 0+Qa.rn=_;omega
 have o2:dP (fD Qa Qb Qo) 2=Qa.rn+Qb.rn:=by show 0+Qa.rn+Qb.rn=_;omega
 have o3:dP (fD Qa Qb Qo) 3=Qa.rn+Qb.rn+Qo.rn:=by show 0+Qa.rn+Qb.rn+Qo.rn=_;omega
 have d3:∀ i,i<3→i=0∨i=1∨i=2:=fun i hi=>by omega
 obtain ⟨T,eT⟩:∃ T:Nat→Value,T=fun x=>if x<Qa.rn then tva x else if x<Qa.rn+Qb.rn then tvb (x-Qa.rn) else tvo (x-Qa.rn-Qb.rn):=⟨_,rfl⟩
 have T1:∀ x,x<Qa.rn→T x=tva x:=fun x hx=>by rw [eT];exact if_pos hx
 have T2:∀ x,x<Qb.rn→T (Qa.rn+x)=tvb x:=fun x hx=>by
  rw [eT]
  show (if Qa.rn+x<Qa.rn then _ else _)=_
  rw [if_neg (by omega),if_pos (by omega),show Qa.rn+x-Qa.rn=x by omega]
 have T3:∀ x,x<Qo.rn→T (Qa.rn+Qb.rn+x)=tvo x:=fun x hx=>by
  rw [eT]
  show (if Qa.rn+Qb.rn+x<Qa.rn then _ else _)=_
  rw [if_neg (by omega),if_neg (by omega),show Qa.rn+Qb.rn+x-Qa.rn-Qb.rn=x by omega]
 clear eT
 have cls:∀ x,x<Qa.rn+Qb.rn+Qo.rn→x<Qa.rn∨(∃ y,y<Qb.rn∧x=Qa.rn+y)∨∃ y,y<Qo.rn∧x=Qa.rn+Qb.rn+y:=fun x hx=>by
  rcases (by omega:x<Qa.rn∨(Qa.rn≤x∧x<Qa.rn+Qb.rn)∨Qa.rn+Qb.rn≤x) with h|h|h
  ·exact .inl h
  ·exact .inr (.inl ⟨x-Qa.rn,by omega,by omega⟩)
  ·exact .inr (.inr ⟨x-(Qa.rn+Qb.rn),by omega,by omega⟩)
 refine apart7D (B:=B) (C:=C) (Qs:=fD Qa Qb Qo) (c:=fD ca cb co) (lo:=fD Ba Bb Bo) (hi:=fD Ca Cb Co) (EV:=fD EVa EVb EVo) (ER:=fD ERa ERb ERo) (xv:=fD xva xvb xvo) (xr:=fD xra xrb xro) (tv:=fD tva tvb tvo) (ET:=fD ETa ETb ETo) (xt:=fD xta xtb xto)
  (nT:=fun x=>if x<Qa.rn then (Qa.R x).nt else if x<Qa.rn+Qb.rn then (Qb.R (x-Qa.rn)).nt else (Qo.R (x-Qa.rn-Qb.rn)).nt) (T:=T) w hC hCs hT (fun i hi=>?_) (fun i hi=>?_) (fun i j hij hj=>?_) (fun i hi k hk=>?_) (fun i j hi hj hij g hg hg'=>?_) (fun i j hi hj hij g hg hg'=>?_) (fun i j hi hj hij g hg hg'=>?_) (by omega)
 ·rcases d3 i hi with rfl|rfl|rfl
  ·exact Ha.mono h4
  ·exact Hb.mono h5
  ·exact Ho.mono h0
 ·rcases d3 i hi with rfl|rfl|rfl
  ·exact h4
  ·exact h5
  ·exact h0
 ·rcases (by omega:(i=0∧j=1)∨(i=0∧j=2)∨(i=1∧j=2)) with ⟨rfl,rfl⟩|⟨rfl,rfl⟩|⟨rfl,rfl⟩
  ·exact .inl h2
  ·exact .inr h1
  ·exact .inr h3
 ·rcases d3 i hi with rfl|rfl|rfl
  ·have hk':k<Qa.rn:=hk
   have e0:dP (fD Qa Qb Qo) 0+k=k:=Nat.zero_add k
   refine ⟨by rw [e0];exact T1 k hk',?_⟩
   rw [e0]
   show (if k<Qa.rn then _ else _)=_
   rw [if_pos hk'];rfl
  ·have hk':k<Qb.rn:=hk
   refine ⟨by rw [o1];exact T2 k hk',?_⟩
   rw [o1]
   show (if Qa.rn+k<Qa.rn then _ else _)=_
   rw [if_neg (by omega),if_pos (by omega),show Qa.rn+k-Qa.rn=k by omega];rfl
  ·have hk':k<Qo.rn:=hk
   refine ⟨by rw [o2];exact T3 k hk',?_⟩
   rw [o2]
   show (if Qa.rn+Qb.rn+k<Qa.rn then _ else _)=_
   rw [if_neg (by omega),if_neg (by omega),show Qa.rn+Qb.rn+k-Qa.rn-Qb.rn=k by omega];rfl
 ·rw [o3] at hi hj
  rcases cls i hi with a|⟨x,a,rfl⟩|⟨x,a,rfl⟩ <;> rcases cls j hj with b|⟨y,b,rfl⟩|⟨y,b,rfl⟩
  ·rw [T1 _ a] at hg;rw [T1 _ b] at hg'
   exact Sa.d i j a b hij g hg hg'
  ·rw [T1 _ a] at hg;rw [T2 _ b] at hg'
   have:=Sa.t _ a g hg;have:=Sb.t _ b g hg';omega
  ·rw [T1 _ a] at hg;rw [T3 _ b] at hg'
   have:=Sa.t _ a g hg;have:=So.t _ b g hg';omega
  ·rw [T2 _ a] at hg;rw [T1 _ b] at hg'
   have:=Sb.t _ a g hg;have:=Sa.t _ b g hg';omega
  ·rw [T2 _ a] at hg;rw [T2 _ b] at hg'
   exact Sb.d x y a b (by omega) g hg hg'
  ·rw [T2 _ a] at hg;rw [T3 _ b] at hg'
   have:=Sb.t _ a g hg;have:=So.t _ b g hg';omega
  ·rw [T3 _ a] at hg;rw [T1 _ b] at hg'
   have:=So.t _ a g hg;have:=Sa.t _ b g hg';omega
  ·rw [T3 _ a] at hg;rw [T2 _ b] at hg'
   have:=So.t _ a g hg;have:=Sb.t _ b g hg';omega
  ·rw [T3 _ a] at hg;rw [T3 _ b] at hg'
   exact So.d x y a b (by omega) g hg hg'
 ·have V:∀ i,i<3→∀ g,(Value.slice (fD Qa Qb Qo i).va (fD Qa Qb Qo i).vn (fD Qa Qb Qo i).vc).ownBlock=some g→fD Ba Bb Bo i≤g∧g<fD Ca Cb Co i:=fun i hi g hg=>by
   rcases d3 i hi with rfl|rfl|rfl
   ·exact Sa.v g hg
   ·exact Sb.v g hg
   ·exact So.v g hg
  have q1:=V i hi g hg
  have q2:=V j hj g hg'
  rcases d3 i hi with rfl|rfl|rfl <;> rcases d3 j hj with rfl|rfl|rfl <;> first|exact absurd rfl hij|(simp only [fD] at q1 q2;omega)
 ·have V:∀ i,i<3→∀ g,(Value.slice (fD Qa Qb Qo i).ra (fD Qa Qb Qo i).rn (fD Qa Qb Qo i).rc).ownBlock=some g→fD Ba Bb Bo i≤g∧g<fD Ca Cb Co i:=fun i hi g hg=>by
   rcases d3 i hi with rfl|rfl|rfl
   ·exact Sa.r g hg
   ·exact Sb.r g hg
   ·exact So.r g hg
  have q1:=V i hi g hg
  have q2:=V j hj g hg'
  rcases d3 i hi with rfl|rfl|rfl <;> rcases d3 j hj with rfl|rfl|rfl <;> first|exact absurd rfl hij|(simp only [fD] at q1 q2;omega)
theorem TOc.cpy {w:World} {B:Nat} {P Q R:Prob} (h:TOc w B Q R) (c:Cpy P Q):TOc w B P R:=by
 have hk:=h.k
 have hv:=h.v
 have hr:=h.r
 rw [c.k,c.S] at hk
 rw [c.vn,c.V,c.ZV] at hv
 rw [c.rn,c.R,c.ZR,c.vn] at hr
 exact ⟨hk,hv,hr⟩
theorem Tid.cpy {P Q R:Prob} (h:Tid Q R) (c:Cpy P Q):Tid P R :=
 ⟨h.mx.trans c.mx,h.nm.trans c.nm,h.k.trans c.k,h.vn.trans c.vn,h.rn.trans c.rn,h.K.trans c.K,h.ZR.trans c.ZR,h.ZV.trans c.ZV,h.S.trans c.S,fun j=>by rw [h.V j,c.V],fun i hi=>by
  have k:=h.R i (by rw [c.rn];exact hi)
  rw [c.R,c.vn] at k
  exact k⟩
theorem TOc.sam2 {w:World} {B B':Nat} {P Q R:Prob} (h:TOc w B P Q) (hT:Tid P Q) (h':TOc w B' P R) (hT':Tid P R) {w0:World} (hP:PQ w0 P) (hK:P.K≤1048576):SamP w Q R:=by
 have hall:=hP.all
 have hvn:P.vn≤1048576:=by have:=aZ P.ZV P.vn;omega
 have hrn:P.rn≤1048576:=by have:=aZ P.ZR P.rn;omega
 refine ⟨hT'.mx.trans hT.mx.symm,hT'.nm.trans hT.nm.symm,hT'.vn.trans hT.vn.symm,hT'.rn.trans hT.rn.symm,by rw [hT.vn];exact hvn,by rw [hT.rn];exact hrn,sp_gr h.k h'.k rfl (by omega),?_,?_⟩
 ·obtain ⟨E,s1,s2⟩:=h.v
  obtain ⟨E',s1',s2'⟩:=h'.v
  rw [hT.vn]
  rcases s1.cell with h|⟨g,e1,hc⟩
  ·exact .inl h
  rcases s1'.cell with h|⟨g',e1',hc'⟩
  ·exact .inl h
  refine .inr ⟨g,0,g',0,e1,e1',fun i hi=>?_⟩
  rw [Nat.zero_add]
  have hs:1≤P.ZV i:=by
   rcases hP.v with h|⟨b,o,_,h⟩
   ·omega
   ·exact (h i hi).s1
  exact (s2 i hi).pair (s2' i hi) rfl rfl rfl rfl rfl rfl rfl ⟨hs,by have:=dF (Z:=P.ZV) hi;omega⟩ (hc i hi) (hc' i hi)
 ·obtain ⟨E,s1,s2⟩:=h.r
  obtain ⟨E',s1',s2'⟩:=h'.r
  rw [hT.rn]
  rcases s1.cell with h|⟨g,e1,hc⟩
  ·exact .inl h
  rcases s1'.cell with h|⟨g',e1',hc'⟩
  ·exact .inl h
  refine .inr ⟨g,0,g',0,e1,e1',fun i hi=>?_⟩
  rw [Nat.zero_add]
  have hs:1≤P.ZR i:=by
   rcases hP.r with h|⟨b,o,_,h⟩
   ·omega
   ·exact (h i hi).s1
  exact (s2 i hi).pair (s2' i hi) rfl (fun _ _ _=>rfl) rfl rfl rfl rfl ⟨hs,by have:=dF (Z:=P.ZR) hi;omega⟩ (hc i hi) (hc' i hi)
theorem sl_tri {w:World} {B:Nat} {T:TypeId} {c:Nat} {a b d:List Value} (ha:a.length=c) (hb:b.length=c) (hd:d.length=c) (hB:B≤w.heap.size):SL (w.alloc (.cells (a++(b++d)).toArray T)) B T c (.slice (some ⟨w.heap.size,0,none⟩) 3 3) 3 (fD a b d):=by
 subst ha
 have hl:(a++(b++d)).length=3*a.length:=by simp only [List.length_append];omega
 refine ⟨a++(b++d),⟨by omega,.inr ⟨_,3,(a++(b++d)).toArray,rfl,hB,heap_alloc_new _ _,Nat.le_refl _,by unfold maxLen;decide,by simp;omega,?_⟩⟩,fun i hi j u hu=>?_⟩
 ·simp
  exact List.take_of_length_le (by omega)
 ·rcases (by omega:i=0∨i=1∨i=2) with rfl|rfl|rfl
  ·have hu':a[j]? = some u:=hu
   have:=(List.getElem?_eq_some_iff.1 hu').1
   exact ⟨by omega,by rw [Nat.zero_mul,Nat.zero_add,List.getElem?_append_left (by omega)];exact hu'⟩
  ·have hu':b[j]? = some u:=hu
   have:=(List.getElem?_eq_some_iff.1 hu').1
   exact ⟨by omega,by rw [Nat.one_mul,List.getElem?_append_right (by omega),show a.length+j-a.length=j by omega,List.getElem?_append_left (by omega)];exact hu'⟩
  ·have hu':d[j]? = some u:=hu
   have:=(List.getElem?_eq_some_iff.1 hu').1
   exact ⟨by omega,by rw [List.getElem?_append_right (by omega),List.getElem?_append_right (by omega),show 2*a.length+j-a.length-b.length=j by omega];exact hu'⟩
theorem boxl3 (w:World) (c0:Array Value) (t0:TypeId) (c1:Array Value) (t1:TypeId) (c2:Array Value) (t2:TypeId):let W:=((w.alloc (.cells c0 t0)).alloc (.cells c1 t1)).alloc (.cells c2 t2);BoxC W w.heap.size c0.toList∧BoxC W (w.heap.size+1) c1.toList∧Rw t2 W (w.heap.size+2) c2∧Below w.heap.size w W∧W.heap.size=w.heap.size+3:=by
 have e1:(w.alloc (.cells c0 t0)).heap.size=w.heap.size+1:=by simp
 have e2:((w.alloc (.cells c0 t0)).alloc (.cells c1 t1)).heap.size=w.heap.size+2:=by simp
 have P1:=aN (w.alloc (.cells c0 t0)) c1 t1
 rw [e1] at P1
 have P2:=Rw.new t2 ((w.alloc (.cells c0 t0)).alloc (.cells c1 t1)) c2
 rw [e2] at P2
 exact ⟨((aN w c0 t0).below (aG _ _)).below (aG _ _),P1.below (aG _ _),P2,eG (eG (aG _ _)),by simp⟩
theorem lG {h p:Bool} {a:Option Addr} {na ca:Nat} {d:Option Addr} {nd cd:Nat} {r:Rat} {S:Nat} {p0:Bool} {a0:Option Addr} {na0 ca0:Nat} {d0:Option Addr} {nd0 cd0:Nat} (w:World) (hr:TR w p a na ca d nd cd r S) (hz0:TR w p0 a0 na0 ca0 d0 nd0 cd0 0 1) (hS:S≤5999998) (hS1:1≤S) :
 Calls Tryz.prog 34 #[.agg #[.bool h,.bool p,.slice a na ca,.slice d nd cd],.agg #[.bool p0,.slice a0 na0 ca0,.slice d0 nd0 cd0]] w fun e w'=>∃ f c n k c' n' k',e = .returned (.agg #[.bool h,.bool f,.slice c n k,.slice c' n' k'])∧GR w' w.heap.size f c n k c' n' k' (bat h r) S∧Below w.heap.size w w':=by
 obtain ⟨N,M,R0,hz,hs⟩:=boxl3 w #[.bool h,.bool p,.slice a na ca,.slice d nd cd] 55 #[.bool p0,.slice a0 na0 ca0,.slice d0 nd0 cd0] 27 #[.bool false,.bool false,.slice none 0 0,.slice none 0 0] 55
 have n0:=N 0 _ rfl
 have n1:=N 1 _ rfl
 have n2:=N 2 _ rfl
 have n3:=N 3 _ rfl
 have m0:=M 0 _ rfl
 have m1:=M 1 _ rfl
 have m2:=M 2 _ rfl
 clear N M
 have hr1:=hr.below hz
 have hz1:=hz0.below hz
 go_enter Tryz.func34,Tryz.ntmps34
 cases h with
 | false =>
  go_wp2_with fail
  generalize ((w.alloc (.cells #[.bool false,.bool p,.slice a na ca,.slice d nd cd] 55)).alloc (.cells #[.bool p0,.slice a0 na0 ca0,.slice d0 nd0 cd0] 27)).alloc (.cells #[.bool false,.bool false,.slice none 0 0,.slice none 0 0] 55)=W at *
  refine (ofD 0 W (by decide) (by decide)).mono ?_
  rintro e w2 ⟨f,c,n,k,c',n',k',rfl,G,hb⟩
  have R1:=R0.below hb
  go_wp2_with (refine R1.put #[.bool false,.bool f,.slice c n k,.slice c' n' k'] rfl _ _ rfl rfl rfl qP rfl (by simp [Value.oneCell']) ?_)
  intro w3 R2 O2
  go_wp2
  have hs1:=hz.size
  have hs2:=hb.size
  have hs3:=R0.lt
  have G2:=G.off O2 (by omega)
  have hb3:Below w.heap.size w w3:=(aF hz hb).trans (O2.below (by omega))
  have e0:((0:Int):Rat)=bat false r:=rfl
  exact bodyPost_ret (R2.ret1 Tryz.results34 _ rfl Tryz.underlying55 qP) rfl ⟨f,c,n,k,c',n',k',rfl,((G2.mono (by omega)).le hS1).val e0,hb3⟩
 | true =>
  go_wp2_with fail
  generalize ((w.alloc (.cells #[.bool true,.bool p,.slice a na ca,.slice d nd cd] 55)).alloc (.cells #[.bool p0,.slice a0 na0 ca0,.slice d0 nd0 cd0] 27)).alloc (.cells #[.bool false,.bool false,.slice none 0 0,.slice none 0 0] 55)=W at *
  refine (subD W hr1 hz1 (by omega) hS1 (by omega)).mono ?_
  rintro e w2 ⟨f,c,n,k,c',n',k',rfl,G,hb⟩
  have R1:=R0.below hb
  go_wp2_with (refine R1.put #[.bool true,.bool f,.slice c n k,.slice c' n' k'] rfl _ _ rfl rfl rfl qP rfl (by simp [Value.oneCell']) ?_)
  intro w3 R2 O2
  go_wp2
  have hs1:=hz.size
  have hs2:=hb.size
  have hs3:=R0.lt
  have e0:r-0=bat true r:=by show r-0=r;grind
  have G2:=((G.val e0).fit (hr.sz hS1)).off O2 (by omega)
  have hb3:Below w.heap.size w w3:=(aF hz hb).trans (O2.below (by omega))
  exact bodyPost_ret (R2.ret1 Tryz.results34 _ rfl Tryz.underlying55 qP) rfl ⟨f,c,n,k,c',n',k',rfl,G2.mono (by omega),hb3⟩
theorem sz_nil:SzR 0 1:=by
 have e0:pw 1=18446744073709551616:=rfl
 exact ⟨by rw [e0];decide,by rw [e0];decide⟩
theorem gsum_szT {t:Nat→PT} {Z:Nat→Nat} {nt T:Nat} (x:Int) (h:∀ q,q<nt→SzR (t q).coef (Z q)∧1≤Z q) (hK:tot Z nt≤T):∀ k,k≤nt→SzR (bJ t k x) T:=by
 intro k hk
 have h1:=iV Z hk
 have h2:=uB Z k
 by_cases e:ps t Z x k=[]
 ·have e2:bJ t k x=0:=by rw [← lV t Z x k,e];rfl
  rw [e2];exact sz_nil.le (by omega)
 ·have h3:=wO t Z x k
  exact (pF x (fun q hq=>h q (by omega)) e).1.le (by omega)
theorem coefD {nm:ByteArray} {ta:Option Addr} {nt tc:Nat} {hl pl:Bool} {al:Option Addr} {nl cl:Nat} {dl:Option Addr} {ml ll:Nat} {hh ph:Bool} {ah:Option Addr} {nh ch:Nat} {dh:Option Addr} {mh lh:Nat} {t:Nat→PT} {Z:Nat→Nat} (j:Int) (w:World) (hL:LT w ta nt t Z) (htc:nt≤tc) (hK:tot Z nt≤1048577) (hj:-9223372036854775808≤j∧j<9223372036854775808) :
 Calls Tryz.prog 35 #[.agg #[.string nm,.slice ta nt tc,.bool hl,.bool pl,.slice al nl cl,.slice dl ml ll,.bool hh,.bool ph,.slice ah nh ch,.slice dh mh lh],.int .i64 j] w fun e w'=>∃ f c n1 k1 c' n' k',e = .returned (.agg #[.bool f,.slice c n1 k1,.slice c' n' k'])∧GR w' w.heap.size f c n1 k1 c' n' k' (bJ t nt j) 1048577∧Below w.heap.size w w':=by
 have hgz:=hL.get
 have HS:Hid (∀ k,k≤nt→SzR (bJ t k j) 1048577):=gsum_szT j hgz hK
 have hnt:nt≤1048577:=by have:=zW (fun q hq=>(hgz q hq).2);omega
 have HZ:Hid (∀ q,q<nt→Z q≤1048576):=fun q hq=>by have:=zL (Z:=Z) hq;omega
 clear hgz
 have Pb:=aN w #[.string nm,.slice ta nt tc,.bool hl,.bool pl,.slice al nl cl,.slice dl ml ll,.bool hh,.bool ph,.slice ah nh ch,.slice dh mh lh] 60
 have R0:=bF (w.alloc (.cells #[.string nm,.slice ta nt tc,.bool hl,.bool pl,.slice al nl cl,.slice dl ml ll,.bool hh,.bool ph,.slice ah nh ch,.slice dh mh lh] 60)) (.bool false) (.slice none 0 0) (.slice none 0 0) 27
 have hb0:=aF (aG w (.cells #[.string nm,.slice ta nt tc,.bool hl,.bool pl,.slice al nl cl,.slice dl ml ll,.bool hh,.bool ph,.slice ah nh ch,.slice dh mh lh] 60)) (aG (w.alloc (.cells #[.string nm,.slice ta nt tc,.bool hl,.bool pl,.slice al nl cl,.slice dl ml ll,.bool hh,.bool ph,.slice ah nh ch,.slice dh mh lh] 60)) (.cells #[.bool false,.slice none 0 0,.slice none 0 0] 27))
 have hsA:(w.alloc (.cells #[.string nm,.slice ta nt tc,.bool hl,.bool pl,.slice al nl cl,.slice dl ml ll,.bool hh,.bool ph,.slice ah nh ch,.slice dh mh lh] 60)).heap.size=w.heap.size+1:=by simp
 have hsB:((w.alloc (.cells #[.string nm,.slice ta nt tc,.bool hl,.bool pl,.slice al nl cl,.slice dl ml ll,.bool hh,.bool ph,.slice ah nh ch,.slice dh mh lh] 60)).alloc (.cells #[.bool false,.slice none 0 0,.slice none 0 0] 27)).heap.size=w.heap.size+2:=by simp
 replace Pb:=Pb.below (aG (w.alloc (.cells #[.string nm,.slice ta nt tc,.bool hl,.bool pl,.slice al nl cl,.slice dl ml ll,.bool hh,.bool ph,.slice ah nh ch,.slice dh mh lh] 60)) (.cells #[.bool false,.slice none 0 0,.slice none 0 0] 27))
 rw [hsA] at R0
 go_enter Tryz.func35,Tryz.ntmps35
 go_wp2_with fail
 generalize (w.alloc (.cells #[.string nm,.slice ta nt tc,.bool hl,.bool pl,.slice al nl cl,.slice dl ml ll,.bool hh,.bool ph,.slice ah nh ch,.slice dh mh lh] 60)).alloc (.cells #[.bool false,.slice none 0 0,.slice none 0 0] 27)=W0 at *
 refine (ofD 0 W0 (by decide) (by decide)).mono ?_
 rintro e w1 ⟨f0,c0,n0,k0,d0,m0,l0,rfl,G0,hx1⟩
 have hs1:=Below.size hx1
 replace G0:=(((G0.mono (B':=w.heap.size+2) (by omega)).val (show ((0:Int):Rat)=bJ t 0 j from rfl)).fit (HS.out 0 (by omega))).gx (R:=w1.heap.size) (.inr (Nat.le_refl _))
 replace R0:=R0.below hx1
 replace Pb:=Pb.below hx1
 replace hb0:=aF hb0 hx1
 clear hx1 hsA
 have hz1:=aG w1 (.cells #[.bool f0,.slice c0 n0 k0,.slice d0 m0 l0] 27)
 have V0:=bF w1 (.bool f0) (.slice c0 n0 k0) (.slice d0 m0 l0) 27
 have hs2:(w1.alloc (.cells #[.bool f0,.slice c0 n0 k0,.slice d0 m0 l0] 27)).heap.size=w1.heap.size+1:=by simp
 replace G0:=G0.below hz1
 replace R0:=R0.below hz1
 replace Pb:=Pb.below hz1
 replace hb0:=aF hb0 hz1
 clear hz1
 go_wp2
 generalize w1.alloc (.cells #[.bool f0,.slice c0 n0 k0,.slice d0 m0 l0] 27)=W1 at *
 go_loopw [6] (fun s wr=>∃ (i:Nat) (f:Bool) (c:Option Addr) (n1 k1:Nat) (d:Option Addr) (m l:Nat),i≤nt∧s = .int .i64 i∧Var3 wr w1.heap.size (.bool f) (.slice c n1 k1) (.slice d m l)∧GX wr (w.heap.size+2) w1.heap.size f c n1 k1 d m l (bJ t i j) 1048577∧Var3 wr (w.heap.size+1) (.bool false) (.slice none 0 0) (.slice none 0 0)∧BoxC wr w.heap.size (#[.string nm,.slice ta nt tc,.bool hl,.bool pl,.slice al nl cl,.slice dl ml ll,.bool hh,.bool ph,.slice ah nh ch,.slice dh mh lh]).toList∧Below w.heap.size w wr∧w1.heap.size+1≤wr.heap.size) (fun s _=>nt-(intOf s).toNat)
 case atStart=>exact ⟨0,_,_,_,_,_,_,_,Nat.zero_le _,rfl,V0,G0,R0,Pb,hb0,by omega⟩
 case round =>
  obtain ⟨i,f,c,n1,k1,d,m,l,hi,rfl,V,G,R,Pb,hbel,hsw2⟩:=hrel
  clear V0 G0 R0 hb0
  have q5:=Pb 1 _ rfl
  by_cases hlt:i<nt
  ·have hkI:(i:Int)<(nt:Int):=by omega
   rcases (hL.below hbel) with h0|⟨tb,to,rfl,hel⟩
   ·omega
   have hTm:=hel i hlt
   obtain ⟨v,ev⟩:∃ v,v=(t i).var:=⟨_,rfl⟩
   obtain ⟨t0,⟨pC,aC,nC,cC,dC,mC,lC,t1,t2,t3,hC⟩,hsC,hszC,hv1,hv2⟩:=hTm
   rw [← ev] at t0 hv1 hv2
   have EV:Hid (v=(t i).var):=ev
   have hZi:=HZ.out i hlt
   have hkI3:(i:Int)*4=((i*4:Nat):Int):=by omega
   clear hel ev
   by_cases hvj:v=j
   ·have HS1:Hid (SzR (bJ t i j+(t i).coef) 1048577):=by
     have:=HS.out (i+1) (by omega)
     have e:bJ t (i+1) j=bJ t i j+(t i).coef:=by show gV _ (i+1)=_;rw [fQ,if_pos (by rw [← EV.out];exact hvj)];rfl
     rw [e] at this;exact this
    have HNX:Hid (bJ t i j+(t i).coef=bJ t (i+1) j):=by show _=gV _ (i+1);rw [fQ,if_pos (by rw [← EV.out];exact hvj)];rfl
    subst hvj
    obtain ⟨s0,s1,s2,_,_,_⟩:=id V
    go_wp2_with fail
    have HBX:∀ w',Below wr.heap.size wr w'→(w'.cell? ⟨w1.heap.size,0,none⟩=some (.bool f)∧w'.cell? ⟨w1.heap.size,1,none⟩=some (.slice c n1 k1)∧w'.cell? ⟨w1.heap.size,2,none⟩=some (.slice d m l)∧w'.cell? ⟨w.heap.size,1,none⟩=some (.slice (some ⟨tb,to,none⟩) nt tc)∧w'.cell? ⟨tb,to+i*4+1,none⟩=some (.bool pC)∧w'.cell? ⟨tb,to+i*4+1+1,none⟩=some (.slice aC nC cC)∧w'.cell? ⟨tb,to+i*4+1+2,none⟩=some (.slice dC mC lC)):=fun w' h=>⟨aB h s0,aB h s1,aB h s2,aB h q5,aB h t1,aB h t2,aB h t3⟩
    refine wp_region_noPanic (aU 8 HBX (by kernel_rfl) ?_)
    have hc0:Below wr.heap.size wr wr.drew:=aS _
    generalize wr.drew=z0 at *
    refine wpAnyG.tT 0 (v:=.agg #[.bool f,.slice c n1 k1,.slice d m l]) (by decide) 8 (by kernel_rfl) (by rfl) ?y0 (HBX _ hc0) ?_
    case y0 =>
     rintro w' ⟨q0,q1,q2,q3,q4,q5,q6⟩
     simp only [lgA,lgZ]
     go_simp
    simp only [lgA,lgZ,Act.put,lsA,lsZ,lsS]
    refine wpAnyG.tT 1 (v:=.pointer (some ⟨w.heap.size,1,none⟩)) (by decide) 8 (by kernel_rfl) (by rfl) ?y1 (HBX _ hc0) ?_
    case y1 =>
     rintro w' ⟨q0,q1,q2,q3,q4,q5,q6⟩
     simp only [lgA,lgZ,lgS]
     go_simp
    simp only [lgA,lgZ,lgS,Act.put,lsA,lsZ,lsS]
    refine wpAnyG.tT 2 (v:=.slice (some ⟨tb,to,none⟩) nt tc) (by decide) 8 (by kernel_rfl) (by rfl) ?y2 (HBX _ hc0) ?_
    case y2 =>
     rintro w' ⟨q0,q1,q2,q3,q4,q5,q6⟩
     simp only [lgA,lgZ,lgS]
     go_simp
    simp only [lgA,lgZ,lgS,Act.put,lsA,lsZ,lsS]
    refine wpAnyG.tT 3 (v:=.int .i64 (i:Int)) (by decide) 8 (by kernel_rfl) (by rfl) ?y3 (HBX _ hc0) ?_
    case y3 =>
     rintro w' ⟨q0,q1,q2,q3,q4,q5,q6⟩
     simp only [lgA,lgZ,lgS]
     go_simp
    simp only [lgA,lgZ,lgS,Act.put,lsA,lsZ,lsS]
    refine wpAnyG.tT 4 (v:=.pointer (some ⟨tb,to+i*4,none⟩)) (by decide) 8 (by kernel_rfl) (by rfl) ?y4 (HBX _ hc0) ?_
    case y4 =>
     rintro w' ⟨q0,q1,q2,q3,q4,q5,q6⟩
     simp only [lgA,lgZ,lgS]
     go_simp
    simp only [lgA,lgZ,lgS,Act.put,lsA,lsZ,lsS]
    refine wpAnyG.tT 5 (v:=.pointer (some ⟨tb,to+i*4+1,none⟩)) (by decide) 8 (by kernel_rfl) (by rfl) ?y5 (HBX _ hc0) ?_
    case y5 =>
     rintro w' ⟨q0,q1,q2,q3,q4,q5,q6⟩
     simp only [lgA,lgZ,lgS]
     go_simp
    simp only [lgA,lgZ,lgS,Act.put,lsA,lsZ,lsS]
    refine wpAnyG.tT 6 (v:=.agg #[.bool pC,.slice aC nC cC,.slice dC mC lC]) (by decide) 8 (by kernel_rfl) (by rfl) ?y6 (HBX _ hc0) ?_
    case y6 =>
     rintro w' ⟨q0,q1,q2,q3,q4,q5,q6⟩
     simp only [lgA,lgZ,lgS]
     go_simp
    simp only [lgA,lgZ,lgS,Act.put,lsA,lsZ,lsS]
    refine wpAnyG.one 7 (by kernel_rfl) (by decide) (by rfl) (fun K hK=>?_)
    simp only [lgA,lgZ,lgS]
    go_simp
    refine (addD z0 (G.1.tr.below hc0) (hC.below hc0) (by omega) (by omega) (by omega)).mono ?_
    rintro e z1 ⟨g3,u3,i3,j3,o3,t3',x3,rfl,G3,hk1⟩
    have hc1:Below wr.heap.size wr z1:=aF hc0 hk1
    have hs3:=Below.size hc1
    dsimp only
    refine hK _ _ ⟨fun _=>HBX _ hc1,fun _=>trivial⟩ ?_
    clear hK K
    refine wpAnyG.one 8 (by kernel_rfl) (by decide) (by rfl) (fun K hK=>?_)
    simp only [lgA,lgZ,lgS]
    have VS:=V.below hc1
    obtain ⟨y0,y1,y2,y3,y4,y5⟩:=id VS
    go_simp
    refine hK _ _ ⟨fun h=>absurd h (by decide),fun _=>trivial⟩ ?_
    clear hK K
    refine wpAnyG.done (by kernel_rfl) (NoPanic.normal ?_)
    have hsz2:=Below.size hk1
    have hszz:=Below.size hc0
    have GN:=((G3.fit HS1.out).gx (R:=w1.heap.size) (.inl (by omega))).mono (B':=w.heap.size+2) (by omega)
    obtain ⟨V',O⟩:=VS.set (.bool g3) (.slice u3 i3 j3) (.slice o3 t3' x3)
    have R':=(R.below hc1).off O (by omega)
    have Pb':BoxC _ w.heap.size (#[.string nm,.slice (some ⟨tb,to,none⟩) nt tc,.bool hl,.bool pl,.slice al nl cl,.slice dl ml ll,.bool hh,.bool ph,.slice ah nh ch,.slice dh mh lh]).toList:=fun a u hu=>(World.cell?_of_block (O.block w.heap.size (by omega))).trans (Pb.below hc1 a u hu)
    have hbel':Below w.heap.size w _:=(aF hbel hc1).trans (O.below (by omega))
    have GN':=(GN.off O)
    have GN2:GX _ (w.heap.size+2) w1.heap.size g3 u3 i3 j3 o3 t3' x3 (bJ t (i+1) v) 1048577:=⟨GN'.1.val HNX.out,GN'.2⟩
    have hs4:=O.size
    clear V R hbel O GN GN' VS HBX G3 hc0 hc1 hk1 y0 y1 y2 y3 y4 y5 s0 s1 s2 t0 t1 t2 t3 hC G Pb q5
    go_wp2
    go_roundw
    case rel=>first|exact ⟨i+1,_,_,_,_,_,_,_,by omega,by go_num,V',GN2,R',Pb',hbel',by omega⟩|((repeat apply Exists.intro);refine ⟨?_,rfl⟩;exact ⟨i+1,_,_,_,_,_,_,_,by omega,by go_num,V',GN2,R',Pb',hbel',by omega⟩)
    case measure=>simp [intOf];omega
   ·have HNX:bJ t i j=bJ t (i+1) j:=by show _=gV _ (i+1);rw [fQ,if_neg (by rw [← EV.out];exact hvj),Rat.add_zero];rfl
    have hvb:(v == j)=false:=by simpa using hvj
    have GN2:GX wr (w.heap.size+2) w1.heap.size f c n1 k1 d m l (bJ t (i+1) j) 1048577:=⟨G.1.val HNX,G.2⟩
    clear HNX G hC
    go_wp2
    go_roundw
    case rel=>first|exact ⟨i+1,_,_,_,_,_,_,_,by omega,by go_num,V,GN2,R,Pb,hbel,by omega⟩|((repeat apply Exists.intro);refine ⟨?_,rfl⟩;exact ⟨i+1,_,_,_,_,_,_,_,by omega,by go_num,V,GN2,R,Pb,hbel,by omega⟩)
    case measure=>simp [intOf];omega
  ·have hkI:¬ (i:Int)<(nt:Int):=by omega
   obtain rfl:i=nt:=by omega
   clear HS
   obtain ⟨v0,v1,v2,v3,v4,v5⟩:=id V
   obtain ⟨r0,r1,r2,r3,r4,r5⟩:=id R
   obtain ⟨VV,O⟩:=R.set (.bool f) (.slice c n1 k1) (.slice d m l)
   have GF:=G.1.off O (by omega)
   have hw:=hbel.trans (O.below (by omega))
   clear R O G hbel V
   go_wp2
   refine bodyPost_ret (v:=.agg #[.bool f,.slice c n1 k1,.slice d m l]) (by simp [results,Tryz.results35,go_sem,VV.c0,VV.c1,VV.c2]) rfl ?_
   replace GF:=GF.mono (B':=w.heap.size) (by omega)
   cases f
   ·exact .inl ⟨_,_,_,_,_,_,rfl,GF,hw⟩
   ·exact .inr ⟨_,_,_,_,_,_,rfl,GF,hw⟩
end Go.Proofs.YtdcocflnafcikaaGreatDoor

import Derived.Test.YtceigfafmalfgaaGreatDoorPrF
import Derived.Test.YtceigfafmalfgaaGreatDoorPqF
namespace Go.Proofs.YtceigfafmalfgaaGreatDoor
open Go.RowKit
theorem inc_same {f g:Nat→Int} {m m':Nat} (hf:∀ i j,i<j→j<m→f i<f j) (hg:∀ i j,i<j→j<m'→g i<g j) (h1:∀ i,i<m→∃ j,j<m'∧g j=f i) (h2:∀ j,j<m'→∃ i,i<m∧f i=g j):∀ i,i<m→i<m'∧f i=g i:=by
 intro i
 induction i using Nat.strongRecOn with
 | ind i ih =>
  intro hi
  obtain ⟨j,hj,e⟩:=h1 i hi
  have hij:i≤j:=by
   rcases Nat.lt_or_ge j i with h|h
   ·have:=(ih j h (by omega)).2
    have:=hf j i h hi
    omega
   ·exact h
  have hi':i<m':=by omega
  obtain ⟨k,hk,e2⟩:=h2 i hi'
  have hik:i≤k:=by
   rcases Nat.lt_or_ge k i with h|h
   ·have:=(ih k h hk).2
    have:=hg k i h hi'
    omega
   ·exact h
  have a1:g i≤g j:=by
   rcases Nat.eq_or_lt_of_le hij with h|h
   ·rw [h];exact Int.le_refl _
   ·have:=hg i j h hj;omega
  have a2:f i≤f k:=by
   rcases Nat.eq_or_lt_of_le hik with h|h
   ·rw [h];exact Int.le_refl _
   ·have:=hf i k h hk;omega
  exact ⟨hi',by omega⟩
theorem Gath.uniq {t t':Nat→PT} {nt nt' n:Nat} {u u':Nat→PT} {m m':Nat} (h:Gath t nt n u m) (h':Gath t' nt' n u' m') (hs:∀ x:Int,0≤x→x<(n:Int)→gsum t nt x=gsum t' nt' x):m=m'∧∀ i,i<m→(u i).var=(u' i).var∧(u i).coef=(u' i).coef:=by
 have a:∀ i,i<m→∃ j,j<m'∧(u' j).var=(u i).var:=fun i hi=>by
  have l:=h.lt i hi
  exact h'.all _ l.1 l.2 (by rw [← hs _ l.1 l.2];exact (h.co i hi).2)
 have b:∀ j,j<m'→∃ i,i<m∧(u i).var=(u' j).var:=fun j hj=>by
  have l:=h'.lt j hj
  exact h.all _ l.1 l.2 (by rw [hs _ l.1 l.2];exact (h'.co j hj).2)
 have k1:=inc_same (f:=fun i=>(u i).var) (g:=fun i=>(u' i).var) h.up h'.up a b
 have k2:=inc_same (f:=fun i=>(u' i).var) (g:=fun i=>(u i).var) h'.up h.up b a
 refine ⟨?_,fun i hi=>?_⟩
 ·rcases Nat.lt_trichotomy m m' with c|c|c
  ·have:=(k2 m c).1;omega
  ·exact c
  ·have:=(k1 m' c).1;omega
 ·have l:=h.lt i hi
  have e:=(k1 i hi).2
  have e:(u i).var=(u' i).var:=e
  refine ⟨e,?_⟩
  rw [(h.co i hi).1,(h'.co i (k1 i hi).1).1,← e,hs _ l.1 l.2]
structure Tid (P Q:Prob):Prop where
 mx:Q.mx=P.mx
 nm:Q.nm=P.nm
 k:Q.k=P.k
 vn:Q.vn=P.vn
 rn:Q.rn=P.rn
 K:Q.K=P.K
 ZR:Q.ZR=P.ZR
 ZV:Q.ZV=P.ZV
 S:Q.S=P.S
 V:∀ j,Q.V j=⟨(P.V j).nm,(P.V j).obj,(P.V j).hlo,bat (P.V j).hlo (P.V j).lo,(P.V j).hhi,bat (P.V j).hhi (P.V j).hi,(P.V j).whole⟩
 R:∀ i,i<P.rn→(Q.R i).nm=(P.R i).nm∧(Q.R i).hlo=(P.R i).hlo∧(Q.R i).lo=bat (P.R i).hlo (P.R i).lo∧(Q.R i).hhi=(P.R i).hhi∧(Q.R i).hi=bat (P.R i).hhi (P.R i).hi∧Gath (P.R i).t (P.R i).nt P.vn (Q.R i).t (Q.R i).nt
theorem c3_of {w:World} {B:Nat} {g o:Nat} {p:Bool} {a:Option Addr} {na ca:Nat} {d:Option Addr} {nd cd:Nat} {r:Rat} {S:Nat} (h0:w.cell? ⟨g,o,none⟩=some (.bool p)) (h1:w.cell? ⟨g,o+1,none⟩=some (.slice a na ca)) (h2:w.cell? ⟨g,o+2,none⟩=some (.slice d nd cd)) (hg:GR w B p a na ca d nd cd r S):C3 w g o r S:=⟨p,a,na,ca,d,nd,cd,h0,h1,h2,hg.tr⟩
theorem bat_sz {h:Bool} {r:Rat} {S:Nat} (hr:SzR r S) (hS:1≤S):SzR (bat h r) S:=by
 cases h
 ·have:=pw_mono hS
  have e:pw 1=18446744073709551616:=rfl
  refine ⟨?_,?_⟩
  ·show (((0:Rat).num.natAbs:Nat):Int)<pw S
   have:((0:Rat).num.natAbs:Nat)=0:=rfl
   omega
  ·show (((0:Rat).den:Nat):Int)<pw S
   have:(0:Rat).den=1:=rfl
   omega
 ·exact hr
theorem VC.at {w:World} {B:Nat} {cs:List Value} {v:PV} {Y:Nat} (h:VC w B cs v Y) {g o:Nat} (hc:∀ j u,cs[j]? = some u→w.cell? ⟨g,o+j,none⟩=some u) {w0:World} {b0 o0:Nat} (h0:VarAt w0 b0 o0 v Y) :
  VarAt w g o ⟨v.nm,v.obj,v.hlo,bat v.hlo v.lo,v.hhi,bat v.hhi v.hi,v.whole⟩ Y:=by
 obtain ⟨p1,a1,n1,k1,d1,m1,l1,p2,a2,n2,k2,d2,m2,l2,p3,a3,n3,k3,d3,m3,l3,e,g1,g2,g3⟩:=h
 subst e
 exact ⟨hc 0 _ rfl,c3_of (hc 1 _ rfl) (hc 2 _ rfl) (hc 3 _ rfl) g1,hc 4 _ rfl,c3_of (hc 5 _ rfl) (hc 6 _ rfl) (hc 7 _ rfl) g2,hc 8 _ rfl,c3_of (hc 9 _ rfl) (hc 10 _ rfl) (hc 11 _ rfl) g3,hc 12 _ rfl,h0.s1,h0.sobj,bat_sz h0.slo h0.s1,bat_sz h0.shi h0.s1,h0.snm⟩
theorem RC.at {w:World} {B:Nat} {cs:List Value} {r:PW} {n Y:Nat} (h:RC w B cs r n Y) {g o:Nat} (hc:∀ j u,cs[j]? = some u→w.cell? ⟨g,o+j,none⟩=some u) (hn:n≤1048576) {w0:World} {b0 o0:Nat} (h0:RowAt w0 b0 o0 r Y) :
  ∃ m u,Gath r.t r.nt n u m∧RowAt w g o ⟨r.nm,m,u,r.hlo,bat r.hlo r.lo,r.hhi,bat r.hhi r.hi⟩ Y:=by
 obtain ⟨v,m,u,Z,p2,a2,n2,k2,d2,m2,l2,p3,a3,n3,k3,d3,m3,l3,e,g1,z1,z2,t1,g2,g3⟩:=h
 subst e
 obtain ⟨q1,q2⟩:=g1.tot z1
 obtain ⟨E,s1,s2⟩:=t1
 obtain ⟨ta,tc,rfl,htc⟩:=s1.form
 refine ⟨m,u,g1,hc 0 _ rfl,⟨ta,tc,_,hc 1 _ rfl,?_,Nat.le_trans q2 z2,htc⟩,hc 2 _ rfl,c3_of (hc 3 _ rfl) (hc 4 _ rfl) (hc 5 _ rfl) g2,hc 6 _ rfl,c3_of (hc 7 _ rfl) (hc 8 _ rfl) (hc 9 _ rfl) g3,h0.s1,bat_sz h0.slo h0.s1,bat_sz h0.shi h0.s1,h0.snm⟩
 rcases s1.cell with h|⟨g',e1,hcell⟩
 ·exact .inl h
 ·refine .inr ⟨g',0,e1,fun i hi=>?_⟩
  obtain ⟨p,a,na,ca,d,nd,cd,e,gc⟩:=s2 i hi
  have hk:=hcell i hi
  rw [e] at hk
  have l:=g1.lt i hi
  have q:=q1 i hi
  rw [Nat.zero_add]
  have l1:-9223372036854775808≤(u i).var:=by omega
  have l2:(u i).var≤9223372036854775807:=by omega
  exact ⟨hk 0 _ rfl,c3_of (hk 1 _ rfl) (hk 2 _ rfl) (hk 3 _ rfl) gc,q.2,q.1,l1,l2⟩
structure TOc (w:World) (B:Nat) (P Q:Prob):Prop where
 k:GR w B Q.p Q.a Q.na Q.ca Q.d Q.nd Q.cd P.k P.S
 v:∃ E,SL w B 51 13 (.slice Q.va P.vn Q.vc) P.vn E∧∀ q,q<P.vn→VC w B (E q) (P.V q) (P.ZV q)
 r:∃ F,SL w B 54 10 (.slice Q.ra P.rn Q.rc) P.rn F∧∀ q,q<P.rn→RC w B (F q) (P.R q) P.vn (P.ZR q)
theorem TOc.below {w w':World} {B:Nat} {P Q:Prob} (h:TOc w B P Q) (hb:Below w.heap.size w w'):TOc w' B P Q:=by
 obtain ⟨h1,⟨E,h2,h3⟩,⟨F,h4,h5⟩⟩:=h
 exact ⟨h1.below hb,⟨E,h2.below hb,fun q hq=>(h3 q hq).below hb⟩,⟨F,h4.below hb,fun q hq=>(h5 q hq).below hb⟩⟩
theorem TO.probn {w w0:World} {B:Nat} {P:Prob} {v:Value} (h:TO w B P v) (hP:PQ w0 P) (hvn:P.vn≤1048576):∃ Q:Prob,v=Q.val∧PQ w Q∧Tid P Q∧TOc w B P Q:=by
 obtain ⟨f,c,n,k,c',n',k',va,vc,ra,rc,E,F,e,g,s1,s2,s3,s4⟩:=h
 have hv0:∀ j,j<P.vn→∃ b o,VarAt w0 b o (P.V j) (P.ZV j):=fun j hj=>by
  rcases hP.v with h|⟨b,o,_,h⟩
  ·omega
  ·exact ⟨_,_,h j hj⟩
 have hr0:∀ j,j<P.rn→∃ b o,RowAt w0 b o (P.R j) (P.ZR j):=fun j hj=>by
  rcases hP.r with h|⟨b,o,_,h⟩
  ·omega
  ·exact ⟨_,_,h j hj⟩
 obtain ⟨va',vc',e1,hvc⟩:=s1.form
 obtain ⟨ra',rc',e2,hrc⟩:=s3.form
 simp only [Value.slice.injEq,true_and] at e1 e2
 obtain ⟨rfl,rfl⟩:=e1
 obtain ⟨rfl,rfl⟩:=e2
 have H:∀ i,∃ y:Nat × (Nat→PT),i<P.rn→Gath (P.R i).t (P.R i).nt P.vn y.2 y.1∧∀ g,(∀ i,i<P.rn→∀ j u,(F i)[j]? = some u→w.cell? ⟨g,i*10+j,none⟩=some u)→RowAt w g (i*10) ⟨(P.R i).nm,y.1,y.2,(P.R i).hlo,bat (P.R i).hlo (P.R i).lo,(P.R i).hhi,bat (P.R i).hhi (P.R i).hi⟩ (P.ZR i):=fun i=>by
  by_cases hi:i<P.rn
  ·obtain ⟨b0,o0,hr⟩:=hr0 i hi
   rcases s3.cell with h|⟨g',_,hcell⟩
   ·omega
   ·obtain ⟨m,u,gg,_⟩:=(s4 i hi).at (g:=g') (o:=i*10) (fun j u hu=>hcell i hi j u hu) hvn hr
    refine ⟨(m,u),fun _=>⟨gg,fun g2 h2=>?_⟩⟩
    obtain ⟨m2,u2,gg2,hR2⟩:=(s4 i hi).at (g:=g2) (o:=i*10) (fun j u hu=>h2 i hi j u hu) hvn hr
    obtain ⟨em,eu⟩:=gg.uniq gg2 (fun _ _ _=>rfl)
    subst em
    obtain ⟨ta,tc,Z,t1,t2,t3,t4⟩:=hR2.terms
    refine ⟨hR2.nm,⟨ta,tc,Z,t1,?_,t3,t4⟩,hR2.hlo,hR2.lo,hR2.hhi,hR2.hi,hR2.s1,hR2.slo,hR2.shi,hR2.snm⟩
    rcases t2 with t2|⟨b,o,e,t2⟩
    ·exact .inl t2
    ·refine .inr ⟨b,o,e,fun q hq=>?_⟩
     have k:=t2 q hq
     obtain ⟨y1,y2⟩:=eu q hq
     unfold TermAt at k ⊢
     show w.cell? _=some (.int .i64 (u q).var)∧C3 w b _ (u q).coef _∧_∧SzR (u q).coef _∧_≤(u q).var∧(u q).var≤_
     rw [y1,y2]
     exact k
  ·exact ⟨(0,fun _=>⟨0,0⟩),fun h=>absurd h hi⟩
 obtain ⟨Y,hY⟩:=Classical.axiomOfChoice H
 refine ⟨{ mx:=P.mx,nm:=P.nm,p:=f,a:=c,na:=n,ca:=k,d:=c',nd:=n',cd:=k',va:=va,vn:=P.vn,vc:=vc,ra:=ra,rn:=P.rn,rc:=rc,k:=P.k,V:=fun j=>⟨(P.V j).nm,(P.V j).obj,(P.V j).hlo,bat (P.V j).hlo (P.V j).lo,(P.V j).hhi,bat (P.V j).hhi (P.V j).hi,(P.V j).whole⟩,ZV:=P.ZV,R:=fun i=>⟨(P.R i).nm,(Y i).1,(Y i).2,(P.R i).hlo,bat (P.R i).hlo (P.R i).lo,(P.R i).hhi,bat (P.R i).hhi (P.R i).hi⟩,ZR:=P.ZR,S:=P.S,K:=P.K },e,⟨g.tr,hP.s1,hP.sk,?_,?_,hP.all,hvc,hrc⟩,⟨rfl,rfl,rfl,rfl,rfl,rfl,rfl,rfl,rfl,fun _=>rfl,fun i hi=>⟨rfl,rfl,rfl,rfl,rfl,(hY i hi).1⟩⟩,⟨g,⟨E,s1,s2⟩,⟨F,s3,s4⟩⟩⟩
 ·rcases s1.cell with h|⟨g',e1,hcell⟩
  ·exact .inl h
  ·refine .inr ⟨g',0,e1,fun i hi=>?_⟩
   obtain ⟨b0,o0,hv⟩:=hv0 i hi
   rw [Nat.zero_add]
   exact (s2 i hi).at (fun j u hu=>hcell i hi j u hu) hv
 ·rcases s3.cell with h|⟨g',e1,hcell⟩
  ·exact .inl h
  ·refine .inr ⟨g',0,e1,fun i hi=>?_⟩
   rw [Nat.zero_add]
   exact (hY i hi).2 g' hcell
theorem cs_same {r s:Rat} (h:r=s):0=cs r s:=by
 subst h
 unfold cs
 rw [Int.sub_self]
 rfl
end Go.Proofs.YtceigfafmalfgaaGreatDoor

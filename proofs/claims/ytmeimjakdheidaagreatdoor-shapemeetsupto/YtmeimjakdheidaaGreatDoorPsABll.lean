import Derived.Test.YtmeimjakdheidaaGreatDoorPrF
import Derived.Test.YtmeimjakdheidaaGreatDoorPqFAll
import Derived.Test.YtmeimjakdheidaaGreatDoorPqEAll
namespace Go.Proofs.YtmeimjakdheidaaGreatDoor
open Go.RowKit
theorem uV {u:Nat→PT} {x:Int} {m:Nat} (h:∀ i,i<m→(u i).var≠x):dW u m x=0:=sS m fun i hi=>if_neg (h i hi)
theorem uX {u:Nat→PT} {x:Int}:∀ {m:Nat} {i:Nat},(∀ i j,i<j→j<m→(u i).var<(u j).var)→i<m→(u i).var=x→dW u m x=(u i).coef
 | 0,i,_,hi,_=>by omega
 | m+1,i,h,hi,hx=>by
  show dW u m x+(if (u m).var=x then (u m).coef else 0)=_
  rcases (by omega:i<m∨i=m) with h1|rfl
  ·have:=h i m h1 (by omega)
   rw [uX (fun i j a b=>h i j a (by omega)) h1 hx,if_neg (by omega),Rat.add_zero]
  ·rw [uV (fun j hj=>by have:=h j i hj (by omega);omega),if_pos hx,Rat.zero_add]
theorem Gath.gs {t:Nat→PT} {nt n:Nat} {u:Nat→PT} {m:Nat} (h:Gath t nt n u m) {x:Int} (h0:0≤x) (h1:x<(n:Int)):dW u m x=dW t nt x:=by
 by_cases hg:dW t nt x=0
 ·rw [hg]
  refine uV fun i hi e=>?_
  have:=(h.co i hi).2
  rw [e] at this
  exact this hg
 ·obtain ⟨i,hi,e⟩:=h.all x h0 h1 hg
  rw [uX h.up hi e,(h.co i hi).1,e]
theorem Gath.cvs {r s:PW} {n:Nat} (h:Gath r.t r.nt n s.t s.nt) (X:Nat→Rat) {m:Nat} (hm:m≤n):cv s X m=cv r X m:=by
 unfold cv
 rw [cv_gs,cv_gs]
 exact dZ fun x hx=>by rw [h.gs (by omega) (by omega)]
theorem zB {f g:Nat→Int} {m m':Nat} (hf:∀ i j,i<j→j<m→f i<f j) (hg:∀ i j,i<j→j<m'→g i<g j) (h1:∀ i,i<m→∃ j,j<m'∧g j=f i) (h2:∀ j,j<m'→∃ i,i<m∧f i=g j):∀ i,i<m→i<m'∧f i=g i:=by
 intro i
 induction i using Nat.strongRecOn with
 | ind i ih =>
  intro hi
  obtain ⟨j,hj,e⟩:=h1 i hi
  have hij:i≤j:=by
   rcases Nat.lt_or_ge j i with h|h
   ·have:=(ih j h (by omega)).2
    have:=hf j i h hi
    omega
   ·exact h
  have hi':i<m':=by omega
  obtain ⟨k,hk,e2⟩:=h2 i hi'
  have hik:i≤k:=by
   rcases Nat.lt_or_ge k i with h|h
   ·have:=(ih k h hk).2
    have:=hg k i h hi'
    omega
   ·exact h
  have a1:g i≤g j:=by
   rcases Nat.eq_or_lt_of_le hij with h|h
   ·rw [h];exact Int.le_refl _
   ·have:=hg i j h hj;omega
  have a2:f i≤f k:=by
   rcases Nat.eq_or_lt_of_le hik with h|h
   ·rw [h];exact Int.le_refl _
   ·have:=hf i k h hk;omega
  exact ⟨hi',by omega⟩
theorem Gath.uniq {t t':Nat→PT} {nt nt' n:Nat} {u u':Nat→PT} {m m':Nat} (h:Gath t nt n u m) (h':Gath t' nt' n u' m') (hs:∀ x:Int,0≤x→x<(n:Int)→dW t nt x=dW t' nt' x):m=m'∧∀ i,i<m→(u i).var=(u' i).var∧(u i).coef=(u' i).coef:=by
 have a:∀ i,i<m→∃ j,j<m'∧(u' j).var=(u i).var:=fun i hi=>by
  have l:=h.lt i hi
  exact h'.all _ l.1 l.2 (by rw [← hs _ l.1 l.2];exact (h.co i hi).2)
 have b:∀ j,j<m'→∃ i,i<m∧(u i).var=(u' j).var:=fun j hj=>by
  have l:=h'.lt j hj
  exact h.all _ l.1 l.2 (by rw [hs _ l.1 l.2];exact (h'.co j hj).2)
 have k1:=zB (f:=fun i=>(u i).var) (g:=fun i=>(u' i).var) h.up h'.up a b
 have k2:=zB (f:=fun i=>(u' i).var) (g:=fun i=>(u i).var) h'.up h.up b a
 refine ⟨?_,fun i hi=>?_⟩
 ·rcases Nat.lt_trichotomy m m' with c|c|c
  ·have:=(k2 m c).1;omega
  ·exact c
  ·have:=(k1 m' c).1;omega
 ·have l:=h.lt i hi
  have e:=(k1 i hi).2
  have e:(u i).var=(u' i).var:=e
  refine ⟨e,?_⟩
  rw [(h.co i hi).1,(h'.co i (k1 i hi).1).1,← e,hs _ l.1 l.2]
theorem zC (a:Rat) (hlo:Bool) (lo:Rat) (hhi:Bool) (hi:Rat):fV a hlo (bat hlo lo) hhi (bat hhi hi)=fV a hlo lo hhi hi:=by
 cases hlo <;> cases hhi <;> rfl
structure Tid (P Q:Prob):Prop where
 mx:Q.mx=P.mx
 nm:Q.nm=P.nm
 k:Q.k=P.k
 vn:Q.vn=P.vn
 rn:Q.rn=P.rn
 K:Q.K=P.K
 ZR:Q.ZR=P.ZR
 ZV:Q.ZV=P.ZV
 S:Q.S=P.S
 V:∀ j,Q.V j=⟨(P.V j).nm,(P.V j).obj,(P.V j).hlo,bat (P.V j).hlo (P.V j).lo,(P.V j).hhi,bat (P.V j).hhi (P.V j).hi,(P.V j).whole⟩
 R:∀ i,i<P.rn→(Q.R i).nm=(P.R i).nm∧(Q.R i).hlo=(P.R i).hlo∧(Q.R i).lo=bat (P.R i).hlo (P.R i).lo∧(Q.R i).hhi=(P.R i).hhi∧(Q.R i).hi=bat (P.R i).hhi (P.R i).hi∧Gath (P.R i).t (P.R i).nt P.vn (Q.R i).t (Q.R i).nt
theorem Tid.hlds {P Q:Prob} (h:Tid P Q) (n:Nat) (X:Nat→Rat):sW Q n X↔sW P n X:=by
 unfold sW
 rw [h.vn,h.rn]
 have hv:∀ j,fV (X j) (Q.V j).hlo (Q.V j).lo (Q.V j).hhi (Q.V j).hi=fV (X j) (P.V j).hlo (P.V j).lo (P.V j).hhi (P.V j).hi:=fun j=>by rw [h.V j];exact zC _ _ _ _ _
 have hr:∀ i,i<P.rn→fV (cv (Q.R i) X P.vn) (Q.R i).hlo (Q.R i).lo (Q.R i).hhi (Q.R i).hi=fV (cv (P.R i) X P.vn) (P.R i).hlo (P.R i).lo (P.R i).hhi (P.R i).hi:=fun i hi=>by
  obtain ⟨_,e1,e2,e3,e4,g⟩:=h.R i hi
  rw [e1,e2,e3,e4,g.cvs X (Nat.le_refl _)]
  exact zC _ _ _ _ _
 refine ⟨fun ⟨a,b,c⟩=>⟨a,fun j hj=>by rw [← hv];exact b j hj,fun i hi=>by rw [← hr i hi];exact c i hi⟩,fun ⟨a,b,c⟩=>⟨a,fun j hj=>by rw [hv];exact b j hj,fun i hi=>by rw [hr i hi];exact c i hi⟩⟩
theorem uY {w:World} {B:Nat} {g o:Nat} {p:Bool} {a:Option Addr} {na ca:Nat} {d:Option Addr} {nd cd:Nat} {r:Rat} {S:Nat} (h0:w.cell? ⟨g,o,none⟩=some (.bool p)) (h1:w.cell? ⟨g,o+1,none⟩=some (.slice a na ca)) (h2:w.cell? ⟨g,o+2,none⟩=some (.slice d nd cd)) (hg:GR w B p a na ca d nd cd r S):C3 w g o r S:=⟨p,a,na,ca,d,nd,cd,h0,h1,h2,hg.tr⟩
theorem wZ {h:Bool} {r:Rat} {S:Nat} (hr:SzR r S) (hS:1≤S):SzR (bat h r) S:=by
 cases h
 ·have:=aT hS
  have e:pw 1=18446744073709551616:=rfl
  refine ⟨?_,?_⟩
  ·show (((0:Rat).num.natAbs:Nat):Int)<pw S
   have:((0:Rat).num.natAbs:Nat)=0:=rfl
   omega
  ·show (((0:Rat).den:Nat):Int)<pw S
   have:(0:Rat).den=1:=rfl
   omega
 ·exact hr
theorem VC.at {w:World} {B:Nat} {cs:List Value} {v:PV} {Y:Nat} (h:VC w B cs v Y) {g o:Nat} (hc:∀ j u,cs[j]? = some u→w.cell? ⟨g,o+j,none⟩=some u) {w0:World} {b0 o0:Nat} (h0:VarAt w0 b0 o0 v Y) :
 VarAt w g o ⟨v.nm,v.obj,v.hlo,bat v.hlo v.lo,v.hhi,bat v.hhi v.hi,v.whole⟩ Y:=by
 obtain ⟨p1,a1,n1,k1,d1,m1,l1,p2,a2,n2,k2,d2,m2,l2,p3,a3,n3,k3,d3,m3,l3,e,g1,g2,g3⟩:=h
 subst e
 exact ⟨hc 0 _ rfl,uY (hc 1 _ rfl) (hc 2 _ rfl) (hc 3 _ rfl) g1,hc 4 _ rfl,uY (hc 5 _ rfl) (hc 6 _ rfl) (hc 7 _ rfl) g2,hc 8 _ rfl,uY (hc 9 _ rfl) (hc 10 _ rfl) (hc 11 _ rfl) g3,hc 12 _ rfl,h0.s1,h0.sobj,wZ h0.slo h0.s1,wZ h0.shi h0.s1,h0.snm⟩
theorem RC.at {w:World} {B:Nat} {cs:List Value} {r:PW} {n Y:Nat} (h:RC w B cs r n Y) {g o:Nat} (hc:∀ j u,cs[j]? = some u→w.cell? ⟨g,o+j,none⟩=some u) (hn:n≤1048576) {w0:World} {b0 o0:Nat} (h0:RowAt w0 b0 o0 r Y) :
 ∃ m u,Gath r.t r.nt n u m∧RowAt w g o ⟨r.nm,m,u,r.hlo,bat r.hlo r.lo,r.hhi,bat r.hhi r.hi⟩ Y:=by
 obtain ⟨v,m,u,Z,p2,a2,n2,k2,d2,m2,l2,p3,a3,n3,k3,d3,m3,l3,e,g1,z1,z2,t1,g2,g3⟩:=h
 subst e
 obtain ⟨q1,q2⟩:=g1.tot z1
 obtain ⟨E,s1,s2⟩:=t1
 obtain ⟨ta,tc,rfl,htc⟩:=s1.form
 refine ⟨m,u,g1,hc 0 _ rfl,⟨ta,tc,_,hc 1 _ rfl,?_,Nat.le_trans q2 z2,htc⟩,hc 2 _ rfl,uY (hc 3 _ rfl) (hc 4 _ rfl) (hc 5 _ rfl) g2,hc 6 _ rfl,uY (hc 7 _ rfl) (hc 8 _ rfl) (hc 9 _ rfl) g3,h0.s1,wZ h0.slo h0.s1,wZ h0.shi h0.s1,h0.snm⟩
 rcases s1.cell with h|⟨g',e1,hcell⟩
 ·exact .inl h
 ·refine .inr ⟨g',0,e1,fun i hi=>?_⟩
  obtain ⟨p,a,na,ca,d,nd,cd,e,gc⟩:=s2 i hi
  have hk:=hcell i hi
  rw [e] at hk
  have l:=g1.lt i hi
  have q:=q1 i hi
  rw [Nat.zero_add]
  have l1:-9223372036854775808≤(u i).var:=by omega
  have l2:(u i).var≤9223372036854775807:=by omega
  exact ⟨hk 0 _ rfl,uY (hk 1 _ rfl) (hk 2 _ rfl) (hk 3 _ rfl) gc,q.2,q.1,l1,l2⟩
structure TOc (w:World) (B:Nat) (P Q:Prob):Prop where
 k:GR w B Q.p Q.a Q.na Q.ca Q.d Q.nd Q.cd P.k P.S
 v:∃ E,SL w B 50 13 (.slice Q.va P.vn Q.vc) P.vn E∧∀ q,q<P.vn→VC w B (E q) (P.V q) (P.ZV q)
 r:∃ F,SL w B 55 10 (.slice Q.ra P.rn Q.rc) P.rn F∧∀ q,q<P.rn→RC w B (F q) (P.R q) P.vn (P.ZR q)
theorem TO.probn {w w0:World} {B:Nat} {P:Prob} {v:Value} (h:TO w B P v) (hP:PQ w0 P) (hvn:P.vn≤1048576):∃ Q:Prob,v=Q.val∧PQ w Q∧Tid P Q∧TOc w B P Q:=by
 obtain ⟨f,c,n,k,c',n',k',va,vc,ra,rc,E,F,e,g,s1,s2,s3,s4⟩:=h
 have hv0:∀ j,j<P.vn→∃ b o,VarAt w0 b o (P.V j) (P.ZV j):=fun j hj=>by
  rcases hP.v with h|⟨b,o,_,h⟩
  ·omega
  ·exact ⟨_,_,h j hj⟩
 have hr0:∀ j,j<P.rn→∃ b o,RowAt w0 b o (P.R j) (P.ZR j):=fun j hj=>by
  rcases hP.r with h|⟨b,o,_,h⟩
  ·omega
  ·exact ⟨_,_,h j hj⟩
 obtain ⟨va',vc',e1,hvc⟩:=s1.form
 obtain ⟨ra',rc',e2,hrc⟩:=s3.form
 simp only [Value.slice.injEq,true_and] at e1 e2
 obtain ⟨rfl,rfl⟩:=e1
 obtain ⟨rfl,rfl⟩:=e2
 have H:∀ i,∃ y:Nat × (Nat→PT),i<P.rn→Gath (P.R i).t (P.R i).nt P.vn y.2 y.1∧∀ g,(∀ i,i<P.rn→∀ j u,(F i)[j]? = some u→w.cell? ⟨g,i*10+j,none⟩=some u)→RowAt w g (i*10) ⟨(P.R i).nm,y.1,y.2,(P.R i).hlo,bat (P.R i).hlo (P.R i).lo,(P.R i).hhi,bat (P.R i).hhi (P.R i).hi⟩ (P.ZR i):=fun i=>by
  by_cases hi:i<P.rn
  ·obtain ⟨b0,o0,hr⟩:=hr0 i hi
   rcases s3.cell with h|⟨g',_,hcell⟩
   ·omega
   ·obtain ⟨m,u,gg,_⟩:=(s4 i hi).at (g:=g') (o:=i*10) (fun j u hu=>hcell i hi j u hu) hvn hr
    refine ⟨(m,u),fun _=>⟨gg,fun g2 h2=>?_⟩⟩
    obtain ⟨m2,u2,gg2,hR2⟩:=(s4 i hi).at (g:=g2) (o:=i*10) (fun j u hu=>h2 i hi j u hu) hvn hr
    obtain ⟨em,eu⟩:=gg.uniq gg2 (fun _ _ _=>rfl)
    subst em
    obtain ⟨ta,tc,Z,t1,t2,t3,t4⟩:=hR2.terms
    refine ⟨hR2.nm,⟨ta,tc,Z,t1,?_,t3,t4⟩,hR2.hlo,hR2.lo,hR2.hhi,hR2.hi,hR2.s1,hR2.slo,hR2.shi,hR2.snm⟩
    rcases t2 with t2|⟨b,o,e,t2⟩
    ·exact .inl t2
    ·refine .inr ⟨b,o,e,fun q hq=>?_⟩
     have k:=t2 q hq
     obtain ⟨y1,y2⟩:=eu q hq
     unfold TermAt at k ⊢
     show w.cell? _=some (.int .i64 (u q).var)∧C3 w b _ (u q).coef _∧_∧SzR (u q).coef _∧_≤(u q).var∧(u q).var≤_
     rw [y1,y2]
     exact k
  ·exact ⟨(0,fun _=>⟨0,0⟩),fun h=>absurd h hi⟩
 obtain ⟨Y,hY⟩:=Classical.axiomOfChoice H
 refine ⟨{ mx:=P.mx,nm:=P.nm,p:=f,a:=c,na:=n,ca:=k,d:=c',nd:=n',cd:=k',va:=va,vn:=P.vn,vc:=vc,ra:=ra,rn:=P.rn,rc:=rc,k:=P.k,V:=fun j=>⟨(P.V j).nm,(P.V j).obj,(P.V j).hlo,bat (P.V j).hlo (P.V j).lo,(P.V j).hhi,bat (P.V j).hhi (P.V j).hi,(P.V j).whole⟩,ZV:=P.ZV,R:=fun i=>⟨(P.R i).nm,(Y i).1,(Y i).2,(P.R i).hlo,bat (P.R i).hlo (P.R i).lo,(P.R i).hhi,bat (P.R i).hhi (P.R i).hi⟩,ZR:=P.ZR,S:=P.S,K:=P.K },e,⟨g.tr,hP.s1,hP.sk,?_,?_,hP.all,hvc,hrc⟩,⟨rfl,rfl,rfl,rfl,rfl,rfl,rfl,rfl,rfl,fun _=>rfl,fun i hi=>⟨rfl,rfl,rfl,rfl,rfl,(hY i hi).1⟩⟩,⟨g,⟨E,s1,s2⟩,⟨F,s3,s4⟩⟩⟩
 ·rcases s1.cell with h|⟨g',e1,hcell⟩
  ·exact .inl h
  ·refine .inr ⟨g',0,e1,fun i hi=>?_⟩
   obtain ⟨b0,o0,hv⟩:=hv0 i hi
   rw [Nat.zero_add]
   exact (s2 i hi).at (fun j u hu=>hcell i hi j u hu) hv
 ·rcases s3.cell with h|⟨g',e1,hcell⟩
  ·exact .inl h
  ·refine .inr ⟨g',0,e1,fun i hi=>?_⟩
   rw [Nat.zero_add]
   exact (hY i hi).2 g' hcell
theorem TO.prob {w w0:World} {B:Nat} {P:Prob} {v:Value} (h:TO w B P v) (hP:PQ w0 P) (hK:P.K≤1048576):∃ Q:Prob,v=Q.val∧PQ w Q∧Tid P Q∧TOc w B P Q:=h.probn hP (by have:=hP.all;have:=dI P.ZV P.vn;omega)
def Wd (d:Nat) (D:Int) (r:Rat):Prop:=0<D∧D<pw d∧∃ m:Int,r*(D:Rat)=(m:Rat)∧(m.natAbs:Int)<pw d
theorem Wd.sz {d:Nat} {D:Int} {r:Rat} (h:Wd d D r) (h1:1≤d):SzR r d:=by
 obtain ⟨h0,hd,m,e,hm⟩:=h
 have hD0:(D:Rat)≠0:=by
  intro e
  have:D=0:=by exact_mod_cast e
  omega
 have e2:r=Rat.divInt m D:=by rw [Rat.divInt_eq_div,← e,Rat.div_def,Rat.mul_assoc,Rat.mul_inv_cancel _ hD0,Rat.mul_one]
 rw [e2]
 exact jP hm (by omega) h1
theorem Wd.mul {d e:Nat} {D E:Int} {r s:Rat} (h:Wd d D r) (k:Wd e E s):Wd (d+e) (D*E) (r*s):=by
 obtain ⟨h1,h2,m,h3,h4⟩:=h
 obtain ⟨k1,k2,n,k3,k4⟩:=k
 refine ⟨Int.mul_pos h1 k1,(iT (Int.le_of_lt h1) h2 (Int.le_of_lt k1) k2).1,m*n,?_,mul_lt h4 k4⟩
 rw [Rat.intCast_mul,Rat.intCast_mul,← h3,← k3]
 grind
theorem Wd.one {e:Nat} {E:Int} (hE:0<E) (he:E<pw e):Wd e E 1:=⟨hE,he,E,Rat.one_mul _,by omega⟩
theorem Wd.lift {d e:Nat} {D E:Int} {r:Rat} (h:Wd d D r) (hE:0<E) (he:E<pw e):Wd (d+e) (D*E) r:=by
 have h1:=h.mul (Wd.one hE he)
 rwa [Rat.mul_one] at h1
theorem Wd.lift' {d e:Nat} {D E:Int} {r:Rat} (h:Wd d D r) (hE:0<E) (he:E<pw e):Wd (e+d) (E*D) r:=by
 rw [Int.mul_comm,Nat.add_comm];exact h.lift hE he
theorem Wd.up {d e:Nat} {D:Int} {r:Rat} (h:Wd d D r) (hd:d≤e):Wd e D r:=by
 obtain ⟨h1,h2,m,h3,h4⟩:=h
 have:=aT hd
 exact ⟨h1,by omega,m,h3,by omega⟩
theorem Wd.neg {d:Nat} {D:Int} {r:Rat} (h:Wd d D r):Wd d D (-r):=by
 obtain ⟨h1,h2,m,h3,h4⟩:=h
 exact ⟨h1,h2,-m,by rw [Rat.neg_mul,h3,Rat.intCast_neg],by omega⟩
theorem Wd.zero {d:Nat} {D:Int} (hD:0<D) (hd:D<pw d):Wd d D 0:=⟨hD,hd,0,by rw [Rat.zero_mul];rfl,by have:=bG d;simpa using this⟩
theorem Wd.add {d:Nat} {D:Int} {r s:Rat} (h:Wd d D r) (k:Wd d D s):Wd (d+1) D (r+s):=by
 obtain ⟨h1,h2,m,h3,h4⟩:=h
 obtain ⟨_,_,n,k3,k4⟩:=k
 have:=aT (show d≤d+1 by omega)
 refine ⟨h1,by omega,m+n,by rw [Rat.add_mul,h3,k3,Rat.intCast_add],add_lt h4 k4⟩
theorem Wd.sub {d:Nat} {D:Int} {r s:Rat} (h:Wd d D r) (k:Wd d D s):Wd (d+1) D (r-s):=by
 rw [Rat.sub_eq_add_neg];exact h.add k.neg
theorem Wd.self {r:Rat} {T:Nat} (h:SzR r T):Wd T (r.den:Int) r:=by
 refine ⟨by have:=r.den_pos;omega,h.2,r.num,?_,h.1⟩
 have hd:(((r.den:Int)):Rat)≠0:=by
  intro e
  have e2:(r.den:Int)=0:=by exact_mod_cast e
  have:=r.den_pos
  omega
 have e1:r=(r.num:Rat)/((r.den:Int):Rat):=by rw [← Rat.divInt_eq_div,Rat.num_divInt_den]
 have e2:r*((r.den:Int):Rat)=(r.num:Rat)/((r.den:Int):Rat)*((r.den:Int):Rat):=congrArg (· * ((r.den:Int):Rat)) e1
 rw [e2,Rat.div_mul_cancel hd]
theorem Wd.sum {Y:Nat→Rat} {d n:Nat} {D:Int} (hD:0<D) (hd:D<pw d) (h:∀ i,i<n→Wd d D (Y i)) (hn:n≤18446744073709551615):∀ k,k≤n→Wd (d+1) D (bJ Y k):=by
 have H:∀ k,k≤n→∃ m:Int,bJ Y k*(D:Rat)=(m:Rat)∧(m.natAbs:Int)≤(k:Int)*pw d:=by
  intro k
  induction k with
  | zero=>intro _;exact ⟨0,by show (0:Rat)*_=_;rw [Rat.zero_mul];rfl,by simp⟩
  | succ k ih =>
   intro hk
   obtain ⟨m,h1,h2⟩:=ih (by omega)
   obtain ⟨_,_,q,h3,h4⟩:=h k (by omega)
   refine ⟨m+q,by rw [bH,Rat.add_mul,h1,h3,Rat.intCast_add],?_⟩
   rw [show (((k+1:Nat):Int)*pw d)=(k:Int)*pw d+pw d by rw [Int.natCast_add,Int.add_mul,Int.natCast_one,Int.one_mul]]
   omega
 intro k hk
 obtain ⟨m,h1,h2⟩:=H k hk
 have e:=cZ d
 have p:=bG d
 have h3:(k:Int)*pw d≤18446744073709551615*pw d:=Int.mul_le_mul_of_nonneg_right (by omega) (Int.le_of_lt p)
 exact ⟨hD,by omega,m,h1,by omega⟩
theorem Wd.fam {Z:Nat→Nat} {D:Nat→Int} {X:Nat→Nat→Rat} {N:Nat→Nat}:∀ n,(∀ i,i<n→0<D i∧D i<pw (Z i)∧∀ k,k<N i→Wd (Z i) (D i) (X i k))→∃ E,0<E∧E<pw (tot Z n)∧∀ i,i<n→∀ k,k<N i→Wd (tot Z n) E (X i k)
 | 0,_=>⟨1,by decide,by show (1:Int)<pw 1;decide,fun i hi=>by omega⟩
 | n+1,h=>by
  obtain ⟨E,e1,e2,e3⟩:=Wd.fam n (fun i hi=>h i (by omega))
  obtain ⟨d1,d2,d3⟩:=h n (by omega)
  have q:=iT (Int.le_of_lt e1) e2 (Int.le_of_lt d1) d2
  have ht:tot Z (n+1)=tot Z n+Z n+1:=rfl
  refine ⟨E*D n,Int.mul_pos e1 d1,Int.lt_of_lt_of_le q.1 (aT (by omega)),fun i hi k hk=>?_⟩
  rcases (by omega:i<n∨i=n) with hl|rfl
  ·exact ((e3 i hl k hk).lift d1 d2).up (by omega)
  ·exact ((d3 k hk).lift' e1 e2).up (by omega)
theorem Wd.list {X:Nat→Rat} {Z:Nat→Nat} {n K:Nat} (h:∀ i,i<n→SzR (X i) (Z i)) (hK:tot Z n≤K):∃ D,0<D∧D<pw K∧∀ i,i<n→Wd K D (X i):=by
 obtain ⟨E,e1,e2,e3⟩:=Wd.fam (Z:=Z) (D:=fun i=>((X i).den:Int)) (X:=fun i _=>X i) (N:=fun _=>1) n (fun i hi=>⟨(Wd.self (h i hi)).1,(Wd.self (h i hi)).2.1,fun _ _=>Wd.self (h i hi)⟩)
 exact ⟨E,e1,Int.lt_of_lt_of_le e2 (aT hK),fun i hi=>(e3 i hi 0 (by decide)).up hK⟩
theorem PQ.row {w:World} {P:Prob} (hP:PQ w P) {i:Nat} (hi:i<P.rn):∃ b o,RowAt w b o (P.R i) (P.ZR i):=by
 rcases hP.r with h0|⟨b,o,_,h⟩
 ·omega
 ·exact ⟨_,_,h i hi⟩
theorem PQ.var {w:World} {P:Prob} (hP:PQ w P) {j:Nat} (hj:j<P.vn):∃ b o,VarAt w b o (P.V j) (P.ZV j):=by
 rcases hP.v with h0|⟨b,o,_,h⟩
 ·omega
 ·exact ⟨_,_,h j hj⟩
theorem PQ.nt_le {w:World} {P:Prob} (hP:PQ w P) {i:Nat} (hi:i<P.rn):(P.R i).nt≤P.K:=by
 obtain ⟨b,o,hR⟩:=hP.row hi
 obtain ⟨a,cap,Z,_,h2,h3,_⟩:=hR.terms
 have:=dI Z (P.R i).nt
 have:=bY (Z:=P.ZR) hi
 have:=hP.all
 omega
def VarG (w:World) (g o:Nat) (v:PV) (S:Nat):Prop :=
 ∃ p1 a1 n1 k1 d1 m1 l1 p2 a2 n2 k2 d2 m2 l2 p3 a3 n3 k3 d3 m3 l3,(∀ j u,[.string v.nm,.bool p1,.slice a1 n1 k1,.slice d1 m1 l1,.bool v.hlo,.bool p2,.slice a2 n2 k2,.slice d2 m2 l2,.bool v.hhi,.bool p3,.slice a3 n3 k3,.slice d3 m3 l3,.bool v.whole][j]? = some u→w.cell? ⟨g,o+j,none⟩=some u)∧GR w 0 p1 a1 n1 k1 d1 m1 l1 v.obj S∧GR w 0 p2 a2 n2 k2 d2 m2 l2 v.lo S∧GR w 0 p3 a3 n3 k3 d3 m3 l3 v.hi S
theorem VarG.below {w w':World} {g o:Nat} {v:PV} {S:Nat} (h:VarG w g o v S) (hb:Below w.heap.size w w'):VarG w' g o v S:=by
 obtain ⟨p1,a1,n1,k1,d1,m1,l1,p2,a2,n2,k2,d2,m2,l2,p3,a3,n3,k3,d3,m3,l3,e,g1,g2,g3⟩:=h
 exact ⟨p1,a1,n1,k1,d1,m1,l1,p2,a2,n2,k2,d2,m2,l2,p3,a3,n3,k3,d3,m3,l3,fun j u hu=>aG hb (e j u hu),g1.below hb,g2.below hb,g3.below hb⟩
def LG (w:World) (va:Option Addr) (n:Nat) (V:Nat→PV) (S:Nat):Prop:=n=0∨∃ g,va=some ⟨g,0,none⟩∧∀ j,j<n→VarG w g (j*13) (V j) S
theorem LG.below {w w':World} {va:Option Addr} {n:Nat} {V:Nat→PV} {S:Nat} (h:LG w va n V S) (hb:Below w.heap.size w w'):LG w' va n V S:=by
 rcases h with h|⟨g,e,h⟩
 ·exact .inl h
 ·exact .inr ⟨g,e,fun j hj=>(h j hj).below hb⟩
def LTG (w:World) (ta:Option Addr) (n:Nat) (t:Nat→PT) (S:Nat):Prop:=n=0∨∃ g,ta=some ⟨g,0,none⟩∧∀ i,i<n→∃ p a na ca d nd cd,w.cell? ⟨g,i*4,none⟩=some (.int .i64 (t i).var)∧w.cell? ⟨g,i*4+1,none⟩=some (.bool p)∧w.cell? ⟨g,i*4+2,none⟩=some (.slice a na ca)∧w.cell? ⟨g,i*4+3,none⟩=some (.slice d nd cd)∧GR w 0 p a na ca d nd cd (t i).coef S
theorem LTG.below {w w':World} {ta:Option Addr} {n:Nat} {t:Nat→PT} {S:Nat} (h:LTG w ta n t S) (hb:Below w.heap.size w w'):LTG w' ta n t S:=by
 rcases h with h|⟨g,e,h⟩
 ·exact .inl h
 ·refine .inr ⟨g,e,fun i hi=>?_⟩
  obtain ⟨p,a,na,ca,d,nd,cd,h1,h2,h3,h4,h5⟩:=h i hi
  exact ⟨p,a,na,ca,d,nd,cd,aG hb h1,aG hb h2,aG hb h3,aG hb h4,h5.below hb⟩
def RowG (w:World) (g o:Nat) (r:PW) (S:Nat):Prop :=
 ∃ ta tc p2 a2 n2 k2 d2 m2 l2 p3 a3 n3 k3 d3 m3 l3,(∀ j u,[.string r.nm,.slice ta r.nt tc,.bool r.hlo,.bool p2,.slice a2 n2 k2,.slice d2 m2 l2,.bool r.hhi,.bool p3,.slice a3 n3 k3,.slice d3 m3 l3][j]? = some u→w.cell? ⟨g,o+j,none⟩=some u)∧LTG w ta r.nt r.t S∧GR w 0 p2 a2 n2 k2 d2 m2 l2 r.lo S∧GR w 0 p3 a3 n3 k3 d3 m3 l3 r.hi S
structure TG (w:World) (Q:Prob) (S:Nat):Prop where
 v:LG w Q.va Q.vn Q.V S
 r:Q.rn=0∨∃ g,Q.ra=some ⟨g,0,none⟩∧∀ i,i<Q.rn→RowG w g (i*10) (Q.R i) S
 t:∀ i,i<Q.rn→∀ q,q<(Q.R i).nt→0≤((Q.R i).t q).var∧((Q.R i).t q).var<(Q.vn:Int)
theorem TG.of {w:World} {B S:Nat} {P Q:Prob} (h:TOc w B P Q) (ht:Tid P Q) (hP:PQ w Q) (hS:Q.K≤S):TG w Q S:=by
 have hall:=hP.all
 have hZV:∀ j,j<P.vn→P.ZV j≤S:=fun j hj=>by
  have:=bY (Z:=Q.ZV) (n:=Q.vn) (i:=j) (by rw [ht.vn];exact hj)
  rw [ht.ZV] at this
  rw [ht.ZV] at hall
  omega
 have hZR:∀ j,j<P.rn→P.ZR j≤S:=fun j hj=>by
  have:=bY (Z:=Q.ZR) (n:=Q.rn) (i:=j) (by rw [ht.rn];exact hj)
  rw [ht.ZR] at this
  rw [ht.ZR] at hall
  omega
 refine ⟨?_,?_,?_⟩
 ·obtain ⟨E,hs,hV⟩:=h.v
  rcases hs.cell with h0|⟨g,e,hc⟩
  ·exact .inl (by rw [ht.vn];exact h0)
  ·refine .inr ⟨g,e,fun j hj=>?_⟩
   rw [ht.vn] at hj
   obtain ⟨p1,a1,n1,k1,d1,m1,l1,p2,a2,n2,k2,d2,m2,l2,p3,a3,n3,k3,d3,m3,l3,e1,g1,g2,g3⟩:=hV j hj
   have hcj:=hc j hj
   rw [e1] at hcj
   rw [ht.V j]
   exact ⟨p1,a1,n1,k1,d1,m1,l1,p2,a2,n2,k2,d2,m2,l2,p3,a3,n3,k3,d3,m3,l3,hcj,(g1.mono (Nat.zero_le _)).le (hZV j hj),(g2.mono (Nat.zero_le _)).le (hZV j hj),(g3.mono (Nat.zero_le _)).le (hZV j hj)⟩
 ·obtain ⟨E,hs,hR⟩:=h.r
  rcases hs.cell with h0|⟨g,e,hc⟩
  ·exact .inl (by rw [ht.rn];exact h0)
  ·refine .inr ⟨g,e,fun i hi=>?_⟩
   have hi':i<P.rn:=by rw [← ht.rn];exact hi
   obtain ⟨v,m,u,Z,p2,a2,n2,k2,d2,m2,l2,p3,a3,n3,k3,d3,m3,l3,e1,g1,z1,z2,t1,g2,g3⟩:=hR i hi'
   have hcj:=hc i hi'
   rw [e1] at hcj
   obtain ⟨e2,e3,e4,e5,e6,g4⟩:=ht.R i hi'
   obtain ⟨hm,hu⟩:=g1.uniq g4 (fun _ _ _=>rfl)
   obtain ⟨ta,tc,rfl,htc⟩:=t1.form
   rw [← e2,← e3,← e5] at hcj
   rw [← e4] at g2
   rw [← e6] at g3
   have hcj2:=hcj
   rw [hm] at hcj2
   obtain ⟨rb,ro,hRow⟩:=hP.row hi
   obtain ⟨ta2,tc2,Zt,_,hLT,htot,_⟩:=hRow.terms
   have hZ2:Q.ZR i≤S:=by
    have:=bY (Z:=Q.ZR) (n:=Q.rn) hi
    omega
   refine ⟨ta,tc,p2,a2,n2,k2,d2,m2,l2,p3,a3,n3,k3,d3,m3,l3,hcj2,?_,(g2.mono (Nat.zero_le _)).le (hZR i hi'),(g3.mono (Nat.zero_le _)).le (hZR i hi')⟩
   obtain ⟨E2,s1,s2⟩:=t1
   rcases s1.cell with h0|⟨g',ea,hcell⟩
   ·exact .inl (by rw [← hm];exact h0)
   ·refine .inr ⟨g',ea,fun q hq=>?_⟩
    have hq':q<m:=by rw [hm];exact hq
    obtain ⟨p,a,na,ca,d,nd,cd,e7,gc⟩:=s2 q hq'
    have hk:=hcell q hq'
    rw [e7] at hk
    obtain ⟨v1,v2⟩:=hu q hq'
    rw [v1] at hk
    have hz:=(hLT.get q hq).1.le (show Zt q≤S by have:=bY (Z:=Zt) hq;omega)
    exact ⟨p,a,na,ca,d,nd,cd,by simpa using hk 0 _ rfl,hk 1 _ rfl,hk 2 _ rfl,hk 3 _ rfl,((gc.val v2).fit hz).mono (Nat.zero_le _)⟩
 ·intro i hi q hq
  have hi':i<P.rn:=by rw [← ht.rn];exact hi
  obtain ⟨_,_,_,_,_,g4⟩:=ht.R i hi'
  have:=g4.lt q hq
  rw [ht.vn]
  exact this
end Go.Proofs.YtmeimjakdheidaaGreatDoor

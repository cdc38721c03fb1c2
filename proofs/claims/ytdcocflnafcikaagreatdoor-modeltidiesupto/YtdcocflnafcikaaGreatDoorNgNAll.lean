import Derived.Test.YtdcocflnafcikaaGreatDoorPtF
import Derived.Test.YtdcocflnafcikaaGreatDoorPqAAll
import Derived.Test.YtdcocflnafcikaaGreatDoorApKAll
import Derived.Test.YtdcocflnafcikaaGreatDoorApO
import Derived.Test.YtdcocflnafcikaaGreatDoorPrDAll
import Derived.Test.YtdcocflnafcikaaGreatDoorPqFAll
import Derived.Test.YtdcocflnafcikaaGreatDoorPqEAll
import Derived.StringKeys
set_option maxRecDepth 100000
set_option maxHeartbeats 4000000
namespace Go.Proofs.YtdcocflnafcikaaGreatDoor
open Go.RowKit
theorem jS {w:World} {b o:Nat} {Pd:List Value→Prop} {p:Bool} {a:Option Addr} {na ca:Nat} {d:Option Addr} {nd cd:Nat} {l:List Value} (e:l=[.bool p,.slice a na ca,.slice d nd cd]) (hp:Pd l) (h0:w.cell? ⟨b,o,none⟩=some (.bool p)) (h1:w.cell? ⟨b,o+1,none⟩=some (.slice a na ca)) (h2:w.cell? ⟨b,o+2,none⟩=some (.slice d nd cd)):NX w b o Pd:=by
 subst e;exact ⟨p,a,na,ca,d,nd,cd,h0,h1,h2,hp⟩
theorem NG.nmx {w:World} {lo hi:Nat} {l:List Value} {r:Rat} {S:Nat} (h:NG w lo hi l r S) (hS:S≤1000000000):NmX w lo hi l:=by
 obtain ⟨p,a,na,ca,d,nd,cd,rfl,h1,h2⟩:=h
 obtain ⟨xs,x1,x2,x3,x4⟩:=h1.1.parts.2
 obtain ⟨ys,y1,y2,y3,y4⟩:=h1.2
 exact ⟨p,_,_,xs,ys,rfl,x1,y1,by omega,by omega,fun g hg=>⟨(h1.blk g hg).1,h2 g hg⟩,h1.3⟩
structure FG {α:Type} (P:Prob) (F:Nat→α) (k0:α) (o lo hi rl rh:Nat→α) (t:Nat→Nat→α):Prop where
 k:F 0=k0
 v:∀ j,j<P.vn→F (1+3*j)=o j∧F (1+3*j+1)=lo j∧F (1+3*j+2)=hi j
 r:∀ i,i<P.rn→F (aQ P i)=rl i∧F (aQ P i+1)=rh i∧∀ k,k<(P.R i).nt→F (aQ P i+2+k)=t i k
theorem FG.exists {α:Type} (P:Prob) (k0:α) (o lo hi rl rh:Nat→α) (t:Nat→Nat→α):∃ F,FG P F k0 o lo hi rl rh t:=by
 have H:∀ m,∃ F:Nat→α,F 0=k0∧(∀ j,j<P.vn→F (1+3*j)=o j∧F (1+3*j+1)=lo j∧F (1+3*j+2)=hi j)∧∀ i,i<m→F (aQ P i)=rl i∧F (aQ P i+1)=rh i∧∀ k,k<(P.R i).nt→F (aQ P i+2+k)=t i k:=by
  intro m
  induction m with
  | zero =>
   refine ⟨fun x=>if x=0 then k0 else if (x-1)%3=0 then o ((x-1)/3) else if (x-1)%3=1 then lo ((x-1)/3) else hi ((x-1)/3),rfl,fun j _=>⟨?_,?_,?_⟩,fun i hi=>by omega⟩
   ·show (if 1+3*j=0 then _ else _)=_
    rw [if_neg (by omega),if_pos (by omega),show (1+3*j-1)/3=j by omega]
   ·show (if 1+3*j+1=0 then _ else _)=_
    rw [if_neg (by omega),if_neg (by omega),if_pos (by omega),show (1+3*j+1-1)/3=j by omega]
   ·show (if 1+3*j+2=0 then _ else _)=_
    rw [if_neg (by omega),if_neg (by omega),if_neg (by omega),show (1+3*j+2-1)/3=j by omega]
  | succ m ih =>
   obtain ⟨F,h1,h2,h3⟩:=ih
   have h0:aQ P 0=1+3*P.vn:=rfl
   have hm:=jQ P (Nat.zero_le m)
   refine ⟨fun x=>if x<aQ P m then F x else if x=aQ P m then rl m else if x=aQ P m+1 then rh m else t m (x-aQ P m-2),?_,fun j hj=>⟨?_,?_,?_⟩,fun i hi=>?_⟩
   ·show (if 0<aQ P m then _ else _)=_
    rw [if_pos (by omega)];exact h1
   ·show (if 1+3*j<aQ P m then _ else _)=_
    rw [if_pos (by omega)];exact (h2 j hj).1
   ·show (if 1+3*j+1<aQ P m then _ else _)=_
    rw [if_pos (by omega)];exact (h2 j hj).2.1
   ·show (if 1+3*j+2<aQ P m then _ else _)=_
    rw [if_pos (by omega)];exact (h2 j hj).2.2
   ·rcases (by omega:i<m∨i=m) with h|rfl
    ·have hn:=fV P h
     obtain ⟨g1,g2,g3⟩:=h3 i h
     refine ⟨?_,?_,fun k hk=>?_⟩
     ·show (if aQ P i<aQ P m then _ else _)=_
      rw [if_pos (by omega)];exact g1
     ·show (if aQ P i+1<aQ P m then _ else _)=_
      rw [if_pos (by omega)];exact g2
     ·show (if aQ P i+2+k<aQ P m then _ else _)=_
      rw [if_pos (by omega)];exact g3 k hk
    ·refine ⟨?_,?_,fun k hk=>?_⟩
     ·show (if aQ P i<aQ P i then _ else _)=_
      rw [if_neg (by omega),if_pos rfl]
     ·show (if aQ P i+1<aQ P i then _ else _)=_
      rw [if_neg (by omega),if_neg (by omega),if_pos rfl]
     ·show (if aQ P i+2+k<aQ P i then _ else _)=_
      rw [if_neg (by omega),if_neg (by omega),if_neg (by omega),show aQ P i+2+k-aQ P i-2=k by omega]
 obtain ⟨F,h1,h2,h3⟩:=H P.rn
 exact ⟨F,h1,h2,h3⟩
theorem FamR.one {w:World} {lo hi:Nat} {l:List Value} (h:NmX w lo hi l) {F:Nat→List Value} (hF:F 0=l):FamR w 1 F lo hi :=
 ⟨fun _=>lo,fun _=>hi,fun x hx=>by
  obtain rfl:x=0:=by omega
  rw [hF];exact ⟨Nat.le_refl _,Nat.le_refl _,h⟩,fun x y h1 h2=>by omega⟩
theorem FamR.wide {w:World} {n a b a' b':Nat} {F:Nat→List Value} (h:FamR w n F a b) (ha:a'≤a) (hb:b≤b'):FamR w n F a' b':=by
 obtain ⟨l,r,e1,e2⟩:=h
 exact ⟨l,r,fun x hx=>⟨Nat.le_trans ha (e1 x hx).1,Nat.le_trans (e1 x hx).2.1 hb,(e1 x hx).2.2⟩,e2⟩
theorem FamR.congr {w:World} {n a b:Nat} {F G:Nat→List Value} (h:FamR w n F a b) (hG:∀ x,x<n→G x=F x):FamR w n G a b:=by
 obtain ⟨l,r,e1,e2⟩:=h
 exact ⟨l,r,fun x hx=>by rw [hG x hx];exact e1 x hx,e2⟩
theorem FamR.cat2 {w:World} {n m a b a' b' A C:Nat} {F:Nat→List Value} (h:FamR w n F a b) (k:FamR w m (fun x=>F (n+x)) a' b') (h1:A≤a) (h2:A≤a') (h3:b≤C) (h4:b'≤C) (ho:b≤a'∨b'≤a):FamR w (n+m) F A C:=by
 obtain ⟨l,r,e1,e2⟩:=h
 obtain ⟨l',r',k1,k2⟩:=k
 refine ⟨fun x=>if x<n then l x else l' (x-n),fun x=>if x<n then r x else r' (x-n),fun x hx=>?_,fun x y hxy hy=>?_⟩
 ·by_cases hn:x<n
  ·simp only [hn,if_true]
   obtain ⟨q1,q2,q3⟩:=e1 x hn
   exact ⟨by omega,by omega,q3⟩
  ·simp only [hn,if_false]
   obtain ⟨q1,q2,q3⟩:=k1 (x-n) (by omega)
   have q4:NmX w (l' (x-n)) (r' (x-n)) (F (n+(x-n))):=q3
   rw [show n+(x-n)=x by omega] at q4
   exact ⟨by omega,by omega,q4⟩
 ·by_cases hn:y<n
  ·have hn2:x<n:=by omega
   simp only [hn,hn2,if_true]
   exact e2 x y hxy hn
  ·by_cases hn2:x<n
   ·simp only [hn,hn2,if_true,if_false]
    obtain ⟨q1,q2,_⟩:=e1 x hn2
    obtain ⟨q3,q4,_⟩:=k1 (y-n) (by omega)
    rcases ho with h|h <;> omega
   ·simp only [hn,hn2,if_false]
    exact k2 (x-n) (y-n) (by omega) (by omega)
theorem FamR.seq {w:World} {m:Nat} {F:Nat→List Value} {lo:Nat→Nat} (h:∀ q,q<m→lo q≤lo (q+1)) (hx:∀ q,q<m→NmX w (lo q) (lo (q+1)) (F q)):FamR w m F (lo 0) (lo m) :=
 ⟨lo,fun q=>lo (q+1),fun x hx'=>⟨RA.le0 h x (by omega) 0 (Nat.zero_le _),RA.le0 h m (Nat.le_refl _) (x+1) (by omega),hx x hx'⟩,fun x y hxy hy=>.inl (RA.le0 h y (by omega) (x+1) (by omega))⟩
theorem NmX.form3 {w:World} {lo hi:Nat} {l:List Value} (h:NmX w lo hi l):∃ p a na ca d nd cd,l=[.bool p,.slice a na ca,.slice d nd cd]:=by
 obtain ⟨f,u,v,xs,ys,rfl,h1,h2,_⟩:=h
 obtain ⟨a1,c1,rfl⟩:=h1.slice
 obtain ⟨a2,c2,rfl⟩:=h2.slice
 exact ⟨_,_,_,_,_,_,_,rfl⟩
structure PSp (B C:Nat) (Q:Prob) (tv:Nat→Value):Prop where
 v:∀ g,(Value.slice Q.va Q.vn Q.vc).ownBlock=some g→B≤g∧g<C
 r:∀ g,(Value.slice Q.ra Q.rn Q.rc).ownBlock=some g→B≤g∧g<C
 t:∀ i,i<Q.rn→∀ g,(tv i).ownBlock=some g→B≤g∧g<C
 d:∀ i j,i<Q.rn→j<Q.rn→i≠j→∀ g,(tv i).ownBlock=some g→(tv j).ownBlock≠some g
theorem TOA.pap {w w0:World} {B C:Nat} {P:Prob} {v:Value} (h:TOA w B C P v) (hP:PQ w0 P) (hK:P.K≤1048576) :
 ∃ (Q:Prob) (c:Nat→List Value) (EV ER:Nat→List Value) (xv xr tv:Nat→Value) (ET:Nat→Nat→List Value) (xt:Nat→Nat→Value),v=Q.val∧PQ w Q∧Tid P Q∧TOc w B P Q∧PAp w B Q c B C EV ER xv xr tv ET xt∧PSp B C Q tv:=by
 obtain ⟨Q,eQ,pQ,tQ,oQ⟩:=h.to.prob hP hK
 obtain ⟨f,c,n,k,c',n',k',va,vc,ra,rc,E,F,s1,s2,e,g0,SV,⟨lv,V1,V2,V3⟩,SR,⟨lr,R1,R2,R3⟩,a1,a2,a3,b1,b2⟩:=h
 have hall:=hP.all
 have hvn:=tQ.vn
 have hrn:=tQ.rn
 have ee:=eQ.symm.trans e
 unfold Prob.val at ee
 simp only [Value.agg.injEq,Array.mk.injEq,List.cons.injEq,Value.bool.injEq,Value.slice.injEq,and_true] at ee
 obtain ⟨_,_,rfl,⟨rfl,rfl,rfl⟩,⟨rfl,rfl,rfl⟩,⟨rfl,_,rfl⟩,rfl,_,rfl⟩:=ee
 have hZV:∀ q,q<P.vn→P.ZV q≤1048576:=fun q hq=>by have:=dF (Z:=P.ZV) hq;omega
 have hZR:∀ q,q<P.rn→P.ZR q≤1048576:=fun q hq=>by have:=dF (Z:=P.ZR) hq;omega
 have HV:∀ q,∃ L:List Value × List Value × List Value,q<P.vn→∃ x0 x1 x2 x3 s s',E q=x0::(L.1++x1::(L.2.1++x2::(L.2.2++[x3])))∧lv q≤s∧s≤s'∧s'≤lv (q+1)∧NmX w (lv q) s L.1∧NmX w s s' L.2.1∧NmX w s' (lv (q+1)) L.2.2:=fun q=>by
  by_cases hq:q<P.vn
  ·obtain ⟨t1,t2,l1,l2,l3,e1,g1,g2,g3,y1,y2,y3⟩:=(V1 q hq).2
   have hz:=hZV q hq
   exact ⟨(l1,l2,l3),fun _=>⟨_,_,_,_,t1,t2,e1,y1,y2,y3,g1.nmx (by omega),g2.nmx (by omega),g3.nmx (by omega)⟩⟩
  ·exact ⟨([],[],[]),fun h=>absurd h hq⟩
 obtain ⟨LV,hLV⟩:=Classical.axiomOfChoice HV
 have HR:∀ i,∃ L:Value × (List Value × List Value) × (Nat→List Value) × (Nat→Value) × (Nat→List Value),i<P.rn→∃ x0 x2 x3 s s',F i=x0::L.1::x2::(L.2.1.1++x3::L.2.1.2)∧lr i≤s∧s≤s'∧s'≤lr (i+1)∧SL w (lr i) 62 4 L.1 (Q.R i).nt L.2.2.1∧(∀ q,q<(Q.R i).nt→L.2.2.1 q=L.2.2.2.1 q::L.2.2.2.2 q)∧(∀ g,L.1.ownBlock=some g→g<s)∧FamR w (Q.R i).nt L.2.2.2.2 (lr i) s∧NmX w s s' L.2.1.1∧NmX w s' (lr (i+1)) L.2.1.2:=fun i=>by
  by_cases hi:i<P.rn
  ·obtain ⟨t1,t2,v,m,u,Z,l2,l3,e1,gg,z1,z2,⟨ET,tS,⟨lo,T1,T2,T3⟩,tb⟩,g2,g3,y1,y2,y3⟩:=(R1 i hi).2
   have hz:=hZR i hi
   obtain ⟨em,_⟩:=gg.uniq (tQ.R i hi).2.2.2.2.2 (fun _ _ _=>rfl)
   subst em
   have HT:∀ q,∃ l:List Value,q<(Q.R i).nt→ET q = .int .i64 (u q).var::l∧NmX w (lo q) (lo (q+1)) l:=fun q=>by
    by_cases hq:q<(Q.R i).nt
    ·obtain ⟨_,l,e2,g⟩:=T1 q hq
     refine ⟨l,fun _=>⟨e2,g.nmx ?_⟩⟩
     show zs _ Z (u q).var _-1≤_
     have:=wO (P.R i).t Z (u q).var (P.R i).nt
     omega
    ·exact ⟨[],fun h=>absurd h hq⟩
   obtain ⟨ts,hts⟩:=Classical.axiomOfChoice HT
   refine ⟨(v,(l2,l3),ET,fun q=>.int .i64 (u q).var,ts),fun _=>⟨_,_,_,t1,t2,e1,y1,y2,y3,tS,fun q hq=>(hts q hq).1,tb,(FamR.seq (fun q hq=>(T1 q hq).1) fun q hq=>(hts q hq).2).wide T2 T3,g2.nmx (by omega),g3.nmx (by omega)⟩⟩
  ·exact ⟨(.bool false,([],[]),fun _=>[],fun _=>.bool false,fun _=>[]),fun h=>absurd h hi⟩
 obtain ⟨LR,hLR⟩:=Classical.axiomOfChoice HR
 obtain ⟨c,hc⟩:=FG.exists Q [.bool Q.p,.slice Q.a Q.na Q.ca,.slice Q.d Q.nd Q.cd] (fun j=>(LV j).1) (fun j=>(LV j).2.1) (fun j=>(LV j).2.2) (fun i=>(LR i).2.1.1) (fun i=>(LR i).2.1.2) (fun i q=>(LR i).2.2.2.2 q)
 have LV0:=RA.le0 (fun i hi=>(V1 i hi).1)
 have LR0:=RA.le0 (fun i hi=>(R1 i hi).1)
 have F0:FamR w 1 c B s1:=FamR.one (g0.nmx (by have:=hP.all;omega)) hc.k
 have FV:∀ j,j≤P.vn→FamR w (1+3*j) c B (lv j):=by
  intro j
  induction j with
  | zero=>intro _;exact F0.wide (Nat.le_refl _) V2
  | succ j ih =>
   intro hj
   obtain ⟨x0,x1,x2,x3,s,s',e1,y1,y2,y3,n1,n2,n3⟩:=hLV j hj
   obtain ⟨c1,c2,c3⟩:=hc.v j (by omega)
   have hB:B≤lv j:=by have:=LV0 j (by omega) 0 (Nat.zero_le _);omega
   have G1:FamR w 1 (fun x=>c (1+3*j+x)) (lv j) s:=FamR.one n1 c1
   have G2:FamR w 1 (fun x=>c (1+3*j+(1+x))) s s':=FamR.one n2 c2
   have G3:FamR w 1 (fun x=>c (1+3*j+(1+1+x))) s' (lv (j+1)):=FamR.one n3 c3
   have G12:FamR w (1+1) (fun x=>c (1+3*j+x)) (lv j) s':=FamR.cat2 G1 G2 (Nat.le_refl _) y1 y2 (Nat.le_refl _) (.inl (Nat.le_refl _))
   have G:FamR w (1+1+1) (fun x=>c (1+3*j+x)) (lv j) (lv (j+1)):=FamR.cat2 G12 G3 (Nat.le_refl _) (by omega) y3 (Nat.le_refl _) (.inl (Nat.le_refl _))
   rw [show 1+3*(j+1)=1+3*j+(1+1+1) by omega]
   exact (ih (by omega)).cat2 G (Nat.le_refl _) hB (by omega) (Nat.le_refl _) (.inl (Nat.le_refl _))
 have hsB:B≤lr 0:=by omega
 have FR:∀ i,i≤P.rn→FamR w (aQ Q i) c B (lr i):=by
  intro i
  induction i with
  | zero =>
   intro _
   show FamR w (1+3*Q.vn) c B (lr 0)
   rw [hvn]
   exact (FV P.vn (Nat.le_refl _)).wide (Nat.le_refl _) (by omega)
  | succ i ih =>
   intro hi
   obtain ⟨x0,x2,x3,s,s',e1,y1,y2,y3,tS,tE,tb,tF,n2,n3⟩:=hLR i hi
   obtain ⟨c1,c2,c3⟩:=hc.r i (by omega)
   have hB:B≤lr i:=by have:=LR0 i (by omega) 0 (Nat.zero_le _);omega
   have G1:FamR w 1 (fun x=>c (aQ Q i+x)) s s':=FamR.one n2 c1
   have G2:FamR w 1 (fun x=>c (aQ Q i+(1+x))) s' (lr (i+1)):=FamR.one n3 c2
   have G12:FamR w (1+1) (fun x=>c (aQ Q i+x)) s (lr (i+1)):=FamR.cat2 G1 G2 (Nat.le_refl _) y2 y3 (Nat.le_refl _) (.inl (Nat.le_refl _))
   have G3:FamR w (Q.R i).nt (fun x=>c (aQ Q i+(1+1+x))) (lr i) s:=tF.congr fun x hx=>by rw [← Nat.add_assoc];exact c3 x hx
   have G:FamR w (1+1+(Q.R i).nt) (fun x=>c (aQ Q i+x)) (lr i) (lr (i+1)):=FamR.cat2 G12 G3 y1 (Nat.le_refl _) (Nat.le_refl _) (by omega) (.inr (Nat.le_refl _))
   rw [show aQ Q (i+1)=aQ Q i+(1+1+(Q.R i).nt) from Nat.add_assoc _ _ _]
   exact (ih (by omega)).cat2 G (Nat.le_refl _) hB (by omega) (Nat.le_refl _) (.inl (Nat.le_refl _))
 obtain ⟨G,hG⟩:=pQ.told
 have hsz:=jE pQ hG.ok (by rw [tQ.K];exact hK)
 have TP:TPP w Q (fun x l=>l=c x):=by
  refine ⟨hc.k.symm,?_,?_⟩
  ·rcases SV.cell with h0|⟨gv,eg,cv⟩
   ·exact .inl (by rw [hvn];exact h0)
   ·refine .inr ⟨gv,0,eg,fun j hj=>?_⟩
    have hj':j<P.vn:=by omega
    obtain ⟨x0,x1,x2,x3,s,s',e1,y1,y2,y3,n1,n2,n3⟩:=hLV j hj'
    obtain ⟨c1,c2,c3⟩:=hc.v j hj
    obtain ⟨p1,q1,r1,t1,d1,m1,u1,f1⟩:=n1.form3
    obtain ⟨p2,q2,r2,t2,d2,m2,u2,f2⟩:=n2.form3
    obtain ⟨p3,q3,r3,t3,d3,m3,u3,f3⟩:=n3.form3
    have k:=cv j hj'
    rw [e1,f1,f2,f3] at k
    simp only [Nat.zero_add]
    exact ⟨jS f1 c1.symm (k 1 _ rfl) (k 2 _ rfl) (k 3 _ rfl),jS f2 c2.symm (k 5 _ rfl) (k 6 _ rfl) (k 7 _ rfl),jS f3 c3.symm (k 9 _ rfl) (k 10 _ rfl) (k 11 _ rfl)⟩
  ·rcases SR.cell with h0|⟨gr,eg,cr⟩
   ·exact .inl (by rw [hrn];exact h0)
   ·refine .inr ⟨gr,0,eg,fun i hi=>?_⟩
    have hi':i<P.rn:=by omega
    obtain ⟨x0,x2,x3,s,s',e1,y1,y2,y3,tS,tE,tb,tF,n2,n3⟩:=hLR i hi'
    obtain ⟨c1,c2,c3⟩:=hc.r i hi
    obtain ⟨p2,q2,r2,t2,d2,m2,u2,f2⟩:=n2.form3
    obtain ⟨p3,q3,r3,t3,d3,m3,u3,f3⟩:=n3.form3
    obtain ⟨ta,tcap,et,hcap⟩:=tS.form
    have k:=cr i hi'
    rw [e1,f2,f3,et] at k
    simp only [Nat.zero_add]
    refine ⟨jS f2 c1.symm (k 3 _ rfl) (k 4 _ rfl) (k 5 _ rfl),jS f3 c2.symm (k 7 _ rfl) (k 8 _ rfl) (k 9 _ rfl),ta,tcap,k 1 _ rfl,hcap,?_⟩
    rw [et] at tS
    rcases tS.cell with h0|⟨g,eg2,ct⟩
    ·exact .inl h0
    ·refine .inr ⟨g,0,eg2,fun x hx=>?_⟩
     obtain ⟨l,r,z1,_⟩:=tF
     obtain ⟨p4,q4,r4,t4,d4,m4,u4,f4⟩:=(z1 x hx).2.2.form3
     have kt:=ct x hx
     rw [tE x hx,f4] at kt
     simp only [Nat.zero_add]
     exact jS f4 (c3 x hx).symm (kt 1 _ rfl) (kt 2 _ rfl) (kt 3 _ rfl)
 refine ⟨Q,c,E,F,fun q=>(E q)[0]?.getD (.bool false),fun q=>(F q)[0]?.getD (.bool false),fun i=>(LR i).1,fun i=>(LR i).2.2.1,fun i q=>(LR i).2.2.2.1 q,eQ,pQ,tQ,oQ,⟨pQ,by rw [tQ.K];exact hK,hsz,TP,by rw [hrn];exact (FR P.rn (Nat.le_refl _)).wide (Nat.le_refl _) R3,by rw [hvn];exact SV,fun q hq=>?_,by rw [hrn];exact SR,fun q hq=>?_,fun q hq=>?_,fun i hi q hq=>?_,fun i hi=>?_⟩,⟨fun g hg=>?_,fun g hg=>?_,fun i hi g hg=>?_,fun i j hi hj hij g hg hg'=>?_⟩⟩
 ·obtain ⟨x0,x1,x2,x3,s,s',e1,_⟩:=hLV q (by omega)
  exact ⟨_,by rw [e1];rfl⟩
 ·obtain ⟨x0,x2,x3,s,s',e1,_⟩:=hLR q (by omega)
  exact ⟨_,by rw [e1];rfl⟩
 ·obtain ⟨x0,x2,x3,s,s',e1,y1,y2,y3,tS,_⟩:=hLR q (by omega)
  have:=LR0 q (by omega) 0 (Nat.zero_le _)
  exact tS.mono (by omega)
 ·obtain ⟨x0,x2,x3,s,s',e1,y1,y2,y3,tS,tE,_⟩:=hLR i (by omega)
  exact ⟨_,tE q hq⟩
 ·have h1:=hsz Q.rn (Nat.le_refl _)
  have h2:=fV Q hi
  omega
 ·rw [hvn] at hg
  exact ⟨(SV.lt g hg).1,b1 g hg⟩
 ·rw [hrn] at hg
  exact ⟨(SR.lt g hg).1,b2 g hg⟩
 ·obtain ⟨x0,x2,x3,s,s',e1,y1,y2,y3,tS,tE,tb,_⟩:=hLR i (by omega)
  have h1:=(tS.lt g hg).1
  have h2:=tb g hg
  have h3:=LR0 i (by omega) 0 (Nat.zero_le _)
  have h4:=LR0 P.rn (Nat.le_refl _) (i+1) (by omega)
  exact ⟨by omega,by omega⟩
 ·obtain ⟨x0,x2,x3,s,s',e1,y1,y2,y3,tS,tE,tb,_⟩:=hLR i (by omega)
  obtain ⟨x0',x2',x3',z,z',e1',y1',y2',y3',tS',tE',tb',_⟩:=hLR j (by omega)
  have h1:=(tS.lt g hg).1
  have h2:=tb g hg
  have h3:=(tS'.lt g hg').1
  have h4:=tb' g hg'
  rcases (by omega:i<j∨j<i) with h|h
  ·have h5:=LR0 j (by omega) (i+1) (by omega)
   omega
  ·have h5:=LR0 i (by omega) (j+1) (by omega)
   omega
end Go.Proofs.YtdcocflnafcikaaGreatDoor
namespace Go.Proofs.YtdcocflnafcikaaGreatDoor
open Go.RowKit Go.Maps
def kS (s:ByteArray):Lit:=.string s.data.toList
theorem lF {s t:ByteArray} (h:kS s=kS t):s=t:=by
 simp only [kS,Lit.string.injEq] at h
 exact ByteArray.ext (Array.toList_inj.1 h)
theorem kM (s:ByteArray):WideAt.IsKeyLit (kS s):=trivial
theorem keyS {s:ByteArray} (h:s.size≤1000000000):keyOf Tryz.prog 9 (.string s)=some (kS s):=Go.WideMaps.keyOf_string_mk Tryz.underlying9 (by unfold maxLen;omega)
def stq (ns:List ByteArray) (s:ByteArray):List ByteArray:=if s.data.toList=[]∨s.data.toList ∈ ns.map (·.data.toList) then ns else ns++[s]
theorem xC {ns:List ByteArray} {s:ByteArray}:s.data.toList ∈ ns.map (·.data.toList)↔s ∈ ns:=by
 rw [List.mem_map]
 constructor
 ·rintro ⟨t,h1,h2⟩
  have:t=s:=lF (by unfold kS;rw [h2])
  rw [← this];exact h1
 ·intro h;exact ⟨s,h,rfl⟩
structure Pl (w:World) (B p q b:Nat) (D:DataW Value) (ns:List ByteArray):Prop where
 cp:Rw 107 w p #[.map (some b)]
 nm:∃ v E,Rw 108 w q #[v]∧SL w B 9 1 v ns.length E∧∀ (i:Nat) s,ns[i]? = some s→E i=[.string s]
 own:w.ownsMap Tryz.prog 9 iQ b ns.length D
 idx:∀ (j:Nat) s,ns[j]? = some s→D.atKey (kS s) (.held (.int .i64 0)) = .held (.int .i64 (j:Int))
 has:∀ s,Maps.has D (kS s)=true↔s ∈ ns
 bp:B≤p
 bq:B≤q
 bb:B≤b
 bs:B≤w.heap.size
structure FK (q b:Nat) (w w':World):Prop where
 os:w'.os=w.os
 tape:w'.tape=w.tape
 output:w'.output=w.output
 size:w.heap.size≤w'.heap.size
 block:∀ k,k<w.heap.size→k≠q→k≠b→(∀ cur,w.heap[k]? ≠ some (.cells cur 9 (0,0)))→w'.heap[k]? = w.heap[k]?
theorem FK.refl (q b:Nat) (w:World):FK q b w w:=⟨rfl,rfl,rfl,Nat.le_refl _,fun _ _ _ _ _=>rfl⟩
theorem FK.trans {q b:Nat} {w w1 w2:World} (h:FK q b w w1) (k:FK q b w1 w2):FK q b w w2 :=
 ⟨k.os.trans h.os,k.tape.trans h.tape,k.output.trans h.output,Nat.le_trans h.size k.size,fun i hi h1 h2 h3=>(k.block i (Nat.lt_of_lt_of_le hi h.size) h1 h2 (fun cur e=>h3 cur ((h.block i hi h1 h2 h3).symm.trans e))).trans (h.block i hi h1 h2 h3)⟩
theorem FK.of_below {q b:Nat} {w w':World} (h:Below w.heap.size w w'):FK q b w w':=⟨h.os,h.tape,h.output,h.size,fun k hk _ _ _=>h.block k hk⟩
theorem FK.rw {q b:Nat} {w w':World} (h:FK q b w w') {t:TypeId} {R:Nat} {cs:Array Value} (hr:Rw t w R cs) (h1:R≠q) (h2:R≠b) (ht:t≠9):Rw t w' R cs :=
 (h.block R hr.lt h1 h2 (fun cur e=>by unfold Rw at hr;rw [hr] at e;simp only [Option.some.injEq,Obj.cells.injEq] at e;exact ht e.2.1)).trans hr
theorem FK.of_grown {q b:Nat} {w w':World} {row:Option Nat} (hg:w.grownBy w' row) (hr:∀ k,row=some k→k=q∨k=b∨∃ cur,w.heap[k]? = some (.cells cur 9 (0,0))):FK q b w w' :=
 ⟨hg.os,hg.tape,hg.output,hg.size,fun k hk h1 h2 h3=>hg.block k hk fun e=>by
  rcases hr k e.symm with e|e|⟨cur,e⟩
  ·exact h1 e
  ·exact h2 e
  ·exact h3 cur e⟩
theorem SL.cells {w:World} {B:Nat} {T:TypeId} {c:Nat} {v:Value} {n:Nat} {E:Nat→List Value} (h:SL w B T c v n E):∀ g,v.ownBlock=some g→∃ cur,w.heap[g]? = some (.cells cur T (0,0)):=by
 intro g e
 obtain ⟨vs,h1,_⟩:=h
 rcases h1.2 with ⟨rfl,_⟩|⟨g',cap,cur,e1,_,f1,_⟩
 ·cases e
 ·subst e1
  simp [Value.ownBlock] at e
  subst e
  exact ⟨cur,f1⟩
theorem infStr:Inf 9 1 16:=iG (by kernel_rfl)
theorem Pl.below {w w':World} {B p q b:Nat} {D:DataW Value} {ns:List ByteArray} (h:Pl w B p q b D ns) (hb:Below w.heap.size w w'):Pl w' B p q b D ns:=by
 obtain ⟨v,E,h1,h2,h3⟩:=h.nm
 refine ⟨h.cp.below hb,⟨v,E,h1.below hb,h2.below hb,h3⟩,?_,h.idx,h.has,h.bp,h.bq,h.bb,Nat.le_trans h.bs hb.size⟩
 have hl:=h.own.lt
 obtain ⟨es,c,e1,e2⟩:=h.own
 exact ⟨es,c,(hb.block b hl).trans e1,e2⟩
theorem Pl.step {w w1 w2:World} {B p q b:Nat} {D:DataW Value} {ns:List ByteArray} {s:ByteArray} (h:Pl w B p q b D ns) (hs:s ∉ ns) (ho:w1.ownsMap Tryz.prog 9 iQ b (ns.length+1) (D.put (kS s) (.held (.int .i64 (ns.length:Int))))) (hg:w.grownBy w1 (some b))
 {v v':Value} {E:Nat→List Value} (hq:Rw 108 w q #[v]) (hE:∀ (i:Nat) s,ns[i]? = some s→E i=[.string s]) (hS:SL w2 B 9 1 v' (ns.length+1) (fun i=>if i<ns.length then E i else [.string s])) (hg2:w1.grownBy w2 v.ownBlock)
 (hv:v.ownBlock≠some p∧v.ownBlock≠some q∧v.ownBlock≠some b) (hb:∀ k,v'.ownBlock=some k→k≠q) (hpq:p≠q∧p≠b∧q≠b):Pl (w2.setCell ⟨q,0,none⟩ v') B p q b (D.put (kS s) (.held (.int .i64 (ns.length:Int)))) (ns++[s]):=by
 have hM:=h.own.isMap
 have hq2:Rw 108 w2 q #[v]:=(hq.kept hg (fun e=>hpq.2.2 (by cases e;rfl))).kept hg2 hv.2.1
 obtain ⟨hq3,O⟩:=hq2.set 0 v'
 have hS3:=hS.kept O.grown (fun g e e2=>hb g e (by cases e2;rfl))
 refine ⟨?_,⟨v',_,by simpa using hq3,by simpa using hS3,?_⟩,?_,?_,?_,h.bp,h.bq,h.bb,?_⟩
 ·exact (((h.cp.kept hg (fun e=>hpq.2.1 (by cases e;rfl))).kept hg2 hv.1).off O hpq.1)
 ·intro i u hu
  by_cases hi:i<ns.length
  ·rw [List.getElem?_append_left hi] at hu
   rw [if_pos hi]
   exact hE i u hu
  ·rw [List.getElem?_append_right (by omega)] at hu
   rw [if_neg hi]
   have h1:i-ns.length=0:=by
    have:=(List.getElem?_eq_some_iff.1 hu).1
    simp at this
    omega
   rw [h1] at hu
   simp at hu
   rw [hu]
 ·rw [List.length_append]
  refine (ho.kept hg2 (fun e=>hv.2.2 e.symm)).kept O.grown (fun e=>hpq.2.2 (by cases e;rfl))
 ·intro j u hu
  by_cases hj:j<ns.length
  ·rw [List.getElem?_append_left hj] at hu
   rw [atKey_put_other (fun e=>hs (by rw [← lF e];exact List.mem_of_getElem? hu))]
   exact h.idx j u hu
  ·rw [List.getElem?_append_right (by omega)] at hu
   have h1:j-ns.length=0:=by
    have:=(List.getElem?_eq_some_iff.1 hu).1
    simp at this
    omega
   rw [h1] at hu
   simp at hu
   obtain rfl:j=ns.length:=by omega
   rw [← hu,atKey_put_same hM (kM _)]
 ·intro u
  rw [List.mem_append,List.mem_singleton]
  by_cases e:u=s
  ·subst e
   rw [has_put_same hM (kM _)]
   simp
  ·rw [has_put_other (fun e2=>e (lF e2)),h.has u]
   simp [e]
 ·have:=hg.size;have:=hg2.size;have:=O.size;have:=h.bs;omega
end Go.Proofs.YtdcocflnafcikaaGreatDoor
namespace Go.Proofs.YtdcocflnafcikaaGreatDoor
open Go.RowKit Go.Maps
theorem standQ {w:World} {B p q b:Nat} {D:DataW Value} {ns:List ByteArray} (s:ByteArray) (h:Pl w B p q b D ns) (hs:s.size≤1000000000) (hl:ns.length≤1000000000) (hpq:p≠q∧p≠b∧q≠b) :
 Calls Tryz.prog 80 #[.string s,.pointer (some ⟨p,0,none⟩),.pointer (some ⟨q,0,none⟩)] w fun e w'=>e = .returned (.tuple #[])∧∃ D',Pl w' B p q b D' (stq ns s)∧FK q b w w'∧Below B w w':=by
 obtain ⟨v,E,hq,hS,hE⟩:=h.nm
 obtain ⟨na,nc,rfl,hnc⟩:=hS.form
 have c0:=(h.cp.cell 0).trans (show _=some (.map (some b)) from rfl)
 have q0:=(hq.cell 0).trans (show _=some (.slice na ns.length nc) from rfl)
 have q1:=hq.frozen 0
 obtain ⟨x,y,hrun,hx⟩:=h.own.look_ok (string_keyed Tryz.underlying9) (t:=107) (e:=3) Tryz.underlying107 (z:=.int .i64 0) (Tryz.zeroValue3 w) (zd:=.held (.int .i64 0)) (zp:=[]) rfl (keyS hs)
 by_cases he:s.data.toList=[]
 ·have he2:s.toList=[]:=by rw [ByteArray.toList_eq];exact he
  have e1:stq ns s=ns:=by unfold stq;rw [if_pos (.inl he)]
  rw [e1]
  go_enter Tryz.func80,Tryz.ntmps80
  go_wp2
  go_end0
  exact ⟨rfl,D,h,FK.refl _ _ _,Below.refl _ _⟩
 have he2:¬ s.toList=[]:=by rw [ByteArray.toList_eq];exact he
 have he3:s.toList.isEmpty=false:=by simpa using he2
 by_cases hin:s ∈ ns
 ·have hh:Maps.has D (kS s)=true:=(h.has s).2 hin
  rw [hh] at hrun
  have e1:stq ns s=ns:=by unfold stq;rw [if_pos (.inr (xC.2 hin))]
  rw [e1]
  go_enter Tryz.func80,Tryz.ntmps80
  go_wp2
  go_end0
  exact ⟨rfl,D,h,FK.refl _ _ _,Below.refl _ _⟩
 ·have hh:Maps.has D (kS s)=false:=by
   cases e:Maps.has D (kS s)
   ·rfl
   ·exact absurd ((h.has s).1 e) hin
  rw [hh] at hrun
  have e1:stq ns s=ns++[s]:=by unfold stq;rw [if_neg (fun h=>h.elim he (fun h=>hin (xC.1 h)))]
  rw [e1]
  obtain ⟨w1,hrun1,ho,hg⟩:=h.own.update (string_keyed Tryz.underlying9) Tryz.underlying107 (by unfold maxLen;omega) (keyS hs) (val:=.int .i64 (ns.length:Int)) (d:=.held (.int .i64 (ns.length:Int))) (ps:=[]) rfl
  have hs1:=hg.size
  have hbs:=h.bs
  have hmap:∃ es c,w.heap[b]? = some (.map es c):=by obtain ⟨es,c,e,_⟩:=h.own;exact ⟨es,c,e⟩
  have hvb:(Value.slice na ns.length nc).ownBlock≠some b:=by
   obtain ⟨vs,r,_⟩:=hS
   rcases lW r hmap with e|e
   ·rw [e];intro e2;cases e2
   ·exact e
  have hvq:=hS.neR hq (by decide)
  have hvp:=hS.neR h.cp (by decide)
  have hS1:=hS.kept hg (fun g e e2=>hvb (e.trans e2.symm))
  have hq1:=hq.kept hg (fun e=>hpq.2.2 (by cases e;rfl))
  have r0:=(hq1.cell 0).trans (show _=some (.slice na ns.length nc) from rfl)
  have r1:=hq1.frozen 0
  have hB1:B≤w1.heap.size:=by omega
  have HSS:=hS1.below (aG w1 (.cells #[.string s] 9))
  have HPL:Hid (Pl w B p q b D ns):=h
  clear h
  go_enter Tryz.func80,Tryz.ntmps80
  go_wp2_with (at_builtin;refine aV _ rfl _ _ 108 9 1 16 rfl Tryz.underlying108 infStr (by decide) (by decide) B (.slice na ns.length nc) ns.length E rfl HSS w1.heap.size _ rfl [.string s] rfl (fun u hu=>by simp at hu;rw [hu];rfl) (aN w1 #[.string s] 9) (by omega) (by simp;omega) (w1.heap.size+1) (by simp) ?_)
  intro g cap w2 SN hgrow hat _
  have hq2:=(hq1.below (aG w1 (.cells #[.string s] 9))).kept hgrow hvq
  have s0:=(hq2.cell 0).trans (show _=some (.slice na ns.length nc) from rfl)
  have s1:=hq2.frozen 0
  have hg2:w1.grownBy w2 (Value.slice na ns.length nc).ownBlock:=(World.grownBy_alloc w1 (.cells #[.string s] 9) _).trans hgrow
  have hne:=SN.neR hq2 (by decide)
  have PN:=HPL.out.step hin ho hg hq hE SN hg2 ⟨hvp,hvq,hvb⟩ (fun k e e2=>hne (by rw [e,e2])) hpq
  have hO:=((Off.refl q w2).set 0 (.slice (some ⟨g,0,none⟩) (ns.length+1) cap)).grown
  have FN:FK q b w _:=((FK.of_grown hg (fun k e=>.inr (.inl (by cases e;rfl)))).trans (FK.of_grown hg2 (fun k e=>.inr (.inr (hS1.cells k e))))).trans (FK.of_grown hO (fun k e=>.inl (by cases e;rfl)))
  have hs2:=hg2.size
  have BN:Below B w _:=((grown_below hg hbs (fun k e=>by cases e;exact HPL.out.bb)).trans (grown_below hg2 hB1 (fun k e=>(hS1.lt k e).1))).trans (grown_below hO (by omega) (fun k e=>by cases e;exact HPL.out.bq))
  clear HSS hS1 hq1 r0 r1 hg hgrow hg2 hO hat SN HPL hq2
  go_wp2
  go_end0
  exact ⟨rfl,_,PN,FN,BN⟩
end Go.Proofs.YtdcocflnafcikaaGreatDoor
namespace Go.Proofs.YtdcocflnafcikaaGreatDoor
open Go.RowKit Go.Maps
structure PI where
 coef:Rat
 nm:ByteArray
 ln:Int
 cl:Int
structure ItemAt (w:World) (b o:Nat) (t:PI) (S:Nat):Prop where
 coef:C3 w b o t.coef S
 nm:w.cell? ⟨b,o+3,none⟩=some (.string t.nm)
 ln:w.cell? ⟨b,o+4,none⟩=some (.int .i64 t.ln)
 cl:w.cell? ⟨b,o+5,none⟩=some (.int .i64 t.cl)
 s1:1≤S
 sz:SzR t.coef S
 snm:t.nm.size≤S
theorem ItemAt.below {w w':World} {b o:Nat} {t:PI} {S:Nat} (h:ItemAt w b o t S) (hb:Below w.heap.size w w'):ItemAt w' b o t S:=⟨h.coef.below hb,aB hb h.nm,aB hb h.ln,aB hb h.cl,h.s1,h.sz,h.snm⟩
def LI (w:World) (a:Option Addr) (n:Nat) (I:Nat→PI) (Z:Nat→Nat):Prop:=n=0∨∃ b o,a=some ⟨b,o,none⟩∧∀ i,i<n→ItemAt w b (o+i*6) (I i) (Z i)
theorem LI.below {w w':World} {a:Option Addr} {n:Nat} {I:Nat→PI} {Z:Nat→Nat} (h:LI w a n I Z) (hb:Below w.heap.size w w'):LI w' a n I Z:=by
 rcases h with h|⟨b,o,rfl,h⟩
 ·exact .inl h
 ·exact .inr ⟨b,o,rfl,fun i hi=>(h i hi).below hb⟩
def fol (ns:List ByteArray) (I:Nat→PI):Nat→List ByteArray
 | 0=>ns
 | j+1=>stq (fol ns I j) (I j).nm
theorem stq_len (ns:List ByteArray) (s:ByteArray):(stq ns s).length≤ns.length+1:=by
 unfold stq
 split
 ·omega
 ·rw [List.length_append];exact Nat.le_refl _
theorem pM (ns:List ByteArray) (I:Nat→PI):∀ j,(fol ns I j).length≤ns.length+j
 | 0=>Nat.le_refl _
 | j+1=>by have:=pM ns I j;have:=stq_len (fol ns I j) (I j).nm;show (stq _ _).length≤_;omega
theorem itemsQ {w:World} {B p q b r:Nat} {D:DataW Value} {ns:List ByteArray} {ia:Option Addr} {n ic:Nat} {I:Nat→PI} {Z:Nat→Nat} (h:Pl w B p q b D ns) (hI:∀ w',Below B w w'→LI w' ia n I Z) (hz:∀ i,i<n→(I i).nm.size≤1000000000) (hl:ns.length+n≤1000000000) (hpq:p≠q∧p≠b∧q≠b)
 (hr:Rw 145 w r #[.func (.func 80) #[] #[.pointer (some ⟨p,0,none⟩),.pointer (some ⟨q,0,none⟩)]]) (hrq:r≠q∧r≠b) :
 Calls Tryz.prog 81 #[.slice ia n ic,.pointer (some ⟨r,0,none⟩)] w fun e w'=>e = .returned (.tuple #[])∧∃ D',Pl w' B p q b D' (fol ns I n)∧FK q b w w'∧Below B w w':=by
 have HI:Hid (∀ w',Below B w w'→LI w' ia n I Z):=hI
 have HZ:Hid (∀ i,i<n→(I i).nm.size≤1000000000):=hz
 clear hI hz
 go_enter Tryz.func81,Tryz.ntmps81
 go_wp2
 go_loopw [7] (fun s7 wr=>∃ (j:Nat) (D:DataW Value),j≤n∧s7 = .int .i64 j∧Pl wr B p q b D (fol ns I j)∧FK q b w wr∧Below B w wr) (fun s7 _=>n-(intOf s7).toNat)
 case atStart=>exact ⟨0,D,Nat.zero_le _,rfl,h,FK.refl _ _ _,Below.refl _ _⟩
 case round =>
  clear h
  obtain ⟨j,D,hj,rfl,h,hF,hB⟩:=hrel
  by_cases hlt:j<n
  ·have hkI:(j:Int)<(n:Int):=by omega
   have hkI2:(j:Int)*6=((j*6:Nat):Int):=by omega
   have hz:=HZ.out j hlt
   rcases HI.out wr hB with h0|⟨tb,to,eia,hel⟩
   ·omega
   have hT:=hel j hlt
   obtain ⟨pC,aC,nC,cC,dC,mC,lC,x0,x1,x2,_⟩:=hT.coef
   obtain ⟨nm,enm⟩:∃ x,x=(I j).nm:=⟨_,rfl⟩
   obtain ⟨ln,eln⟩:∃ x,x=(I j).ln:=⟨_,rfl⟩
   obtain ⟨cl,ecl⟩:∃ x,x=(I j).cl:=⟨_,rfl⟩
   have x3:=hT.nm
   have x4:=hT.ln
   have x5:=hT.cl
   rw [← enm] at x3 hz
   rw [← eln] at x4
   rw [← ecl] at x5
   have EN:Hid (nm=(I j).nm):=enm
   clear hel hT enm eln ecl
   rw [eia]
   have hrr:=hF.rw hr hrq.1 hrq.2 (by decide)
   have y0:=((hrr.below (aG wr (.cells #[.bool pC,.slice aC nC cC,.slice dC mC lC,.string nm,.int .i64 ln,.int .i64 cl] 65))).cell 0).trans (show _=some (.func (.func 80) #[] #[.pointer (some ⟨p,0,none⟩),.pointer (some ⟨q,0,none⟩)]) from rfl)
   have hz0:=aG wr (.cells #[.bool pC,.slice aC nC cC,.slice dC mC lC,.string nm,.int .i64 ln,.int .i64 cl] 65)
   have h4:=h.below hz0
   have hfl:=pM ns I j
   go_wp2_with fail
   refine (standQ nm h4 hz (by omega) hpq).mono ?_
   rintro e w5 ⟨rfl,D',h5,hF5,hB5⟩
   have PN:Pl w5 B p q b D' (fol ns I (j+1)):=by show Pl w5 B p q b D' (stq _ _);rw [← EN.out];exact h5
   have FN:FK q b w w5:=(hF.trans (FK.of_below hz0)).trans hF5
   have BN:Below B w w5:=(hB.trans (hz0.mono h.bs)).trans hB5
   clear h h4 h5 hF hB hF5 hB5 y0 hz0 x0 x1 x2 x3 x4 x5
   rw [← eia]
   go_wp2
   go_roundw
   case rel=>first|exact ⟨j+1,by omega,by go_num,D',PN,FN,BN⟩|exact ⟨j+1,D',by omega,by go_num,PN,FN,BN⟩
   case measure=>simp [intOf];omega
  ·have hkI:¬ (j:Int)<(n:Int):=by omega
   obtain rfl:j=n:=by omega
   go_wp2
   go_end0
   exact ⟨rfl,⟨D,h⟩,hF,hB⟩
end Go.Proofs.YtdcocflnafcikaaGreatDoor

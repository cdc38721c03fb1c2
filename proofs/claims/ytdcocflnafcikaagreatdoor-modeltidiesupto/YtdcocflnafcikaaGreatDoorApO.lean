import Derived.Test.YtdcocflnafcikaaGreatDoorApN
import Derived.Test.YtdcocflnafcikaaGreatDoorApVAll
import Derived.Test.YtdcocflnafcikaaGreatDoorApKAll
import Derived.Test.YtdcocflnafcikaaGreatDoorPtF
namespace Go.Proofs.YtdcocflnafcikaaGreatDoor
open Go.RowKit
def FamU (w:World) (n:Nat) (E:Nat→List Value) (i:Nat) (lo hi:Nat→Nat):Prop:=∃ l h:Nat→Nat,(∀ x,x<n→(∃ j,j<i∧lo j≤l x∧h x≤hi j)∧NmX w (l x) (h x) (E x))∧∀ x y,x<y→y<n→h x≤l y∨h y≤l x
def FamR (w:World) (n:Nat) (E:Nat→List Value) (a b:Nat):Prop:=∃ l h:Nat→Nat,(∀ x,x<n→a≤l x∧h x≤b∧NmX w (l x) (h x) (E x))∧∀ x y,x<y→y<n→h x≤l y∨h y≤l x
theorem NmX.form2 {w:World} {lo hi:Nat} {l:List Value} (h:NmX w lo hi l):l.length=3∧∀ u ∈ l,u.oneCell'=true:=by
 obtain ⟨f,u,v,xs,ys,rfl,h1,h2,_⟩:=h
 obtain ⟨a1,c1,e1⟩:=h1.slice
 obtain ⟨a2,c2,e2⟩:=h2.slice
 refine ⟨rfl,fun u hu=>?_⟩
 simp only [List.mem_cons,List.mem_nil_iff,or_false] at hu
 rcases hu with rfl|rfl|rfl
 ·rfl
 ·rw [e1];rfl
 ·rw [e2];rfl
theorem FamR.below {w w':World} {n:Nat} {E:Nat→List Value} {a b:Nat} (h:FamR w n E a b) (hb:Below w.heap.size w w'):FamR w' n E a b:=by
 obtain ⟨l,r,h1,h2⟩:=h
 exact ⟨l,r,fun x hx=>⟨(h1 x hx).1,(h1 x hx).2.1,(h1 x hx).2.2.below hb⟩,h2⟩
theorem FamR.form {w:World} {n:Nat} {E:Nat→List Value} {a b:Nat} (h:FamR w n E a b):∀ i,i<n→(E i).length=3∧∀ u ∈ E i,u.oneCell'=true:=by
 obtain ⟨l,r,h1,_⟩:=h
 exact fun i hi=>(h1 i hi).2.2.form2
theorem FamU.cat {w:World} {n m i:Nat} {E D:Nat→List Value} {lo hi:Nat→Nat} (h:FamU w n E i lo hi) (k:FamR w m D (lo i) (hi i)) (ho:∀ j,j<i→hi j≤lo i∨hi i≤lo j):FamU w (n+m) (fun x=>if x<n then E x else D (x-n)) (i+1) lo hi:=by
 obtain ⟨l,r,e1,e2⟩:=h
 obtain ⟨l',r',k1,k2⟩:=k
 refine ⟨fun x=>if x<n then l x else l' (x-n),fun x=>if x<n then r x else r' (x-n),fun x hx=>?_,fun x y hxy hy=>?_⟩
 ·by_cases hn:x<n
  ·simp only [hn,if_true]
   obtain ⟨⟨j,j1,j2,j3⟩,q⟩:=e1 x hn
   exact ⟨⟨j,by omega,j2,j3⟩,q⟩
  ·simp only [hn,if_false]
   obtain ⟨q1,q2,q3⟩:=k1 (x-n) (by omega)
   exact ⟨⟨i,by omega,q1,q2⟩,q3⟩
 ·by_cases hn:y<n
  ·have hn2:x<n:=by omega
   simp only [hn,hn2,if_true]
   exact e2 x y hxy hn
  ·by_cases hn2:x<n
   ·simp only [hn,hn2,if_true,if_false]
    obtain ⟨⟨j,j1,j2,j3⟩,_⟩:=e1 x hn2
    obtain ⟨q1,q2,_⟩:=k1 (y-n) (by omega)
    rcases ho j j1 with h|h <;> omega
   ·simp only [hn,hn2,if_false]
    exact k2 (x-n) (y-n) (by omega) (by omega)
theorem SL.cls3 {w:World} {B:Nat} {T:TypeId} {a:Option Addr} {m n cap:Nat} {E:Nat→List Value} (h:SL w B T 3 (.slice a m cap) n E):n=0∨∃ b o,a=some ⟨b,o,none⟩∧∀ i,i<n→∀ j u,(E i)[j]? = some u→w.cell? ⟨b,o+i*3+j,none⟩=some u:=by
 rcases h.cell with h0|⟨g,e,hc⟩
 ·exact .inl h0
 ·exact .inr ⟨g,0,e,fun i hi j u hu=>by rw [Nat.zero_add];exact hc i hi j u hu⟩
def pcl (P:Prob):List Value:=[.bool P.mx,.string P.nm,.bool P.p,.slice P.a P.na P.ca,.slice P.d P.nd P.cd,.slice P.va P.vn P.vc,.slice P.ra P.rn P.rc]
def dP (Qs:Nat→Prob):Nat→Nat
 | 0=>0
 | i+1=>dP Qs i+(Qs i).rn
theorem offR_le (Qs:Nat→Prob) {K:Nat}:∀ i,(∀ j,j<i→(Qs j).rn≤K)→dP Qs i≤i*K
 | 0,_=>by show 0≤_;omega
 | i+1,h=>by
  have h1:=offR_le Qs i (fun j hj=>h j (by omega))
  have h2:=h i (by omega)
  show dP Qs i+(Qs i).rn≤(i+1)*K
  rw [Nat.add_mul,Nat.one_mul];omega
structure PAp (w:World) (B:Nat) (P:Prob) (c:Nat→List Value) (lo hi:Nat) (EV ER:Nat→List Value) (xv xr:Nat→Value) (tv:Nat→Value) (ET:Nat→Nat→List Value) (xt:Nat→Nat→Value):Prop where
 pq:PQ w P
 K:P.K≤1048576
 sz:∀ r,r≤P.rn→aQ P r≤10000000
 tp:TPP w P (fun x l=>l=c x)
 fam:FamR w (aQ P P.rn) c lo hi
 vs:SL w B 57 13 (.slice P.va P.vn P.vc) P.vn EV
 vx:∀ k,k<P.vn→∃ r,EV k=xv k::r
 rs:SL w B 60 10 (.slice P.ra P.rn P.rc) P.rn ER
 rx:∀ k,k<P.rn→∃ r,ER k=xr k::tv k::r
 ts:∀ k,k<P.rn→SL w B 62 4 (tv k) (P.R k).nt (ET k)
 tx:∀ k,k<P.rn→∀ q,q<(P.R k).nt→∃ r,ET k q=xt k q::r
 tn:∀ k,k<P.rn→(P.R k).nt≤100000000
theorem TPP.belowA {w w':World} {P:Prob} {Pd:Nat→List Value→Prop} (h:TPP w P Pd) (hb:Below w.heap.size w w'):TPP w' P Pd:=by
 have nx:∀ {b o:Nat} {R:List Value→Prop},NX w b o R→NX w' b o R:=fun h=>by
  obtain ⟨p,a,na,ca,d,nd,cd,h1,h2,h3,h4⟩:=h
  exact ⟨p,a,na,ca,d,nd,cd,aB hb h1,aB hb h2,aB hb h3,h4⟩
 refine ⟨h.k,?_,?_⟩
 ·rcases h.v with h|⟨b,o,e,h⟩
  ·exact .inl h
  ·exact .inr ⟨b,o,e,fun j hj=>⟨nx (h j hj).1,nx (h j hj).2.1,nx (h j hj).2.2⟩⟩
 ·rcases h.r with h|⟨b,o,e,h⟩
  ·exact .inl h
  ·refine .inr ⟨b,o,e,fun i hi=>?_⟩
   obtain ⟨h1,h2,a,cap,h3,h4,h5⟩:=h i hi
   refine ⟨nx h1,nx h2,a,cap,aB hb h3,h4,?_⟩
   rcases h5 with h5|⟨tb,to,e5,h5⟩
   ·exact .inl h5
   ·exact .inr ⟨tb,to,e5,fun k hk=>nx (h5 k hk)⟩
theorem PAp.below {w w':World} {B:Nat} {P:Prob} {c:Nat→List Value} {lo hi:Nat} {EV ER:Nat→List Value} {xv xr tv:Nat→Value} {ET:Nat→Nat→List Value} {xt:Nat→Nat→Value} (h:PAp w B P c lo hi EV ER xv xr tv ET xt) (hb:Below w.heap.size w w'):PAp w' B P c lo hi EV ER xv xr tv ET xt :=
 ⟨h.pq.below hb,h.K,h.sz,h.tp.belowA hb,h.fam.below hb,h.vs.below hb,h.vx,h.rs.below hb,h.rx,fun k hk=>(h.ts k hk).below hb,h.tx,h.tn⟩
theorem PAp.rowc {w:World} {B:Nat} {P:Prob} {c:Nat→List Value} {lo hi:Nat} {EV ER:Nat→List Value} {xv xr tv:Nat→Value} {ET:Nat→Nat→List Value} {xt:Nat→Nat→Value} (h:PAp w B P c lo hi EV ER xv xr tv ET xt) {k:Nat} (hk:k<P.rn):∃ g,P.ra=some ⟨g,0,none⟩∧w.cell? ⟨g,k*10+1,none⟩=some (tv k):=by
 obtain ⟨r,er⟩:=h.rx k hk
 rcases h.rs.cell with h0|⟨g,e,hc⟩
 ·omega
 ·exact ⟨g,e,hc k hk 1 _ (by rw [er];rfl)⟩
set_option maxRecDepth 100000 in
set_option maxHeartbeats 16000000 in
theorem apart7D {va:Option Addr} {m vc B C:Nat} {Qs:Nat→Prob} {c:Nat→Nat→List Value} {lo hi:Nat→Nat} {EV ER:Nat→Nat→List Value} {xv xr tv:Nat→Nat→Value} {ET:Nat→Nat→Nat→List Value} {xt:Nat→Nat→Nat→Value} {nT:Nat→Nat} {T:Nat→Value} (w:World) (hB:B≤C) (hC:C≤w.heap.size) (hT:SL w C 31 7 (.slice va m vc) m (fun i=>pcl (Qs i)))
 (hA:∀ i,i<m→PAp w B (Qs i) (c i) (lo i) (hi i) (EV i) (ER i) (xv i) (xr i) (tv i) (ET i) (xt i)) (hlo:∀ i,i<m→B≤lo i) (ho:∀ i j,i<j→j<m→hi i≤lo j∨hi j≤lo i)
 (hTT:∀ i,i<m→∀ k,k<(Qs i).rn→T (dP Qs i+k)=tv i k∧nT (dP Qs i+k)=((Qs i).R k).nt)
 (dt:∀ i j,i<dP Qs m→j<dP Qs m→i≠j→∀ g,(T i).ownBlock=some g→(T j).ownBlock≠some g)
 (dv:∀ i j,i<m→j<m→i≠j→∀ g,(Value.slice (Qs i).va (Qs i).vn (Qs i).vc).ownBlock=some g→(Value.slice (Qs j).va (Qs j).vn (Qs j).vc).ownBlock≠some g) (dr:∀ i j,i<m→j<m→i≠j→∀ g,(Value.slice (Qs i).ra (Qs i).rn (Qs i).rc).ownBlock=some g→(Value.slice (Qs j).ra (Qs j).rn (Qs j).rc).ownBlock≠some g) (hm:m≤8) :
 Calls Tryz.prog 12 #[.slice va m vc] w fun e w'=>e = .returned (.bool true)∧Below B w w':=by
 have hrn:∀ i,i<m→(Qs i).rn≤1048576:=fun i hi'=>by have h:=hA i hi';have:=h.pq.all;have:=aZ (Qs i).ZR (Qs i).rn;have:=h.K;omega
 have hvn:∀ i,i<m→(Qs i).vn≤1048576:=fun i hi'=>by have h:=hA i hi';have:=h.pq.all;have:=aZ (Qs i).ZV (Qs i).vn;have:=h.K;omega
 have hoff:∀ i,i≤m→dP Qs i≤8388608:=fun i hi'=>by
  have h1:=offR_le Qs i (fun j hj=>hrn j (by omega))
  omega
 go_enter Tryz.func12,Tryz.ntmps12
 go_wp2
 go_loopw [3,4,5] (fun sa st s wr=>∃ (i N:Nat) (Ea:Nat→List Value),i≤m∧N≤i*10000000∧s = .int .i64 i∧SL wr w.heap.size 27 3 sa N Ea∧FamU w N Ea i lo hi∧SL wr w.heap.size 58 1 st (dP Qs i) (fun q=>[T q])∧Below w.heap.size w wr) (fun _ _ s _=>m-(intOf s).toNat)
 case atStart=>exact ⟨0,0,fun _=>[],Nat.zero_le _,Nat.zero_le _,rfl,SL.nil _ _ _ _ _,⟨fun _=>0,fun _=>0,fun x hx=>by omega,fun x y _ hy=>by omega⟩,SL.nil _ _ _ _ _,Below.refl _ _⟩
 case round =>
  obtain ⟨i,N,Ea,hi',hN,rfl,hSa,hF,hSt,hbel⟩:=hrel
  obtain ⟨ua,uc,rfl,_⟩:=hSa.form
  obtain ⟨ta,tc,rfl,_⟩:=hSt.form
  have hws:=hbel.size
  have hTr:=hT.below hbel
  by_cases hlt:i<m
  ·have hil:(i:Int)<(m:Int):=by omega
   have hkI7:(i:Int)*7=((i*7:Nat):Int):=by omega
   have hAi:=(hA i hlt).below hbel
   have hof:=hoff i (by omega)
   rcases hTr.cell with h0|⟨gl,rfl,hcl⟩
   ·omega
   have z0:=hcl i hlt 0 _ rfl
   have z1:=hcl i hlt 1 _ rfl
   have z2:=hcl i hlt 2 _ rfl
   have z3:=hcl i hlt 3 _ rfl
   have z4:=hcl i hlt 4 _ rfl
   have z5:=hcl i hlt 5 _ rfl
   have z6:=hcl i hlt 6 _ rfl
   rw [Nat.add_zero] at z0
   obtain ⟨ZN,eZN⟩:∃ ZN,ZN=aQ (Qs i) (Qs i).rn:=⟨_,rfl⟩
   have hZN:ZN≤10000000:=by rw [eZN];exact hAi.sz _ (Nat.le_refl _)
   have HR:=ratsG (Qs i) (fun x l=>l=c i x) wr hAi.pq hAi.sz hAi.tp hAi.K
   have hFr:=(hA i hlt).fam
   rw [← eZN] at HR hFr
   unfold Prob.val at HR
   have hcat:FamU w (N+ZN) _ (i+1) lo hi:=hF.cat hFr (fun j hj=>ho j i hj hlt)
   have hform:=hFr.form
   clear hcl eZN hF hFr hAi
   go_wp2_with fail
   refine HR.mono ?_
   clear HR z0 z1 z2 z3 z4 z5 z6
   rintro e w1 ⟨v1,E1,rfl,SE,hE1,h1⟩
   obtain ⟨ra,rcap,rfl,_⟩:=SE.form
   have CR:=(SE.congr hE1).cls3
   have hs1:=h1.size
   have hSa1:=hSa.below h1
   have hb1:=aF hbel h1
   have hSt1:=hSt.below h1
   clear SE hE1 hSa hSt h1 hTr hbel
   go_wp2_with (at_builtin;refine oL _ rfl _ _ rfl w.heap.size (.slice ua N uc) N _ rfl hSa1 ra ZN rcap rfl (c i) hform CR (by omega) (by omega) ?_)
   intro va2 cap2 w2 S2 hg
   have hwb:Below w.heap.size w w2:=hb1.trans (grown_below hg (by omega) (fun g e=>(hSa1.lt g e).1))
   have hs2:=hg.size
   have kx:KX (fun T=>T=27) w1 w2:=KX.old hSa1 rfl hg
   have hSt2:=hSt1.kx kx (by decide)
   clear hg kx hSa1 hSt1 hb1 CR
   have hrni:=hrn i hlt
   go_wp2
   go_loopw [4,6] (fun st s wr=>∃ k:Nat,k≤(Qs i).rn∧s = .int .i64 k∧SL wr w.heap.size 27 3 (.slice va2 (N+ZN) cap2) (N+ZN) (fun x=>if x<N then Ea x else c i (x-N))∧SL wr w.heap.size 58 1 st (dP Qs i+k) (fun q=>[T q])∧Below w.heap.size w wr) (fun _ s _=>(Qs i).rn-(intOf s).toNat)
   case atStart=>exact ⟨0,Nat.zero_le _,rfl,S2,hSt2,hwb⟩
   case round =>
    clear S2 hSt2 hwb
    obtain ⟨k,hk,rfl,S2,hSt,hbel⟩:=hrel
    obtain ⟨ta,tc,rfl,_⟩:=hSt.form
    have hws3:=hbel.size
    rcases (hT.below hbel).cell with h0|⟨gl2,e2,hcl⟩
    ·omega
    obtain rfl:gl=gl2:=by simpa using e2
    have z6:=hcl i hlt 6 _ rfl
    clear hcl e2
    by_cases hkn:k<(Qs i).rn
    ·have hkl:(k:Int)<((Qs i).rn:Int):=by omega
     have hkI10:(k:Int)*10=((k*10:Nat):Int):=by omega
     obtain ⟨g,era,x1⟩:=(hA i hlt).rowc hkn
     replace x1:=aB hbel x1
     rw [era] at z6
     have hTk:=(hTT i hlt k hkn).1
     obtain ⟨ta1,tn1,tc1,etv⟩:∃ a n c,tv i k = .slice a n c:=by
      obtain ⟨a,cap,e,_⟩:=((hA i hlt).ts k hkn).form
      exact ⟨_,_,_,e⟩
     rw [etv] at x1 hTk
     have HTK:Hid (T (dP Qs i+k) = .slice ta1 tn1 tc1):=hTk
     clear hTk era etv
     have hxa:=aG wr (.cells #[.slice ta1 tn1 tc1] 58)
     have hSa:=hSt.below hxa
     have S2a:=S2.below hxa
     go_wp2_with (at_builtin;refine aV _ rfl _ _ 88 58 1 24 rfl Tryz.underlying88 wY (by decide) (by decide) w.heap.size (.slice ta (dP Qs i+k) tc) (dP Qs i+k) _ rfl hSa wr.heap.size _ rfl [.slice ta1 tn1 tc1] rfl (fun u hu=>by simp at hu;subst hu;rfl) (aN wr #[.slice ta1 tn1 tc1] 58) (by omega) (by simp;omega) (wr.heap.size+1) (by simp) ?_)
     intro g2 cap3 w3 hown hg hat _
     have kx:KX (fun T=>T=58) _ w3:=KX.old hSa rfl hg
     have S3:=S2a.kx kx (by decide)
     have hSt3:SL w3 w.heap.size 58 1 (.slice (some ⟨g2,0,none⟩) (dP Qs i+k+1) cap3) (dP Qs i+k+1) (fun q=>[T q]):=hown.congr fun q hq=>by
      by_cases e:q<dP Qs i+k
      ·simp only [e,if_true]
      ·have e2:q=dP Qs i+k:=by omega
       simp only [e,if_false]
       rw [e2,HTK.out]
     have hb3:Below w.heap.size w w3:=(hbel.trans (hxa.mono hws3)).trans (grown_below hg (by have:=hxa.size;omega) (fun g' e=>by have:=hSa.lt g' e;omega))
     clear hown hg hat kx hSa S2a hSt S2 hbel hxa z6 x1
     go_wp2
     go_roundw
     case rel=>exact ⟨k+1,by omega,by go_num,S3,hSt3,hb3⟩
     case measure=>simp [intOf];omega
    ·have hkl:¬ (k:Int)<((Qs i).rn:Int):=by omega
     obtain rfl:k=(Qs i).rn:=by omega
     have hSt4:SL wr w.heap.size 58 1 (.slice ta (dP Qs (i+1)) tc) (dP Qs (i+1)) (fun q=>[T q]):=hSt
     have hNN:N+ZN≤(i+1)*10000000:=by omega
     have eo:dP Qs i+(Qs i).rn=dP Qs (i+1):=rfl
     rw [eo]
     go_wp2
     go_roundw
     case rel=>exact ⟨i+1,N+ZN,_,by omega,hNN,by go_num,S2,hcat,hSt4,hbel⟩
     case measure=>simp [intOf];omega
  ·have hil:¬ (i:Int)<(m:Int):=by omega
   obtain rfl:i=m:=by omega
   have hof:=hoff i (Nat.le_refl _)
   obtain ⟨l,h,f1,f2⟩:=hF
   have hAp:=apartE (B:=B) (lo:=l) (hi:=h) wr (show B≤w.heap.size by omega) hws hSa (fun x hx=>⟨by obtain ⟨⟨j,j1,j2,_⟩,_⟩:=f1 x hx;have:=hlo j j1;omega,(f1 x hx).2.below hbel⟩) f2 (by omega)
   go_wp2_with fail
   refine hAp.mono ?_
   clear hAp f1 f2
   rintro e w1 ⟨rfl,hb1,kn1⟩
   have hs1:=hb1.size
   have hSt1:=hSt.kn kn1 (by decide) (by decide)
   have hT1:=hTr.kn kn1 (by decide) (by decide)
   have hOT:∀ q,q<dP Qs i→∃ j k,j<i∧k<(Qs j).rn∧dP Qs j+k=q:=by
    intro q hq
    have H:∀ r,r≤i→q<dP Qs r→∃ j k,j<r∧k<(Qs j).rn∧dP Qs j+k=q:=by
     intro r
     induction r with
     | zero=>intro _ h0;have:dP Qs 0=0:=rfl;omega
     | succ r ih =>
      intro hr h0
      have er:dP Qs (r+1)=dP Qs r+(Qs r).rn:=rfl
      by_cases h2:q<dP Qs r
      ·obtain ⟨j,k,a1,a2,a3⟩:=ih (by omega) h2
       exact ⟨j,k,by omega,a2,a3⟩
      ·exact ⟨r,q-dP Qs r,by omega,by omega,by omega⟩
    exact H i (Nat.le_refl _) hq
   have hTS:∀ q,∃ E:Nat→List Value,q<dP Qs i→SL w1 B 62 4 (T q) (nT q) E∧nT q≤100000000∧∀ x,x<nT q→∃ z r,E x=z::r:=by
    intro q
    by_cases hq:q<dP Qs i
    ·obtain ⟨j,k,h1,h2,h3⟩:=hOT q hq
     obtain ⟨t1,t2⟩:=hTT j h1 k h2
     rw [h3] at t1 t2
     rw [t1,t2]
     have hj:=hA j h1
     exact ⟨ET j k,fun _=>⟨((hj.ts k h2).below hbel).kn kn1 (by decide) (by decide),hj.tn k h2,fun x hx=>by obtain ⟨r,e⟩:=hj.tx k h2 x hx;exact ⟨_,r,e⟩⟩⟩
    ·exact ⟨fun _=>[],fun h=>absurd h hq⟩
   obtain ⟨EE,hEE⟩:=Classical.axiomOfChoice hTS
   have hZZ:∀ q x,∃ z:Value,q<dP Qs i→x<nT q→∃ r,EE q x=z::r:=by
    intro q x
    by_cases hq:q<dP Qs i∧x<nT q
    ·obtain ⟨z,r,e⟩:=(hEE q hq.1).2.2 x hq.2
     exact ⟨z,fun _ _=>⟨r,e⟩⟩
    ·exact ⟨.bool false,fun h1 h2=>absurd ⟨h1,h2⟩ hq⟩
   obtain ⟨zz,hzz⟩:=Classical.skolem.1 (fun q=>Classical.skolem.1 (hZZ q))
   have hTe:=wZ (B:=B) (C:=w.heap.size) (x:=zz) w1 (by omega) (by omega) hSt1 (fun q hq=>(hEE q hq).1) (fun q hq x hx=>hzz q x hq hx) dt (by omega) (fun q hq=>(hEE q hq).2.1)
   go_wp2_with fail
   refine hTe.mono ?_
   clear hTe hEE hzz hTS hZZ
   rintro e w2 ⟨rfl,hb2,kx2⟩
   have hs2:=hb2.size
   have hFe:=uX (B:=B) (C:=C) (EV:=EV) (ER:=ER) (xv:=xv) (xr:=xr) (pv:=fun j=>.slice (Qs j).va (Qs j).vn (Qs j).vc) (pr:=fun j=>.slice (Qs j).ra (Qs j).rn (Qs j).rc) (nv:=fun j=>(Qs j).vn) (nr:=fun j=>(Qs j).rn) w2 hB (by omega) (hT1.kx kx2 (by unfold TmS;decide)) (fun j _=>⟨rfl,rfl⟩)
    (fun j hj=>((((hA j hj).vs.below hbel).kn kn1 (by decide) (by decide)).kx kx2 (by unfold TmS;decide))) (fun j hj k hk=>(hA j hj).vx k hk) (fun j hj=>((((hA j hj).rs.below hbel).kn kn1 (by decide) (by decide)).kx kx2 (by unfold TmS;decide))) (fun j hj k hk=>by obtain ⟨r,e⟩:=(hA j hj).rx k hk;exact ⟨_,e⟩)
    dv dr (by omega) (fun j hj=>by have:=hvn j hj;omega) (fun j hj=>by have:=hrn j hj;omega)
   go_wp2_with fail
   refine hFe.mono ?_
   clear hFe
   rintro e w3 ⟨rfl,hb3⟩
   have hfin:Below B w w3:=(((hbel.mono (by omega)).trans hb1).trans hb2).trans hb3
   go_wp2
   go_ret
   exact ⟨rfl,hfin⟩
end Go.Proofs.YtdcocflnafcikaaGreatDoor

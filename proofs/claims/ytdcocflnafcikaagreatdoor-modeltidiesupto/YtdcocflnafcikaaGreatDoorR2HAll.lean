import Derived.Test.YtdcocflnafcikaaGreatDoorR2All
import Derived.Test.YtdcocflnafcikaaGreatDoorPtC
import Derived.Test.YtdcocflnafcikaaGreatDoorApKAll
set_option maxHeartbeats 4000000
namespace Go.Proofs.YtdcocflnafcikaaGreatDoor
open Go.RowKit
theorem oI (a:Option Addr) (n cap:Nat) (xs:List Int) (w:World) (hn:n=xs.length) (hm:n≤400000000000) (hr:Reads w a xs) :
 Calls Tryz.prog 60 #[.slice a n cap] w fun e w'=>∃ c cc,e = .returned (.slice c n cc)∧OwnV w' w.heap.size (.slice c n cc) xs∧Below w.heap.size w w':=by
 subst hn
 go_enter Tryz.func60,Tryz.ntmps60
 go_wp2
 go_loopw [3,4] (fun v i wr=>∃ k:Nat,k≤xs.length∧i = .int .i64 k∧OwnV wr w.heap.size v (xs.take k)∧Below w.heap.size w wr) (fun _ i _=>xs.length-(intOf i).toNat)
 case atStart=>exact ⟨0,Nat.zero_le _,rfl,OwnV.nil _ _,Below.refl _ _⟩
 case round =>
  obtain ⟨k,hk,rfl,hown,hbel⟩:=hrel
  by_cases hlt:k<xs.length
  ·obtain ⟨b1,o1,rfl,hc1⟩:=hr.at (by omega)
   have h1:=hc1 k hlt
   have h2:wr.cell? ⟨b1,o1+k,none⟩=some (.int .u64 (lm xs k)):=by
    have:=World.block_lt_of_cell? _ _ h1
    rw [hbel.cell (p:=⟨b1,o1+k,none⟩) (by simpa using this)];exact h1
   have HT:Hid (xs.take k++[lm xs k]=xs.take (k+1)):=by
    show _=_
    rw [List.take_succ_eq_append_getElem hlt]
    simp [lm,hlt]
   have HK:Hid ((xs.take k).length=k):=by show _=_;rw [List.length_take];omega
   have hkl:(k:Int)<(xs.length:Int):=by omega
   clear hc1 h1 hr
   generalize xs.take k=F at *
   generalize lm xs k=X at *
   have hsz:=hbel.size
   have hrow:∀ q,u3.ownBlock=some q→w.heap.size≤q:=fun q hq=>(hown.lt q hq).1
   go_wp2_with (at_builtin;refine bC 23 Tryz.underlying23 _ rfl _ _ rfl w.heap.size u3 F k HK rfl (hown.alloc _) wr.heap.size _ X rfl (cell_new1 rfl) (by omega) (by simp;omega) (wr.heap.size+1) (by simp) ?_)
   intro g cap1 w1 hown1 hgrow hat hlt1
   have hbel1:Below w.heap.size w w1:=hbel.trans (((Below.refl _ _).alloc (by omega) _).trans (grown_below hgrow (by simp;omega) hrow))
   rw [HT.out] at hown1
   clear hgrow hat hown
   go_wp2
   go_roundw
   case rel=>exact ⟨k+1,by omega,by go_num,hown1,hbel1⟩
   case measure=>simp [intOf];omega
  ·obtain rfl:k=xs.length:=by omega
   rw [List.take_length] at hown
   obtain ⟨c,cc,rfl⟩:=hown.slice
   go_wp2
   go_ret
   exact ⟨_,_,rfl,hown,hbel⟩
structure CJ (w:World) (B k:Nat) (F:Nat→Fr) (C:Nat→Value × Value) (v:Value):Prop where
 s:SL w B 27 3 v k (fun i=>[.bool (F i).p,(C i).1,(C i).2])
 o:∀ i,i<k→OwnV w B (C i).1 (F i).xs∧OwnV w B (C i).2 (F i).ys
theorem OwnV.told {w:World} {B:Nat} {v:Value} {xs:List Int} (h:OwnV w B v xs):∃ a cap,v = .slice a xs.length cap∧xs.length≤cap∧Reads w a xs:=by
 rcases h.row with ⟨rfl,rfl⟩|⟨g,cap,rfl,_,hr⟩
 ·exact ⟨_,_,rfl,Nat.le_refl _,.inl rfl⟩
 ·exact ⟨_,_,rfl,hr.le,hr.reads⟩
theorem CJ.below {w w':World} {B k:Nat} {F:Nat→Fr} {C:Nat→Value × Value} {v:Value} (h:CJ w B k F C v) (hb:Below w.heap.size w w'):CJ w' B k F C v:=⟨h.s.below hb,fun i hi=>⟨(h.o i hi).1.below hb,(h.o i hi).2.below hb⟩⟩
theorem CJ.app {w w1 w2:World} {B k:Nat} {F:Nat→Fr} {C:Nat→Value × Value} {v v':Value} (h:CJ w B k F C v) (hb:Below w.heap.size w w1) (hg:w1.grownBy w2 v.ownBlock) {x y:Value} (hx:OwnV w B x (F k).xs) (hy:OwnV w B y (F k).ys)
 (hS:SL w2 B 27 3 v' (k+1) (fun i=>if i<k then [.bool (F i).p,(C i).1,(C i).2] else [.bool (F k).p,x,y])):CJ w2 B (k+1) F (fun i=>if i<k then C i else (x,y)) v':=by
 have keep:∀ {u:Value} {zs:List Int},OwnV w B u zs→OwnV w2 B u zs:=fun {u zs} ho=>by
  refine OwnV.grown (ho.below hb) hg ?_
  obtain ⟨vs,h1,_⟩:=h.s.below hb
  rcases hu:u.ownBlock with _|g
  ·exact .inl rfl
  ·refine .inr fun e=>?_
   exact zN (ho.below hb) h1 (by decide) g hu e.symm
 refine ⟨hS.congr fun i hi=>?_,fun i hi=>?_⟩
 ·by_cases e:i<k
  ·simp only [e,if_true]
  ·obtain rfl:i=k:=by omega
   simp only [e,if_false]
 ·by_cases e:i<k
  ·simp only [e,if_true]
   exact ⟨keep (h.o i e).1,keep (h.o i e).2⟩
  ·obtain rfl:i=k:=by omega
   simp only [e,if_false]
   exact ⟨keep hx,keep hy⟩
set_option maxRecDepth 100000 in
theorem copied3Q (a:Option Addr) (n cap:Nat) (F:Nat→Fr) (w:World) (hL:LF w a n F) (hn:n≤100000000) (hF:∀ i,i<n→(F i).xs.length≤2000000∧(F i).ys.length≤2000000) :
 Calls Tryz.prog 28 #[.slice a n cap] w fun e w'=>∃ C v,e = .returned v∧CJ w' w.heap.size n F C v∧Below w.heap.size w w':=by
 go_enter Tryz.func28,Tryz.ntmps28
 go_wp2
 go_loopw [3,4] (fun s3 s4 wr=>∃ (i:Nat) (C:Nat→Value × Value),i≤n∧s4 = .int .i64 i∧CJ wr w.heap.size i F C s3∧Below w.heap.size w wr) (fun _ s4 _=>n-(intOf s4).toNat)
 case atStart=>exact ⟨0,fun _=>(.slice none 0 0,.slice none 0 0),Nat.zero_le _,rfl,⟨SL.nil _ _ _ _ _,fun i hi=>by omega⟩,Below.refl _ _⟩
 case round =>
  obtain ⟨i,C,hi,rfl,hJ,hB⟩:=hrel
  obtain ⟨ga,gc,rfl,_⟩:=hJ.s.form
  have hBs:=hB.size
  by_cases hlt:i<n
  ·have hkI:(i:Int)<(n:Int):=by omega
   have hkI3:(i:Int)*3=((i*3:Nat):Int):=by omega
   rcases hL with h0|⟨b,o,rfl,hel⟩
   ·omega
   obtain ⟨a1,ca,d1,cd,c0,c1,c2,l1,l2,R1,R2⟩:=(hel i hlt).below hB
   obtain ⟨f1,f2⟩:=hF i hlt
   obtain ⟨p,ep⟩:∃ p,p=(F i).p:=⟨_,rfl⟩
   obtain ⟨xs,exs⟩:∃ xs,xs=(F i).xs:=⟨_,rfl⟩
   obtain ⟨ys,eys⟩:∃ ys,ys=(F i).ys:=⟨_,rfl⟩
   rw [← exs] at c1 l1 R1 f1
   rw [← eys] at c2 l2 R2 f2
   rw [← ep] at c0
   have EP:Hid (p=(F i).p∧xs=(F i).xs∧ys=(F i).ys):=⟨ep,exs,eys⟩
   clear ep exs eys hel
   have H1:=oI a1 xs.length ca xs wr rfl (by omega) R1
   go_wp2_with fail
   refine H1.mono ?_
   clear H1
   rintro e w1 ⟨x1,x2,rfl,O1,h1⟩
   replace c0:=aB h1 c0
   replace c1:=aB h1 c1
   replace c2:=aB h1 c2
   replace hJ:=hJ.below h1
   replace hB:=aF hB h1
   have H2:=oI d1 ys.length cd ys w1 rfl (by omega) (R2.below' h1)
   have hs1:=h1.size
   clear R1 R2 h1
   go_wp2_with fail
   refine H2.mono ?_
   clear H2
   rintro e w2 ⟨y1,y2,rfl,O2,h2⟩
   replace c0:=aB h2 c0
   clear c1 c2
   replace hJ:=hJ.below h2
   replace hB:=aF hB h2
   replace O1:=(O1.below h2).mono hBs
   replace O2:=O2.mono (Nat.le_trans hBs hs1)
   have hs2:=h2.size
   clear h2
   have HS:=hJ.s.below (aG w2 (.cells #[.bool p,.slice x1 xs.length x2,.slice y1 ys.length y2] 27))
   go_wp2_with (at_builtin;refine aV _ rfl _ _ 43 27 3 56 rfl Tryz.underlying43 nM (by decide) (by decide) w.heap.size (.slice ga i gc) i _ rfl HS w2.heap.size _ rfl [.bool p,.slice x1 xs.length x2,.slice y1 ys.length y2] rfl (fun u hu=>by simp at hu;rcases hu with rfl|rfl|rfl <;> rfl) (aN w2 #[.bool p,.slice x1 xs.length x2,.slice y1 ys.length y2] 27) (by omega) (by simp;omega) (w2.heap.size+1) (by simp) ?_)
   intro g gcN w3 SN hg hat _
   have JN:=hJ.app (aG w2 (.cells #[.bool p,.slice x1 xs.length x2,.slice y1 ys.length y2] 27)) hg (x:=.slice x1 xs.length x2) (y:=.slice y1 ys.length y2) (by rw [← EP.out.2.1];exact O1) (by rw [← EP.out.2.2];exact O2) (by rw [← EP.out.1];exact SN)
   have BN:Below w.heap.size w w3:=(aF hB (aG w2 (.cells #[.bool p,.slice x1 xs.length x2,.slice y1 ys.length y2] 27))).trans (grown_below hg (by simp;omega) (fun k e=>(hJ.s.lt k e).1))
   clear HS SN hg hat hJ hB O1 O2 c0
   go_wp2
   go_roundw
   case rel=>first|exact ⟨i+1,by omega,by go_num,⟨_,JN⟩,BN⟩|exact ⟨i+1,_,by omega,by go_num,JN,BN⟩|((repeat apply Exists.intro);refine ⟨?_,rfl⟩;exact ⟨i+1,_,by omega,by go_num,JN,BN⟩)
   case measure=>simp [intOf];omega
  ·have hkI:¬ (i:Int)<(n:Int):=by omega
   obtain rfl:i=n:=by omega
   go_wp2
   go_ret
   exact ⟨C,_,rfl,hJ,hB⟩
def frq (f:Fr):Rat:=Rat.divInt (ws f.p (val f.xs)) (val f.ys)
structure FrOk (f:Fr) (S:Nat):Prop where
 wx:AllW f.xs
 wy:AllW f.ys
 lx:f.xs.length≤S
 ly:f.ys.length≤S
def Q3 (w:World) (l:List Value) (f:Fr):Prop:=∃ a ca d cd,l=[.bool f.p,.slice a f.xs.length ca,.slice d f.ys.length cd]∧f.xs.length≤ca∧f.ys.length≤cd∧Reads w a f.xs∧Reads w d f.ys
theorem Q3.below {w w':World} {l:List Value} {f:Fr} (h:Q3 w l f) (hb:Below w.heap.size w w'):Q3 w' l f:=by
 obtain ⟨a,ca,d,cd,e,h1,h2,h3,h4⟩:=h
 exact ⟨a,ca,d,cd,e,h1,h2,h3.below' hb,h4.below' hb⟩
theorem tr_fr {w:World} {p:Bool} {a:Option Addr} {na ca:Nat} {d:Option Addr} {nd cd:Nat} {r:Rat} {S:Nat} (h:TR w p a na ca d nd cd r S):∃ f:Fr,Q3 w [.bool p,.slice a na ca,.slice d nd cd] f∧FrOk f S∧frq f=r:=by
 obtain ⟨x,y,⟨m,⟨xs,rfl,h1,h2,h3,h4,h5⟩,rfl⟩,⟨ys,rfl,k1,k2,k3,k4,k5⟩,rfl⟩:=h
 exact ⟨⟨p,xs,ys⟩,⟨a,ca,d,cd,rfl,h1,k1,h2,k2⟩,⟨h3,k3,h5,k5⟩,by unfold frq;rw [h4,k4]⟩
theorem Q3.tr {w:World} {p:Bool} {a:Option Addr} {na ca:Nat} {d:Option Addr} {nd cd:Nat} {f:Fr} {S:Nat} (h:Q3 w [.bool p,.slice a na ca,.slice d nd cd] f) (hf:FrOk f S):TR w p a na ca d nd cd (frq f) S:=by
 obtain ⟨a',ca',d',cd',e,h1,h2,h3,h4⟩:=h
 simp only [List.cons.injEq,Value.bool.injEq,Value.slice.injEq,and_true] at e
 obtain ⟨rfl,⟨rfl,rfl,rfl⟩,rfl,rfl,rfl⟩:=e
 exact ⟨_,_,⟨_,⟨f.xs,rfl,h1,h3,hf.wx,rfl,hf.lx⟩,rfl⟩,⟨f.ys,rfl,h2,h4,hf.wy,rfl,hf.ly⟩,rfl⟩
theorem F3.q3 {w:World} {b o:Nat} {f:Fr} (h:F3 w b o f):∃ p a na ca d nd cd,w.cell? ⟨b,o,none⟩=some (.bool p)∧w.cell? ⟨b,o+1,none⟩=some (.slice a na ca)∧w.cell? ⟨b,o+2,none⟩=some (.slice d nd cd)∧Q3 w [.bool p,.slice a na ca,.slice d nd cd] f:=by
 obtain ⟨a,ca,d,cd,h1,h2,h3,h4,h5,h6,h7⟩:=h
 exact ⟨_,_,_,_,_,_,_,h1,h2,h3,a,ca,d,cd,rfl,h4,h5,h6,h7⟩
theorem F3.of {w:World} {b o:Nat} {f:Fr} {l:List Value} (hq:Q3 w l f) (hc:∀ j u,l[j]? = some u→w.cell? ⟨b,o+j,none⟩=some u):F3 w b o f:=by
 obtain ⟨a,ca,d,cd,rfl,h1,h2,h3,h4⟩:=hq
 exact ⟨a,ca,d,cd,hc 0 _ rfl,hc 1 _ rfl,hc 2 _ rfl,h1,h2,h3,h4⟩
theorem F3.c3 {w:World} {b o:Nat} {f:Fr} {S:Nat} (h:F3 w b o f) (hf:FrOk f S):C3 w b o (frq f) S:=by
 obtain ⟨p,a,na,ca,d,nd,cd,h1,h2,h3,h4⟩:=h.q3
 exact ⟨p,a,na,ca,d,nd,cd,h1,h2,h3,h4.tr hf⟩
theorem sK {w:World} {b o:Nat} {r:Rat} {S:Nat} (h:C3 w b o r S):∃ f,F3 w b o f∧FrOk f S∧frq f=r:=by
 obtain ⟨p,a,na,ca,d,nd,cd,h1,h2,h3,h4⟩:=h
 obtain ⟨f,hq,hf,e⟩:=tr_fr h4
 obtain ⟨a',ca',d',cd',e',k1,k2,k3,k4⟩:=hq
 simp only [List.cons.injEq,Value.bool.injEq,Value.slice.injEq,and_true] at e'
 obtain ⟨rfl,⟨rfl,rfl,rfl⟩,rfl,rfl,rfl⟩:=e'
 exact ⟨f,⟨_,_,_,_,h1,h2,h3,k1,k2,k3,k4⟩,hf,e⟩
structure PF where
 k:Fr
 o:Nat→Fr
 lo:Nat→Fr
 hi:Nat→Fr
 rl:Nat→Fr
 rh:Nat→Fr
 t:Nat→Nat→Fr
 z:Nat→Nat→Nat
structure PFok (P:Prob) (G:PF):Prop where
 k:FrOk G.k P.S∧frq G.k=P.k
 v:∀ j,j<P.vn→(FrOk (G.o j) (P.ZV j)∧frq (G.o j)=(P.V j).obj)∧(FrOk (G.lo j) (P.ZV j)∧frq (G.lo j)=(P.V j).lo)∧FrOk (G.hi j) (P.ZV j)∧frq (G.hi j)=(P.V j).hi
 r:∀ i,i<P.rn→(FrOk (G.rl i) (P.ZR i)∧frq (G.rl i)=(P.R i).lo)∧(FrOk (G.rh i) (P.ZR i)∧frq (G.rh i)=(P.R i).hi)∧(∀ k,k<(P.R i).nt→FrOk (G.t i k) (G.z i k)∧frq (G.t i k)=((P.R i).t k).coef∧1≤G.z i k∧SzR ((P.R i).t k).coef (G.z i k)∧-9223372036854775808≤((P.R i).t k).var∧((P.R i).t k).var≤9223372036854775807)∧tot (G.z i) (P.R i).nt≤P.ZR i
def LTF (w:World) (a:Option Addr) (n:Nat) (t:Nat→PT) (f:Nat→Fr):Prop:=n=0∨∃ tb to,a=some ⟨tb,to,none⟩∧∀ k,k<n→F3 w tb (to+k*4+1) (f k)∧w.cell? ⟨tb,to+k*4,none⟩=some (.int .i64 (t k).var)
theorem LTF.below {w w':World} {a:Option Addr} {n:Nat} {t:Nat→PT} {f:Nat→Fr} (h:LTF w a n t f) (hb:Below w.heap.size w w'):LTF w' a n t f:=by
 rcases h with h|⟨tb,to,e,h⟩
 ·exact .inl h
 ·exact .inr ⟨tb,to,e,fun k hk=>⟨(h k hk).1.below hb,aB hb (h k hk).2⟩⟩
structure TPF (w:World) (P:Prob) (G:PF):Prop where
 ok:PFok P G
 k:Q3 w [.bool P.p,.slice P.a P.na P.ca,.slice P.d P.nd P.cd] G.k
 v:P.vn=0∨∃ b o,P.va=some ⟨b,o,none⟩∧∀ j,j<P.vn→F3 w b (o+j*13+1) (G.o j)∧F3 w b (o+j*13+5) (G.lo j)∧F3 w b (o+j*13+9) (G.hi j)
 r:P.rn=0∨∃ b o,P.ra=some ⟨b,o,none⟩∧∀ i,i<P.rn→F3 w b (o+i*10+3) (G.rl i)∧F3 w b (o+i*10+7) (G.rh i)∧∃ a cap,w.cell? ⟨b,o+i*10+1,none⟩=some (.slice a (P.R i).nt cap)∧(P.R i).nt≤cap∧LTF w a (P.R i).nt (P.R i).t (G.t i)
theorem TPF.below {w w':World} {P:Prob} {G:PF} (h:TPF w P G) (hb:Below w.heap.size w w'):TPF w' P G:=by
 refine ⟨h.ok,h.k.below hb,?_,?_⟩
 ·rcases h.v with h|⟨b,o,e,h⟩
  ·exact .inl h
  ·exact .inr ⟨b,o,e,fun j hj=>⟨(h j hj).1.below hb,(h j hj).2.1.below hb,(h j hj).2.2.below hb⟩⟩
 ·rcases h.r with h|⟨b,o,e,h⟩
  ·exact .inl h
  ·refine .inr ⟨b,o,e,fun i hi=>?_⟩
   obtain ⟨h1,h2,a,cap,h3,h4,h5⟩:=h i hi
   exact ⟨h1.below hb,h2.below hb,a,cap,aB hb h3,h4,h5.below hb⟩
theorem PQ.told {w:World} {P:Prob} (hP:PQ w P):∃ G,TPF w P G:=by
 obtain ⟨fk,qk,ok,ek⟩:=tr_fr hP.k
 have HV:∃ Y:Nat→Fr × Fr × Fr,(∀ j,j<P.vn→(FrOk (Y j).1 (P.ZV j)∧frq (Y j).1=(P.V j).obj)∧(FrOk (Y j).2.1 (P.ZV j)∧frq (Y j).2.1=(P.V j).lo)∧FrOk (Y j).2.2 (P.ZV j)∧frq (Y j).2.2=(P.V j).hi) ∧
  (P.vn=0∨∃ b o,P.va=some ⟨b,o,none⟩∧∀ j,j<P.vn→F3 w b (o+j*13+1) (Y j).1∧F3 w b (o+j*13+5) (Y j).2.1∧F3 w b (o+j*13+9) (Y j).2.2):=by
  rcases hP.v with h|⟨b,o,e,h⟩
  ·exact ⟨fun _=>(fk,fk,fk),fun j hj=>by omega,.inl h⟩
  ·have H:∀ j,∃ y:Fr × Fr × Fr,j<P.vn→(F3 w b (o+j*13+1) y.1∧F3 w b (o+j*13+5) y.2.1∧F3 w b (o+j*13+9) y.2.2)∧(FrOk y.1 (P.ZV j)∧frq y.1=(P.V j).obj)∧(FrOk y.2.1 (P.ZV j)∧frq y.2.1=(P.V j).lo)∧FrOk y.2.2 (P.ZV j)∧frq y.2.2=(P.V j).hi:=fun j=>by
    by_cases hj:j<P.vn
    ·obtain ⟨f1,a1,b1,e1⟩:=sK (h j hj).obj
     obtain ⟨f2,a2,b2,e2⟩:=sK (h j hj).lo
     obtain ⟨f3,a3,b3,e3⟩:=sK (h j hj).hi
     exact ⟨(f1,f2,f3),fun _=>⟨⟨a1,a2,a3⟩,⟨b1,e1⟩,⟨b2,e2⟩,b3,e3⟩⟩
    ·exact ⟨(fk,fk,fk),fun h=>absurd h hj⟩
   obtain ⟨Y,hY⟩:=Classical.axiomOfChoice H
   exact ⟨Y,fun j hj=>(hY j hj).2,.inr ⟨b,o,e,fun j hj=>(hY j hj).1⟩⟩
 have HR:∃ Y:Nat→Fr × Fr × (Nat→Fr) × (Nat→Nat),(∀ i,i<P.rn→(FrOk (Y i).1 (P.ZR i)∧frq (Y i).1=(P.R i).lo)∧(FrOk (Y i).2.1 (P.ZR i)∧frq (Y i).2.1=(P.R i).hi)∧(∀ k,k<(P.R i).nt→FrOk ((Y i).2.2.1 k) ((Y i).2.2.2 k)∧frq ((Y i).2.2.1 k)=((P.R i).t k).coef∧1≤(Y i).2.2.2 k∧SzR ((P.R i).t k).coef ((Y i).2.2.2 k)∧-9223372036854775808≤((P.R i).t k).var∧((P.R i).t k).var≤9223372036854775807)∧tot (Y i).2.2.2 (P.R i).nt≤P.ZR i) ∧
  (P.rn=0∨∃ b o,P.ra=some ⟨b,o,none⟩∧∀ i,i<P.rn→F3 w b (o+i*10+3) (Y i).1∧F3 w b (o+i*10+7) (Y i).2.1∧∃ a cap,w.cell? ⟨b,o+i*10+1,none⟩=some (.slice a (P.R i).nt cap)∧(P.R i).nt≤cap∧LTF w a (P.R i).nt (P.R i).t (Y i).2.2.1):=by
  rcases hP.r with h|⟨b,o,e,h⟩
  ·exact ⟨fun _=>(fk,fk,fun _=>fk,fun _=>0),fun j hj=>by omega,.inl h⟩
  ·have H:∀ i,∃ y:Fr × Fr × (Nat→Fr) × (Nat→Nat),i<P.rn→(F3 w b (o+i*10+3) y.1∧F3 w b (o+i*10+7) y.2.1∧∃ a cap,w.cell? ⟨b,o+i*10+1,none⟩=some (.slice a (P.R i).nt cap)∧(P.R i).nt≤cap∧LTF w a (P.R i).nt (P.R i).t y.2.2.1)∧(FrOk y.1 (P.ZR i)∧frq y.1=(P.R i).lo)∧(FrOk y.2.1 (P.ZR i)∧frq y.2.1=(P.R i).hi)∧(∀ k,k<(P.R i).nt→FrOk (y.2.2.1 k) (y.2.2.2 k)∧frq (y.2.2.1 k)=((P.R i).t k).coef∧1≤y.2.2.2 k∧SzR ((P.R i).t k).coef (y.2.2.2 k)∧-9223372036854775808≤((P.R i).t k).var∧((P.R i).t k).var≤9223372036854775807)∧tot y.2.2.2 (P.R i).nt≤P.ZR i:=fun i=>by
    by_cases hi:i<P.rn
    ·obtain ⟨f1,a1,b1,e1⟩:=sK (h i hi).lo
     obtain ⟨f2,a2,b2,e2⟩:=sK (h i hi).hi
     obtain ⟨a,cap,Z,t1,t2,t3,t4⟩:=(h i hi).terms
     have HT:∃ Y:Nat→Fr,(∀ k,k<(P.R i).nt→FrOk (Y k) (Z k)∧frq (Y k)=((P.R i).t k).coef∧1≤Z k∧SzR ((P.R i).t k).coef (Z k)∧-9223372036854775808≤((P.R i).t k).var∧((P.R i).t k).var≤9223372036854775807)∧LTF w a (P.R i).nt (P.R i).t Y:=by
      rcases t2 with t2|⟨tb,to,et,t2⟩
      ·exact ⟨fun _=>fk,fun k hk=>by omega,.inl t2⟩
      ·have K:∀ k,∃ f:Fr,k<(P.R i).nt→F3 w tb (to+k*4+1) f∧FrOk f (Z k)∧frq f=((P.R i).t k).coef:=fun k=>by
        by_cases hk:k<(P.R i).nt
        ·obtain ⟨f,g1,g2,g3⟩:=sK (t2 k hk).2.1
         exact ⟨f,fun _=>⟨g1,g2,g3⟩⟩
        ·exact ⟨fk,fun h=>absurd h hk⟩
       obtain ⟨Y,hY⟩:=Classical.axiomOfChoice K
       exact ⟨Y,fun k hk=>⟨(hY k hk).2.1,(hY k hk).2.2,(t2 k hk).2.2.1,(t2 k hk).2.2.2.1,(t2 k hk).2.2.2.2.1,(t2 k hk).2.2.2.2.2⟩,.inr ⟨tb,to,et,fun k hk=>⟨(hY k hk).1,(t2 k hk).1⟩⟩⟩
     obtain ⟨Y,y1,y2⟩:=HT
     exact ⟨(f1,f2,Y,Z),fun _=>⟨⟨a1,a2,a,cap,t1,t4,y2⟩,⟨b1,e1⟩,⟨b2,e2⟩,y1,t3⟩⟩
    ·exact ⟨(fk,fk,fun _=>fk,fun _=>0),fun h=>absurd h hi⟩
   obtain ⟨Y,hY⟩:=Classical.axiomOfChoice H
   exact ⟨Y,fun j hj=>(hY j hj).2,.inr ⟨b,o,e,fun j hj=>(hY j hj).1⟩⟩
 obtain ⟨Y,y1,y2⟩:=HV
 obtain ⟨U,u1,u2⟩:=HR
 exact ⟨⟨fk,fun j=>(Y j).1,fun j=>(Y j).2.1,fun j=>(Y j).2.2,fun i=>(U i).1,fun i=>(U i).2.1,fun i=>(U i).2.2.1,fun i=>(U i).2.2.2⟩,⟨⟨ok,ek⟩,y1,u1⟩,qk,y2,u2⟩
def aQ (P:Prob):Nat→Nat
 | 0=>1+3*P.vn
 | i+1=>aQ P i+2+(P.R i).nt
theorem jQ (P:Prob):∀ {i j:Nat},i≤j→aQ P i≤aQ P j:=fun {i j} h=>by
 induction j with
 | zero =>
  obtain rfl:i=0:=by omega
  exact Nat.le_refl _
 | succ j ih =>
  rcases (by omega:i≤j∨i=j+1) with h1|rfl
  ·have:=ih h1
   show aQ P i≤aQ P j+2+(P.R j).nt
   omega
  ·exact Nat.le_refl _
theorem fV (P:Prob) {i j:Nat} (h:i<j):aQ P i+2+(P.R i).nt≤aQ P j:=jQ P (i:=i+1) h
structure FN (P:Prob) (G:PF) (F:Nat→Fr):Prop where
 k:F 0=G.k
 v:∀ j,j<P.vn→F (1+3*j)=G.o j∧F (1+3*j+1)=G.lo j∧F (1+3*j+2)=G.hi j
 r:∀ i,i<P.rn→F (aQ P i)=G.rl i∧F (aQ P i+1)=G.rh i∧∀ k,k<(P.R i).nt→F (aQ P i+2+k)=G.t i k
end Go.Proofs.YtdcocflnafcikaaGreatDoor

import Derived.Test.YtdcocflnafcikaaGreatDoorR2HAll
namespace Go.Proofs.YtdcocflnafcikaaGreatDoor
open Go.RowKit
theorem FN.exists (P:Prob) (G:PF):∃ F,FN P G F:=by
 have H:∀ m,∃ F:Nat→Fr,F 0=G.k∧(∀ j,j<P.vn→F (1+3*j)=G.o j∧F (1+3*j+1)=G.lo j∧F (1+3*j+2)=G.hi j)∧∀ i,i<m→F (aQ P i)=G.rl i∧F (aQ P i+1)=G.rh i∧∀ k,k<(P.R i).nt→F (aQ P i+2+k)=G.t i k:=by
  intro m
  induction m with
  | zero =>
   refine ⟨fun x=>if x=0 then G.k else if (x-1)%3=0 then G.o ((x-1)/3) else if (x-1)%3=1 then G.lo ((x-1)/3) else G.hi ((x-1)/3),rfl,fun j _=>⟨?_,?_,?_⟩,fun i hi=>by omega⟩
   ·show (if 1+3*j=0 then _ else _)=_
    rw [if_neg (by omega),if_pos (by omega),show (1+3*j-1)/3=j by omega]
   ·show (if 1+3*j+1=0 then _ else _)=_
    rw [if_neg (by omega),if_neg (by omega),if_pos (by omega),show (1+3*j+1-1)/3=j by omega]
   ·show (if 1+3*j+2=0 then _ else _)=_
    rw [if_neg (by omega),if_neg (by omega),if_neg (by omega),show (1+3*j+2-1)/3=j by omega]
  | succ m ih =>
   obtain ⟨F,h1,h2,h3⟩:=ih
   have h0:aQ P 0=1+3*P.vn:=rfl
   have hm:=jQ P (Nat.zero_le m)
   refine ⟨fun x=>if x<aQ P m then F x else if x=aQ P m then G.rl m else if x=aQ P m+1 then G.rh m else G.t m (x-aQ P m-2),?_,fun j hj=>⟨?_,?_,?_⟩,fun i hi=>?_⟩
   ·show (if 0<aQ P m then _ else _)=_
    rw [if_pos (by omega)];exact h1
   ·show (if 1+3*j<aQ P m then _ else _)=_
    rw [if_pos (by omega)];exact (h2 j hj).1
   ·show (if 1+3*j+1<aQ P m then _ else _)=_
    rw [if_pos (by omega)];exact (h2 j hj).2.1
   ·show (if 1+3*j+2<aQ P m then _ else _)=_
    rw [if_pos (by omega)];exact (h2 j hj).2.2
   ·rcases (by omega:i<m∨i=m) with h|rfl
    ·have hn:=fV P h
     obtain ⟨g1,g2,g3⟩:=h3 i h
     refine ⟨?_,?_,fun k hk=>?_⟩
     ·show (if aQ P i<aQ P m then _ else _)=_
      rw [if_pos (by omega)];exact g1
     ·show (if aQ P i+1<aQ P m then _ else _)=_
      rw [if_pos (by omega)];exact g2
     ·show (if aQ P i+2+k<aQ P m then _ else _)=_
      rw [if_pos (by omega)];exact g3 k hk
    ·refine ⟨?_,?_,fun k hk=>?_⟩
     ·show (if aQ P i<aQ P i then _ else _)=_
      rw [if_neg (by omega),if_pos rfl]
     ·show (if aQ P i+1<aQ P i then _ else _)=_
      rw [if_neg (by omega),if_neg (by omega),if_pos rfl]
     ·show (if aQ P i+2+k<aQ P i then _ else _)=_
      rw [if_neg (by omega),if_neg (by omega),if_neg (by omega),show aQ P i+2+k-aQ P i-2=k by omega]
 obtain ⟨F,h1,h2,h3⟩:=H P.rn
 exact ⟨F,h1,h2,h3⟩
theorem jE {w:World} {P:Prob} {G:PF} (hP:PQ w P) (hG:PFok P G) (hK:P.K≤1048576):∀ i,i≤P.rn→aQ P i≤10000000:=by
 have hall:=hP.all
 have hvn:=aZ P.ZV P.vn
 have H:∀ i,i≤P.rn→aQ P i+1≤2+3*P.vn+3*tot P.ZR i:=by
  intro i
  induction i with
  | zero=>intro _;show 1+3*P.vn+1≤2+3*P.vn+3*1;omega
  | succ i ih =>
   intro hi
   have h1:=ih (by omega)
   have h2:=(hG.r i (by omega)).2.2.2
   have h3:=aZ (G.z i) (P.R i).nt
   show aQ P i+2+(P.R i).nt+1≤2+3*P.vn+3*(tot P.ZR i+P.ZR i+1)
   omega
 intro i hi
 have:=H i hi
 have:=iV P.ZR hi
 omega
theorem sl_one {w:World} {B:Nat} {T:TypeId} {c:Nat} {cs:List Value} (hcs:cs.length=c) (hB:B≤w.heap.size) (E:Nat→List Value) (hE:E 0=cs):SL (w.alloc (.cells cs.toArray T)) B T c (.slice (some ⟨w.heap.size,0,none⟩) 1 1) 1 E:=by
 subst hcs
 refine ⟨cs,⟨by omega,.inr ⟨_,1,cs.toArray,rfl,hB,heap_alloc_new _ _,Nat.le_refl _,by unfold maxLen;decide,by simp,?_⟩⟩,fun i hi j u hu=>?_⟩
 ·simp
 ·obtain rfl:i=0:=by omega
  rw [hE] at hu
  have:=(List.getElem?_eq_some_iff.1 hu).1
  exact ⟨by omega,by rw [Nat.zero_mul,Nat.zero_add];exact hu⟩
def NX (w:World) (b o:Nat) (Pd:List Value→Prop):Prop:=∃ p a na ca d nd cd,w.cell? ⟨b,o,none⟩=some (.bool p)∧w.cell? ⟨b,o+1,none⟩=some (.slice a na ca)∧w.cell? ⟨b,o+2,none⟩=some (.slice d nd cd)∧Pd [.bool p,.slice a na ca,.slice d nd cd]
structure TPP (w:World) (P:Prob) (Pd:Nat→List Value→Prop):Prop where
 k:Pd 0 [.bool P.p,.slice P.a P.na P.ca,.slice P.d P.nd P.cd]
 v:P.vn=0∨∃ b o,P.va=some ⟨b,o,none⟩∧∀ j,j<P.vn→NX w b (o+j*13+1) (Pd (1+3*j))∧NX w b (o+j*13+5) (Pd (1+3*j+1))∧NX w b (o+j*13+9) (Pd (1+3*j+2))
 r:P.rn=0∨∃ b o,P.ra=some ⟨b,o,none⟩∧∀ i,i<P.rn→NX w b (o+i*10+3) (Pd (aQ P i))∧NX w b (o+i*10+7) (Pd (aQ P i+1))∧∃ a cap,w.cell? ⟨b,o+i*10+1,none⟩=some (.slice a (P.R i).nt cap)∧(P.R i).nt≤cap∧((P.R i).nt=0∨∃ tb to,a=some ⟨tb,to,none⟩∧∀ k,k<(P.R i).nt→NX w tb (to+k*4+1) (Pd (aQ P i+2+k)))
theorem F3.nx {w:World} {b o:Nat} {f:Fr} (h:F3 w b o f) {g:Fr} (e:g=f):NX w b o (fun l=>Q3 w l g):=by
 subst e
 obtain ⟨p,a,na,ca,d,nd,cd,h1,h2,h3,h4⟩:=h.q3
 exact ⟨p,a,na,ca,d,nd,cd,h1,h2,h3,h4⟩
theorem TPF.tpp {w:World} {P:Prob} {G:PF} {F:Nat→Fr} (h:TPF w P G) (hF:FN P G F):TPP w P (fun i l=>Q3 w l (F i)):=by
 refine ⟨by show Q3 w _ (F 0);rw [hF.k];exact h.k,?_,?_⟩
 ·rcases h.v with h0|⟨b,o,e,hv⟩
  ·exact .inl h0
  ·refine .inr ⟨b,o,e,fun j hj=>?_⟩
   obtain ⟨f1,f2,f3⟩:=hv j hj
   obtain ⟨e1,e2,e3⟩:=hF.v j hj
   exact ⟨f1.nx e1,f2.nx e2,f3.nx e3⟩
 ·rcases h.r with h0|⟨b,o,e,hr⟩
  ·exact .inl h0
  ·refine .inr ⟨b,o,e,fun i hi=>?_⟩
   obtain ⟨f1,f2,a,cap,hc,hcap,hLT⟩:=hr i hi
   obtain ⟨e1,e2,e3⟩:=hF.r i hi
   refine ⟨f1.nx e1,f2.nx e2,a,cap,hc,hcap,?_⟩
   rcases hLT with h0|⟨tb,to,et,ht⟩
   ·exact .inl h0
   ·exact .inr ⟨tb,to,et,fun k hk=>(ht k hk).1.nx (e3 k hk)⟩
set_option maxRecDepth 100000 in
set_option maxHeartbeats 8000000 in
theorem ratsG (P:Prob) (Pd:Nat→List Value→Prop) (w:World) (hP:PQ w P) (hsz:∀ i,i≤P.rn→aQ P i≤10000000) (hG:TPP w P Pd) (hK:P.K≤1048576) :
 Calls Tryz.prog 22 #[P.val] w fun e w'=>∃ v E,e = .returned v∧SL w' (w.heap.size+1) 27 3 v (aQ P P.rn) E∧(∀ i,i<aQ P P.rn→Pd i (E i))∧Below w.heap.size w w':=by
 have hvn:P.vn≤1048576:=by have:=hP.all;have:=aZ P.ZV P.vn;omega
 have hrn:P.rn≤1048576:=by have:=hP.all;have:=aZ P.ZR P.rn;omega
 have P0:=aN w #[.bool P.mx,.string P.nm,.bool P.p,.slice P.a P.na P.ca,.slice P.d P.nd P.cd,.slice P.va P.vn P.vc,.slice P.ra P.rn P.rc] 31
 have hb:=aG w (.cells #[.bool P.mx,.string P.nm,.bool P.p,.slice P.a P.na P.ca,.slice P.d P.nd P.cd,.slice P.va P.vn P.vc,.slice P.ra P.rn P.rc] 31)
 have hs0:(w.alloc (.cells #[.bool P.mx,.string P.nm,.bool P.p,.slice P.a P.na P.ca,.slice P.d P.nd P.cd,.slice P.va P.vn P.vc,.slice P.ra P.rn P.rc] 31)).heap.size=w.heap.size+1:=by simp
 have a2:=P0 2 _ rfl
 have a3:=P0 3 _ rfl
 have a4:=P0 4 _ rfl
 have S0:=sl_one (w:=w.alloc (.cells #[.bool P.mx,.string P.nm,.bool P.p,.slice P.a P.na P.ca,.slice P.d P.nd P.cd,.slice P.va P.vn P.vc,.slice P.ra P.rn P.rc] 31)) (B:=w.heap.size+1) (T:=27) (c:=3) (cs:=[.bool P.p,.slice P.a P.na P.ca,.slice P.d P.nd P.cd]) rfl (by omega) (fun _=>[.bool P.p,.slice P.a P.na P.ca,.slice P.d P.nd P.cd]) rfl
 rw [hs0] at S0
 have hb1:=aG (w.alloc (.cells #[.bool P.mx,.string P.nm,.bool P.p,.slice P.a P.na P.ca,.slice P.d P.nd P.cd,.slice P.va P.vn P.vc,.slice P.ra P.rn P.rc] 31)) (.cells #[.bool P.p,.slice P.a P.na P.ca,.slice P.d P.nd P.cd] 27)
 have Q0:∀ i,i<1→Pd i [.bool P.p,.slice P.a P.na P.ca,.slice P.d P.nd P.cd]:=fun i hi=>by
  obtain rfl:i=0:=by omega
  exact hG.k
 unfold Prob.val
 go_enter Tryz.func22,Tryz.ntmps22
 go_wp2
 replace P0:=P0.below hb1
 replace hb:=aF hb hb1
 have hs1:=hb1.size
 rw [hs0] at hs1
 generalize (w.alloc (.cells #[.bool P.mx,.string P.nm,.bool P.p,.slice P.a P.na P.ca,.slice P.d P.nd P.cd,.slice P.va P.vn P.vc,.slice P.ra P.rn P.rc] 31)).alloc (.cells #[.bool P.p,.slice P.a P.na P.ca,.slice P.d P.nd P.cd] 27)=W at *
 clear a2 a3 a4 hs0 hb1
 have HQ0:Hid (∀ i,i<1→Pd i [.bool P.p,.slice P.a P.na P.ca,.slice P.d P.nd P.cd]):=Q0
 clear Q0
 go_loopw [3,4] (fun s3 s4 wr=>∃ (j:Nat) (E:Nat→List Value),j≤P.vn∧s4 = .int .i64 j∧SL wr (w.heap.size+1) 27 3 s3 (1+3*j) E∧(∀ i,i<1+3*j→Pd i (E i))∧BoxC wr w.heap.size (#[.bool P.mx,.string P.nm,.bool P.p,.slice P.a P.na P.ca,.slice P.d P.nd P.cd,.slice P.va P.vn P.vc,.slice P.ra P.rn P.rc]).toList∧Below w.heap.size w wr) (fun _ s4 _=>P.vn-(intOf s4).toNat)
 case atStart=>exact ⟨0,_,Nat.zero_le _,rfl,S0,HQ0.out,P0,hb⟩
 case round =>
  clear S0 HQ0 P0 hb hs1
  obtain ⟨j,E,hj,rfl,S0,HQ,Pb,hB⟩:=hrel
  obtain ⟨ga,gc,rfl,_⟩:=S0.form
  have hBs:w.heap.size+1≤wr.heap.size:=World.block_lt_of_cell? wr _ (Pb 0 _ rfl)
  have q5:=Pb 5 _ rfl
  by_cases hlt:j<P.vn
  ·have hkI:(j:Int)<(P.vn:Int):=by omega
   have hkI2:(j:Int)*13=((j*13:Nat):Int):=by omega
   rcases hG.v with h0|⟨b,o,hva,hel⟩
   ·omega
   obtain ⟨f1,f2,f3⟩:=hel j hlt
   have hbb:b<w.heap.size:=by
    obtain ⟨_,_,_,_,_,_,_,c0,_⟩:=f1
    exact World.block_lt_of_cell? w _ c0
   obtain ⟨p1,a1,na1,ca1,d1,nd1,cd1,x10,x11,x12,Y1⟩:=f1
   replace x10:=aB hB x10
   replace x11:=aB hB x11
   replace x12:=aB hB x12
   obtain ⟨p2,a2,na2,ca2,d2,nd2,cd2,x20,x21,x22,Y2⟩:=f2
   replace x20:=aB hB x20
   replace x21:=aB hB x21
   replace x22:=aB hB x22
   obtain ⟨p3,a3,na3,ca3,d3,nd3,cd3,x30,x31,x32,Y3⟩:=f3
   replace x30:=aB hB x30
   replace x31:=aB hB x31
   replace x32:=aB hB x32
   rw [hva] at q5
   clear hva hel
   go_wp2_with fail
   have HBX:∀ w',Below wr.heap.size wr w'→(w'.cell? ⟨w.heap.size,5,none⟩=some (.slice (some ⟨b,o,none⟩) P.vn P.vc)∧w'.cell? ⟨b,o+j*13+1,none⟩=some (.bool p1)∧w'.cell? ⟨b,o+j*13+1+1,none⟩=some (.slice a1 na1 ca1)∧w'.cell? ⟨b,o+j*13+1+2,none⟩=some (.slice d1 nd1 cd1)∧w'.cell? ⟨b,o+j*13+5,none⟩=some (.bool p2)∧w'.cell? ⟨b,o+j*13+5+1,none⟩=some (.slice a2 na2 ca2)∧w'.cell? ⟨b,o+j*13+5+2,none⟩=some (.slice d2 nd2 cd2)∧w'.cell? ⟨b,o+j*13+9,none⟩=some (.bool p3)∧w'.cell? ⟨b,o+j*13+9+1,none⟩=some (.slice a3 na3 ca3)∧w'.cell? ⟨b,o+j*13+9+2,none⟩=some (.slice d3 nd3 cd3)):=fun w' h=>⟨aB h q5,aB h x10,aB h x11,aB h x12,aB h x20,aB h x21,aB h x22,aB h x30,aB h x31,aB h x32⟩
   refine wp_region_noPanic (aU 23 HBX (by kernel_rfl) ?_)
   have hc0:Below wr.heap.size wr wr.drew:=aS _
   generalize wr.drew=z0 at *
   refine wpAnyG.tT 0 (v:=.slice ga (1+3*j) gc) (by decide) 23 (by kernel_rfl) (by rfl) ?y0 (HBX _ hc0) ?_
   case y0 =>
    rintro w' ⟨f0,f1,f2,f3,f4,f5,f6,f7,f8,f9⟩
    simp only [lgA,lgZ]
    go_simp
   simp only [lgA,lgZ,Act.put,lsA,lsZ,lsS]
   refine wpAnyG.tT 1 (v:=.pointer (some ⟨w.heap.size,5,none⟩)) (by decide) 23 (by kernel_rfl) (by rfl) ?y1 (HBX _ hc0) ?_
   case y1 =>
    rintro w' ⟨f0,f1,f2,f3,f4,f5,f6,f7,f8,f9⟩
    simp only [lgA,lgZ,lgS]
    go_simp
   simp only [lgA,lgZ,lgS,Act.put,lsA,lsZ,lsS]
   refine wpAnyG.tT 2 (v:=.slice (some ⟨b,o,none⟩) P.vn P.vc) (by decide) 23 (by kernel_rfl) (by rfl) ?y2 (HBX _ hc0) ?_
   case y2 =>
    rintro w' ⟨f0,f1,f2,f3,f4,f5,f6,f7,f8,f9⟩
    simp only [lgA,lgZ,lgS]
    go_simp
   simp only [lgA,lgZ,lgS,Act.put,lsA,lsZ,lsS]
   refine wpAnyG.tT 3 (v:=.int .i64 (j:Int)) (by decide) 23 (by kernel_rfl) (by rfl) ?y3 (HBX _ hc0) ?_
   case y3 =>
    rintro w' ⟨f0,f1,f2,f3,f4,f5,f6,f7,f8,f9⟩
    simp only [lgA,lgZ,lgS]
    go_simp
   simp only [lgA,lgZ,lgS,Act.put,lsA,lsZ,lsS]
   refine wpAnyG.tT 4 (v:=.pointer (some ⟨b,o+j*13,none⟩)) (by decide) 23 (by kernel_rfl) (by rfl) ?y4 (HBX _ hc0) ?_
   case y4 =>
    rintro w' ⟨f0,f1,f2,f3,f4,f5,f6,f7,f8,f9⟩
    simp only [lgA,lgZ,lgS]
    go_simp
   simp only [lgA,lgZ,lgS,Act.put,lsA,lsZ,lsS]
   refine wpAnyG.tT 5 (v:=.pointer (some ⟨b,o+j*13+1,none⟩)) (by decide) 23 (by kernel_rfl) (by rfl) ?y5 (HBX _ hc0) ?_
   case y5 =>
    rintro w' ⟨f0,f1,f2,f3,f4,f5,f6,f7,f8,f9⟩
    simp only [lgA,lgZ,lgS]
    go_simp
   simp only [lgA,lgZ,lgS,Act.put,lsA,lsZ,lsS]
   refine wpAnyG.tT 6 (v:=.agg #[.bool p1,.slice a1 na1 ca1,.slice d1 nd1 cd1]) (by decide) 23 (by kernel_rfl) (by rfl) ?y6 (HBX _ hc0) ?_
   case y6 =>
    rintro w' ⟨f0,f1,f2,f3,f4,f5,f6,f7,f8,f9⟩
    simp only [lgA,lgZ,lgS]
    go_simp
   simp only [lgA,lgZ,lgS,Act.put,lsA,lsZ,lsS]
   refine wpAnyG.tT 7 (v:=.pointer (some ⟨w.heap.size,5,none⟩)) (by decide) 23 (by kernel_rfl) (by rfl) ?y7 (HBX _ hc0) ?_
   case y7 =>
    rintro w' ⟨f0,f1,f2,f3,f4,f5,f6,f7,f8,f9⟩
    simp only [lgA,lgZ,lgS]
    go_simp
   simp only [lgA,lgZ,lgS,Act.put,lsA,lsZ,lsS]
   refine wpAnyG.tT 8 (v:=.slice (some ⟨b,o,none⟩) P.vn P.vc) (by decide) 23 (by kernel_rfl) (by rfl) ?y8 (HBX _ hc0) ?_
   case y8 =>
    rintro w' ⟨f0,f1,f2,f3,f4,f5,f6,f7,f8,f9⟩
    simp only [lgA,lgZ,lgS]
    go_simp
   simp only [lgA,lgZ,lgS,Act.put,lsA,lsZ,lsS]
   refine wpAnyG.tT 9 (v:=.int .i64 (j:Int)) (by decide) 23 (by kernel_rfl) (by rfl) ?y9 (HBX _ hc0) ?_
   case y9 =>
    rintro w' ⟨f0,f1,f2,f3,f4,f5,f6,f7,f8,f9⟩
    simp only [lgA,lgZ,lgS]
    go_simp
   simp only [lgA,lgZ,lgS,Act.put,lsA,lsZ,lsS]
   refine wpAnyG.tT 10 (v:=.pointer (some ⟨b,o+j*13,none⟩)) (by decide) 23 (by kernel_rfl) (by rfl) ?y10 (HBX _ hc0) ?_
   case y10 =>
    rintro w' ⟨f0,f1,f2,f3,f4,f5,f6,f7,f8,f9⟩
    simp only [lgA,lgZ,lgS]
    go_simp
   simp only [lgA,lgZ,lgS,Act.put,lsA,lsZ,lsS]
   refine wpAnyG.tT 11 (v:=.pointer (some ⟨b,o+j*13+4,none⟩)) (by decide) 23 (by kernel_rfl) (by rfl) ?y11 (HBX _ hc0) ?_
   case y11 =>
    rintro w' ⟨f0,f1,f2,f3,f4,f5,f6,f7,f8,f9⟩
    simp only [lgA,lgZ,lgS]
    go_simp
   simp only [lgA,lgZ,lgS,Act.put,lsA,lsZ,lsS]
   refine wpAnyG.tT 12 (v:=.pointer (some ⟨b,o+j*13+5,none⟩)) (by decide) 23 (by kernel_rfl) (by rfl) ?y12 (HBX _ hc0) ?_
   case y12 =>
    rintro w' ⟨f0,f1,f2,f3,f4,f5,f6,f7,f8,f9⟩
    simp only [lgA,lgZ,lgS]
    go_simp
   simp only [lgA,lgZ,lgS,Act.put,lsA,lsZ,lsS]
   refine wpAnyG.tT 13 (v:=.agg #[.bool p2,.slice a2 na2 ca2,.slice d2 nd2 cd2]) (by decide) 23 (by kernel_rfl) (by rfl) ?y13 (HBX _ hc0) ?_
   case y13 =>
    rintro w' ⟨f0,f1,f2,f3,f4,f5,f6,f7,f8,f9⟩
    simp only [lgA,lgZ,lgS]
    go_simp
   simp only [lgA,lgZ,lgS,Act.put,lsA,lsZ,lsS]
   refine wpAnyG.tT 14 (v:=.pointer (some ⟨w.heap.size,5,none⟩)) (by decide) 23 (by kernel_rfl) (by rfl) ?y14 (HBX _ hc0) ?_
   case y14 =>
    rintro w' ⟨f0,f1,f2,f3,f4,f5,f6,f7,f8,f9⟩
    simp only [lgA,lgZ,lgS]
    go_simp
   simp only [lgA,lgZ,lgS,Act.put,lsA,lsZ,lsS]
   refine wpAnyG.tT 15 (v:=.slice (some ⟨b,o,none⟩) P.vn P.vc) (by decide) 23 (by kernel_rfl) (by rfl) ?y15 (HBX _ hc0) ?_
   case y15 =>
    rintro w' ⟨f0,f1,f2,f3,f4,f5,f6,f7,f8,f9⟩
    simp only [lgA,lgZ,lgS]
    go_simp
   simp only [lgA,lgZ,lgS,Act.put,lsA,lsZ,lsS]
   refine wpAnyG.tT 16 (v:=.int .i64 (j:Int)) (by decide) 23 (by kernel_rfl) (by rfl) ?y16 (HBX _ hc0) ?_
   case y16 =>
    rintro w' ⟨f0,f1,f2,f3,f4,f5,f6,f7,f8,f9⟩
    simp only [lgA,lgZ,lgS]
    go_simp
   simp only [lgA,lgZ,lgS,Act.put,lsA,lsZ,lsS]
   refine wpAnyG.tT 17 (v:=.pointer (some ⟨b,o+j*13,none⟩)) (by decide) 23 (by kernel_rfl) (by rfl) ?y17 (HBX _ hc0) ?_
   case y17 =>
    rintro w' ⟨f0,f1,f2,f3,f4,f5,f6,f7,f8,f9⟩
    simp only [lgA,lgZ,lgS]
    go_simp
   simp only [lgA,lgZ,lgS,Act.put,lsA,lsZ,lsS]
   refine wpAnyG.tT 18 (v:=.pointer (some ⟨b,o+j*13+8,none⟩)) (by decide) 23 (by kernel_rfl) (by rfl) ?y18 (HBX _ hc0) ?_
   case y18 =>
    rintro w' ⟨f0,f1,f2,f3,f4,f5,f6,f7,f8,f9⟩
    simp only [lgA,lgZ,lgS]
    go_simp
   simp only [lgA,lgZ,lgS,Act.put,lsA,lsZ,lsS]
   refine wpAnyG.tT 19 (v:=.pointer (some ⟨b,o+j*13+9,none⟩)) (by decide) 23 (by kernel_rfl) (by rfl) ?y19 (HBX _ hc0) ?_
   case y19 =>
    rintro w' ⟨f0,f1,f2,f3,f4,f5,f6,f7,f8,f9⟩
    simp only [lgA,lgZ,lgS]
    go_simp
   simp only [lgA,lgZ,lgS,Act.put,lsA,lsZ,lsS]
   refine wpAnyG.tT 20 (v:=.agg #[.bool p3,.slice a3 na3 ca3,.slice d3 nd3 cd3]) (by decide) 23 (by kernel_rfl) (by rfl) ?y20 (HBX _ hc0) ?_
   case y20 =>
    rintro w' ⟨f0,f1,f2,f3,f4,f5,f6,f7,f8,f9⟩
    simp only [lgA,lgZ,lgS]
    go_simp
   simp only [lgA,lgZ,lgS,Act.put,lsA,lsZ,lsS]
   refine wpAnyG.one 21 (by kernel_rfl) (by decide) (by rfl) (fun K hK=>?_)
   simp only [lgA,lgZ,lgS]
   go_simp
   have hy:Below wr.heap.size wr (z0.alloc (.cells #[.bool p1,.slice a1 na1 ca1,.slice d1 nd1 cd1,.bool p2,.slice a2 na2 ca2,.slice d2 nd2 cd2,.bool p3,.slice a3 na3 ca3,.slice d3 nd3 cd3] 27)):=eG hc0
   refine hK _ _ ⟨fun _=>HBX _ hy,fun _=>trivial⟩ ?_
   clear hK K
   refine wpAnyG.one 22 (by kernel_rfl) (by decide) (by rfl) (fun K hK=>?_)
   simp only [lgA,lgZ,lgS]
   have HS:=S0.below hy
   have hz0:=hc0.size
   refine lD _ _ _ 43 27 3 56 3 rfl Tryz.underlying43 nM (by decide) (by decide) (by decide) (w.heap.size+1) (.slice ga (1+3*j) gc) (1+3*j) E rfl HS z0.heap.size _ rfl (fun i=>if i=0 then [.bool p1,.slice a1 na1 ca1,.slice d1 nd1 cd1] else if i=1 then [.bool p2,.slice a2 na2 ca2,.slice d2 nd2 cd2] else [.bool p3,.slice a3 na3 ca3,.slice d3 nd3 cd3]) [.bool p1,.slice a1 na1 ca1,.slice d1 nd1 cd1,.bool p2,.slice a2 na2 ca2,.slice d2 nd2 cd2,.bool p3,.slice a3 na3 ca3,.slice d3 nd3 cd3] rfl (fun i hi j u hu=>?_) (fun u hu=>by simp at hu;rcases hu with rfl|rfl|rfl|rfl|rfl|rfl|rfl|rfl|rfl <;> rfl) (aN z0 #[.bool p1,.slice a1 na1 ca1,.slice d1 nd1 cd1,.bool p2,.slice a2 na2 ca2,.slice d2 nd2 cd2,.bool p3,.slice a3 na3 ca3,.slice d3 nd3 cd3] 27) (by omega) (by simp;omega) (z0.heap.size+1) (by simp) ?_
   ·have h3:j<3:=by
     have:=(List.getElem?_eq_some_iff.1 hu).1
     revert this
     repeat' split
     all_goals simp
    refine ⟨h3,?_⟩
    rw [← hu]
    rcases (by omega:i=0∨i=1∨i=2) with rfl|rfl|rfl <;> rcases (by omega:j=0∨j=1∨j=2) with rfl|rfl|rfl <;> rfl
   intro gN capN w5 SN hg hat _
   have BN:Below w.heap.size w w5:=(aF hB hy).trans (grown_below hg (by have:=hy.size;omega) (fun k e=>by have:=(S0.lt k e).1;omega))
   have hne:∀ k,k<w.heap.size+1→(Value.ownBlock (.slice ga (1+3*j) gc))≠some k:=fun k hk e=>by have:=(S0.lt k e).1;omega
   have KB:BoxC w5 w.heap.size (#[.bool P.mx,.string P.nm,.bool P.p,.slice P.a P.na P.ca,.slice P.d P.nd P.cd,.slice P.va P.vn P.vc,.slice P.ra P.rn P.rc]).toList:=fun a u hu=>aJ hg (Pb.below hy a u hu) (hne w.heap.size (by omega))
   refine hK _ _ ⟨fun _=>⟨aJ hg (aB hy q5) (hne w.heap.size (by omega)),aJ hg (aB hy x10) (hne b (by omega)),aJ hg (aB hy x11) (hne b (by omega)),aJ hg (aB hy x12) (hne b (by omega)),aJ hg (aB hy x20) (hne b (by omega)),aJ hg (aB hy x21) (hne b (by omega)),aJ hg (aB hy x22) (hne b (by omega)),aJ hg (aB hy x30) (hne b (by omega)),aJ hg (aB hy x31) (hne b (by omega)),aJ hg (aB hy x32) (hne b (by omega))⟩,fun _=>trivial⟩ ?_
   clear hK K
   refine wpAnyG.one 23 (by kernel_rfl) (by decide) (by rfl) (fun K hK=>?_)
   simp only [lgA,lgZ,lgS]
   go_simp
   refine hK _ _ ⟨fun h=>absurd h (by decide),fun _=>trivial⟩ ?_
   clear hK K
   refine wpAnyG.done (by kernel_rfl) (NoPanic.normal ?_)
   have HN:∀ i,i<1+3*(j+1)→Pd i ((fun i=>if i<1+3*j then E i else (fun i=>if i=0 then [.bool p1,.slice a1 na1 ca1,.slice d1 nd1 cd1] else if i=1 then [.bool p2,.slice a2 na2 ca2,.slice d2 nd2 cd2] else [.bool p3,.slice a3 na3 ca3,.slice d3 nd3 cd3]) (i-(1+3*j))) i):=by
    intro i hi
    by_cases h:i<1+3*j
    ·simp only [h,if_true];exact HQ i h
    ·simp only [h,if_false]
     rcases (by omega:i=1+3*j∨i=1+3*j+1∨i=1+3*j+2) with rfl|rfl|rfl
     ·rw [show 1+3*j-(1+3*j)=0 by omega,if_pos rfl];exact Y1
     ·rw [show 1+3*j+1-(1+3*j)=1 by omega,if_neg (by decide),if_pos rfl];exact Y2
     ·rw [show 1+3*j+2-(1+3*j)=2 by omega,if_neg (by decide),if_neg (by decide)];exact Y3
   have hN3:1+3*j+3=1+3*(j+1):=by omega
   rw [hN3] at SN ⊢
   clear HBX HS hg hat hy hz0 hc0 x10 x11 x12 x20 x21 x22 x30 x31 x32 q5 S0 HQ Pb hB hne Y1 Y2 Y3
   go_wp2
   go_roundw
   case rel=>first|exact ⟨j+1,by omega,by go_num,⟨_,SN,HN⟩,KB,BN⟩|exact ⟨j+1,_,by omega,by go_num,SN,HN,KB,BN⟩|((repeat apply Exists.intro);refine ⟨?_,rfl⟩;exact ⟨j+1,_,by omega,by go_num,SN,HN,KB,BN⟩)
   case measure=>simp [intOf];omega
  ·have hkI:¬ (j:Int)<(P.vn:Int):=by omega
   obtain rfl:j=P.vn:=by omega
   have q6:=Pb 6 _ rfl
   have hE0:1+3*P.vn=aQ P 0:=rfl
   rw [hE0] at S0 HQ ⊢
   clear hkI hlt hj
   go_wp2
   clear q5 q6
   generalize wr=wA at *
   go_loopw [3,5] (fun s3 s5 wr=>∃ (i:Nat) (E:Nat→List Value),i≤P.rn∧s5 = .int .i64 i∧SL wr (w.heap.size+1) 27 3 s3 (aQ P i) E∧(∀ q,q<aQ P i→Pd q (E q))∧BoxC wr w.heap.size (#[.bool P.mx,.string P.nm,.bool P.p,.slice P.a P.na P.ca,.slice P.d P.nd P.cd,.slice P.va P.vn P.vc,.slice P.ra P.rn P.rc]).toList∧Below w.heap.size w wr) (fun _ s5 _=>P.rn-(intOf s5).toNat)
   case atStart=>exact ⟨0,_,Nat.zero_le _,rfl,S0,HQ,Pb,hB⟩
   case round =>
    clear S0 HQ Pb hB hBs hE0
    obtain ⟨i,E,hi,rfl,S0,HQ,Pb,hB⟩:=hrel
    obtain ⟨ga,gc,rfl,_⟩:=S0.form
    have hBs:w.heap.size+1≤wr.heap.size:=World.block_lt_of_cell? wr _ (Pb 0 _ rfl)
    have q5:=Pb 6 _ rfl
    have hsi:=hsz i hi
    by_cases hlt:i<P.rn
    ·have hkI:(i:Int)<(P.rn:Int):=by omega
     have hkI2:(i:Int)*10=((i*10:Nat):Int):=by omega
     rcases hG.r with h0|⟨b,o,hra,hel⟩
     ·omega
     obtain ⟨f1,f2,ta,tcap,ct,hcap,hLT⟩:=hel i hlt
     have hsn:=hsz (i+1) (by omega)
     have hof:aQ P (i+1)=aQ P i+2+(P.R i).nt:=rfl
     obtain ⟨nt,ent⟩:∃ nt,nt=(P.R i).nt:=⟨_,rfl⟩
     rw [← ent] at ct hcap hLT hof
     obtain ⟨N,eN⟩:∃ N,N=aQ P i:=⟨_,rfl⟩
     rw [← eN] at S0 HQ f1 f2 hLT hof hsi ⊢
     have hnt:nt≤10000000:=by omega
     have HEN:Hid (aQ P (i+1)=N+2+nt):=hof
     clear ent eN hof
     obtain ⟨p1,a1,na1,ca1,d1,nd1,cd1,x10,x11,x12,Y1⟩:=f1
     replace x10:=aB hB x10
     replace x11:=aB hB x11
     replace x12:=aB hB x12
     obtain ⟨p2,a2,na2,ca2,d2,nd2,cd2,x20,x21,x22,Y2⟩:=f2
     replace x20:=aB hB x20
     replace x21:=aB hB x21
     replace x22:=aB hB x22
     have hbb:b<w.heap.size:=World.block_lt_of_cell? w _ ct
     have ct0:=ct
     rw [hra] at q5
     have hra0:Hid (P.ra=some ⟨b,o,none⟩):=hra
     clear hra hel
     go_wp2_with fail
     have HBX:∀ w',Below wr.heap.size wr w'→(w'.cell? ⟨w.heap.size,6,none⟩=some (.slice (some ⟨b,o,none⟩) P.rn P.rc)∧w'.cell? ⟨b,o+i*10+3,none⟩=some (.bool p1)∧w'.cell? ⟨b,o+i*10+3+1,none⟩=some (.slice a1 na1 ca1)∧w'.cell? ⟨b,o+i*10+3+2,none⟩=some (.slice d1 nd1 cd1)∧w'.cell? ⟨b,o+i*10+7,none⟩=some (.bool p2)∧w'.cell? ⟨b,o+i*10+7+1,none⟩=some (.slice a2 na2 ca2)∧w'.cell? ⟨b,o+i*10+7+2,none⟩=some (.slice d2 nd2 cd2)):=fun w' h=>⟨aB h q5,aB h x10,aB h x11,aB h x12,aB h x20,aB h x21,aB h x22⟩
     refine wp_region_noPanic (aU 17 HBX (by kernel_rfl) ?_)
     have hc0:Below wr.heap.size wr wr.drew:=aS _
     generalize wr.drew=z0 at *
     refine wpAnyG.tT 0 (v:=.slice ga N gc) (by decide) 17 (by kernel_rfl) (by rfl) ?y0 (HBX _ hc0) ?_
     case y0 =>
      rintro w' ⟨f0,f1,f2,f3,f4,f5,f6⟩
      simp only [lgA,lgZ]
      go_simp
     simp only [lgA,lgZ,Act.put,lsA,lsZ,lsS]
     refine wpAnyG.tT 1 (v:=.pointer (some ⟨w.heap.size,6,none⟩)) (by decide) 17 (by kernel_rfl) (by rfl) ?y1 (HBX _ hc0) ?_
     case y1 =>
      rintro w' ⟨f0,f1,f2,f3,f4,f5,f6⟩
      simp only [lgA,lgZ,lgS]
      go_simp
     simp only [lgA,lgZ,lgS,Act.put,lsA,lsZ,lsS]
     refine wpAnyG.tT 2 (v:=.slice (some ⟨b,o,none⟩) P.rn P.rc) (by decide) 17 (by kernel_rfl) (by rfl) ?y2 (HBX _ hc0) ?_
     case y2 =>
      rintro w' ⟨f0,f1,f2,f3,f4,f5,f6⟩
      simp only [lgA,lgZ,lgS]
      go_simp
     simp only [lgA,lgZ,lgS,Act.put,lsA,lsZ,lsS]
     refine wpAnyG.tT 3 (v:=.int .i64 (i:Int)) (by decide) 17 (by kernel_rfl) (by rfl) ?y3 (HBX _ hc0) ?_
     case y3 =>
      rintro w' ⟨f0,f1,f2,f3,f4,f5,f6⟩
      simp only [lgA,lgZ,lgS]
      go_simp
     simp only [lgA,lgZ,lgS,Act.put,lsA,lsZ,lsS]
     refine wpAnyG.tT 4 (v:=.pointer (some ⟨b,o+i*10,none⟩)) (by decide) 17 (by kernel_rfl) (by rfl) ?y4 (HBX _ hc0) ?_
     case y4 =>
      rintro w' ⟨f0,f1,f2,f3,f4,f5,f6⟩
      simp only [lgA,lgZ,lgS]
      go_simp
     simp only [lgA,lgZ,lgS,Act.put,lsA,lsZ,lsS]
     refine wpAnyG.tT 5 (v:=.pointer (some ⟨b,o+i*10+2,none⟩)) (by decide) 17 (by kernel_rfl) (by rfl) ?y5 (HBX _ hc0) ?_
     case y5 =>
      rintro w' ⟨f0,f1,f2,f3,f4,f5,f6⟩
      simp only [lgA,lgZ,lgS]
      go_simp
     simp only [lgA,lgZ,lgS,Act.put,lsA,lsZ,lsS]
     refine wpAnyG.tT 6 (v:=.pointer (some ⟨b,o+i*10+3,none⟩)) (by decide) 17 (by kernel_rfl) (by rfl) ?y6 (HBX _ hc0) ?_
     case y6 =>
      rintro w' ⟨f0,f1,f2,f3,f4,f5,f6⟩
      simp only [lgA,lgZ,lgS]
      go_simp
     simp only [lgA,lgZ,lgS,Act.put,lsA,lsZ,lsS]
     refine wpAnyG.tT 7 (v:=.agg #[.bool p1,.slice a1 na1 ca1,.slice d1 nd1 cd1]) (by decide) 17 (by kernel_rfl) (by rfl) ?y7 (HBX _ hc0) ?_
     case y7 =>
      rintro w' ⟨f0,f1,f2,f3,f4,f5,f6⟩
      simp only [lgA,lgZ,lgS]
      go_simp
     simp only [lgA,lgZ,lgS,Act.put,lsA,lsZ,lsS]
     refine wpAnyG.tT 8 (v:=.pointer (some ⟨w.heap.size,6,none⟩)) (by decide) 17 (by kernel_rfl) (by rfl) ?y8 (HBX _ hc0) ?_
     case y8 =>
      rintro w' ⟨f0,f1,f2,f3,f4,f5,f6⟩
      simp only [lgA,lgZ,lgS]
      go_simp
     simp only [lgA,lgZ,lgS,Act.put,lsA,lsZ,lsS]
     refine wpAnyG.tT 9 (v:=.slice (some ⟨b,o,none⟩) P.rn P.rc) (by decide) 17 (by kernel_rfl) (by rfl) ?y9 (HBX _ hc0) ?_
     case y9 =>
      rintro w' ⟨f0,f1,f2,f3,f4,f5,f6⟩
      simp only [lgA,lgZ,lgS]
      go_simp
     simp only [lgA,lgZ,lgS,Act.put,lsA,lsZ,lsS]
     refine wpAnyG.tT 10 (v:=.int .i64 (i:Int)) (by decide) 17 (by kernel_rfl) (by rfl) ?y10 (HBX _ hc0) ?_
     case y10 =>
      rintro w' ⟨f0,f1,f2,f3,f4,f5,f6⟩
      simp only [lgA,lgZ,lgS]
      go_simp
     simp only [lgA,lgZ,lgS,Act.put,lsA,lsZ,lsS]
     refine wpAnyG.tT 11 (v:=.pointer (some ⟨b,o+i*10,none⟩)) (by decide) 17 (by kernel_rfl) (by rfl) ?y11 (HBX _ hc0) ?_
     case y11 =>
      rintro w' ⟨f0,f1,f2,f3,f4,f5,f6⟩
      simp only [lgA,lgZ,lgS]
      go_simp
     simp only [lgA,lgZ,lgS,Act.put,lsA,lsZ,lsS]
     refine wpAnyG.tT 12 (v:=.pointer (some ⟨b,o+i*10+6,none⟩)) (by decide) 17 (by kernel_rfl) (by rfl) ?y12 (HBX _ hc0) ?_
     case y12 =>
      rintro w' ⟨f0,f1,f2,f3,f4,f5,f6⟩
      simp only [lgA,lgZ,lgS]
      go_simp
     simp only [lgA,lgZ,lgS,Act.put,lsA,lsZ,lsS]
     refine wpAnyG.tT 13 (v:=.pointer (some ⟨b,o+i*10+7,none⟩)) (by decide) 17 (by kernel_rfl) (by rfl) ?y13 (HBX _ hc0) ?_
     case y13 =>
      rintro w' ⟨f0,f1,f2,f3,f4,f5,f6⟩
      simp only [lgA,lgZ,lgS]
      go_simp
     simp only [lgA,lgZ,lgS,Act.put,lsA,lsZ,lsS]
     refine wpAnyG.tT 14 (v:=.agg #[.bool p2,.slice a2 na2 ca2,.slice d2 nd2 cd2]) (by decide) 17 (by kernel_rfl) (by rfl) ?y14 (HBX _ hc0) ?_
     case y14 =>
      rintro w' ⟨f0,f1,f2,f3,f4,f5,f6⟩
      simp only [lgA,lgZ,lgS]
      go_simp
     simp only [lgA,lgZ,lgS,Act.put,lsA,lsZ,lsS]
     refine wpAnyG.one 15 (by kernel_rfl) (by decide) (by rfl) (fun K hK=>?_)
     simp only [lgA,lgZ,lgS]
     go_simp
     have hy:Below wr.heap.size wr (z0.alloc (.cells #[.bool p1,.slice a1 na1 ca1,.slice d1 nd1 cd1,.bool p2,.slice a2 na2 ca2,.slice d2 nd2 cd2] 27)):=eG hc0
     refine hK _ _ ⟨fun _=>HBX _ hy,fun _=>trivial⟩ ?_
     clear hK K
     refine wpAnyG.one 16 (by kernel_rfl) (by decide) (by rfl) (fun K hK=>?_)
     simp only [lgA,lgZ,lgS]
     have HS:=S0.below hy
     have hz0:=hc0.size
     refine lD _ _ _ 43 27 3 56 2 rfl Tryz.underlying43 nM (by decide) (by decide) (by decide) (w.heap.size+1) (.slice ga N gc) (N) E rfl HS z0.heap.size _ rfl (fun i=>if i=0 then [.bool p1,.slice a1 na1 ca1,.slice d1 nd1 cd1] else [.bool p2,.slice a2 na2 ca2,.slice d2 nd2 cd2]) [.bool p1,.slice a1 na1 ca1,.slice d1 nd1 cd1,.bool p2,.slice a2 na2 ca2,.slice d2 nd2 cd2] rfl (fun i hi j u hu=>?_) (fun u hu=>by simp at hu;rcases hu with rfl|rfl|rfl|rfl|rfl|rfl <;> rfl) (aN z0 #[.bool p1,.slice a1 na1 ca1,.slice d1 nd1 cd1,.bool p2,.slice a2 na2 ca2,.slice d2 nd2 cd2] 27) (by omega) (by simp;omega) (z0.heap.size+1) (by simp) ?_
     ·have h3:j<3:=by
       have:=(List.getElem?_eq_some_iff.1 hu).1
       revert this
       repeat' split
       all_goals simp
      refine ⟨h3,?_⟩
      rw [← hu]
      rcases (by omega:i=0∨i=1) with rfl|rfl <;> rcases (by omega:j=0∨j=1∨j=2) with rfl|rfl|rfl <;> rfl
     intro gN capN w5 SN hg hat _
     have BN:Below w.heap.size w w5:=(aF hB hy).trans (grown_below hg (by have:=hy.size;omega) (fun k e=>by have:=(S0.lt k e).1;omega))
     have hne:∀ k,k<w.heap.size+1→(Value.ownBlock (.slice ga N gc))≠some k:=fun k hk e=>by have:=(S0.lt k e).1;omega
     have KB:BoxC w5 w.heap.size (#[.bool P.mx,.string P.nm,.bool P.p,.slice P.a P.na P.ca,.slice P.d P.nd P.cd,.slice P.va P.vn P.vc,.slice P.ra P.rn P.rc]).toList:=fun a u hu=>aJ hg (Pb.below hy a u hu) (hne w.heap.size (by omega))
     refine hK _ _ ⟨fun _=>⟨aJ hg (aB hy q5) (hne w.heap.size (by omega)),aJ hg (aB hy x10) (hne b (by omega)),aJ hg (aB hy x11) (hne b (by omega)),aJ hg (aB hy x12) (hne b (by omega)),aJ hg (aB hy x20) (hne b (by omega)),aJ hg (aB hy x21) (hne b (by omega)),aJ hg (aB hy x22) (hne b (by omega))⟩,fun _=>trivial⟩ ?_
     clear hK K
     refine wpAnyG.one 17 (by kernel_rfl) (by decide) (by rfl) (fun K hK=>?_)
     simp only [lgA,lgZ,lgS]
     go_simp
     refine hK _ _ ⟨fun h=>absurd h (by decide),fun _=>trivial⟩ ?_
     clear hK K
     refine wpAnyG.done (by kernel_rfl) (NoPanic.normal ?_)
     have HN:∀ q,q<N+2→Pd q ((fun i=>if i<N then E i else (fun i=>if i=0 then [.bool p1,.slice a1 na1 ca1,.slice d1 nd1 cd1] else [.bool p2,.slice a2 na2 ca2,.slice d2 nd2 cd2]) (i-N)) q):=by
      intro q hq
      by_cases h:q<N
      ·simp only [h,if_true];exact HQ q h
      ·simp only [h,if_false]
       rcases (by omega:q=N∨q=N+1) with rfl|rfl
       ·rw [show q-q=0 by omega,if_pos rfl];exact Y1
       ·rw [show N+1-N=1 by omega,if_neg (by decide)];exact Y2
     clear HBX HS hg hat hy hz0 hc0 x10 x11 x12 x20 x21 x22 S0 HQ Pb hB hne Y1 Y2 q5
     go_wp2
     go_loopw [3,6] (fun s3 s6 wr=>∃ (k:Nat) (E:Nat→List Value),k≤nt∧s6 = .int .i64 k∧SL wr (w.heap.size+1) 27 3 s3 (N+2+k) E∧(∀ q,q<N+2+k→Pd q (E q))∧BoxC wr w.heap.size (#[.bool P.mx,.string P.nm,.bool P.p,.slice P.a P.na P.ca,.slice P.d P.nd P.cd,.slice P.va P.vn P.vc,.slice P.ra P.rn P.rc]).toList∧Below w.heap.size w wr) (fun _ s6 _=>nt-(intOf s6).toNat)
     case atStart=>exact ⟨0,_,Nat.zero_le _,rfl,SN,HN,KB,BN⟩
     case round =>
      clear SN HN KB BN hBs
      obtain ⟨k,E2,hk,rfl,S0,HQ,Pb,hB⟩:=hrel
      obtain ⟨ga,gc,rfl,_⟩:=S0.form
      have hBs:w.heap.size+1≤wr.heap.size:=World.block_lt_of_cell? wr _ (Pb 0 _ rfl)
      have q5:=Pb 6 _ rfl
      have ct:=aB hB ct0
      rw [hra0.out] at q5
      by_cases hlt2:k<nt
      ·have hkJ:(k:Int)<(nt:Int):=by omega
       have hkJ2:(k:Int)*4=((k*4:Nat):Int):=by omega
       rcases hLT with h0|⟨tb,to,rfl,het⟩
       ·omega
       have f1:=het k hlt2
       obtain ⟨p1,a1,na1,ca1,d1,nd1,cd1,x10,x11,x12,Y1⟩:=f1
       replace x10:=aB hB x10
       replace x11:=aB hB x11
       replace x12:=aB hB x12
       have hb2:=aG wr (.cells #[.bool p1,.slice a1 na1 ca1,.slice d1 nd1 cd1] 27)
       have HS:=S0.below hb2
       clear het
       go_wp2_with (at_builtin;refine aV _ rfl _ _ 43 27 3 56 rfl Tryz.underlying43 nM (by decide) (by decide) (w.heap.size+1) (.slice ga (N+2+k) gc) (N+2+k) E2 rfl HS wr.heap.size _ rfl [.bool p1,.slice a1 na1 ca1,.slice d1 nd1 cd1] rfl (fun u hu=>by simp at hu;rcases hu with rfl|rfl|rfl <;> rfl) (aN wr #[.bool p1,.slice a1 na1 ca1,.slice d1 nd1 cd1] 27) (by have:=HEN.out;omega) (by simp;omega) (wr.heap.size+1) (by simp) ?_)
       intro gN capN w5 SN hg hat _
       have BN:Below w.heap.size w w5:=(aF hB hb2).trans (grown_below hg (by have:=hb2.size;omega) (fun k e=>by have:=(S0.lt k e).1;omega))
       have KB:BoxC w5 w.heap.size (#[.bool P.mx,.string P.nm,.bool P.p,.slice P.a P.na P.ca,.slice P.d P.nd P.cd,.slice P.va P.vn P.vc,.slice P.ra P.rn P.rc]).toList:=fun a u hu=>aJ hg (Pb.below hb2 a u hu) (fun e=>by have:=(S0.lt w.heap.size e).1;omega)
       have HN:∀ q,q<N+2+(k+1)→Pd q ((fun i=>if i<N+2+k then E2 i else [.bool p1,.slice a1 na1 ca1,.slice d1 nd1 cd1]) q):=by
        intro q hq
        by_cases h:q<N+2+k
        ·simp only [h,if_true];exact HQ q h
        ·simp only [h,if_false]
         obtain rfl:q=N+2+k:=by omega
         exact Y1
       have hN3:N+2+k+1=N+2+(k+1):=by omega
       rw [hN3] at SN ⊢
       clear HS hg hat hb2 x10 x11 x12 q5 ct S0 HQ Pb hB Y1 hN3
       go_wp2
       go_roundw
       case rel=>first|exact ⟨k+1,by omega,by go_num,⟨_,SN,HN⟩,KB,BN⟩|exact ⟨k+1,_,by omega,by go_num,SN,HN,KB,BN⟩|((repeat apply Exists.intro);refine ⟨?_,rfl⟩;exact ⟨k+1,_,by omega,by go_num,SN,HN,KB,BN⟩)
       case measure=>simp [intOf];omega
      ·have hkJ:¬ (k:Int)<(nt:Int):=by omega
       obtain rfl:k=nt:=by omega
       have hEN:=HEN.out
       rw [← hEN] at S0 HQ
       rw [← hEN]
       clear hEN
       go_wp2
       go_roundw
       case rel=>first|exact ⟨i+1,by omega,by go_num,⟨_,S0,HQ⟩,Pb,hB⟩|exact ⟨⟨i+1,by omega,by go_num,_,S0,HQ,Pb⟩,hB⟩|exact ⟨i+1,_,by omega,by go_num,S0,HQ,Pb,hB⟩|((repeat apply Exists.intro);refine ⟨?_,rfl⟩;exact ⟨i+1,_,by omega,by go_num,S0,HQ,Pb,hB⟩)
       case measure=>simp [intOf];omega
    ·have hkI:¬ (i:Int)<(P.rn:Int):=by omega
     obtain rfl:i=P.rn:=by omega
     go_wp2
     go_ret
     exact ⟨_,rfl,E,S0,HQ,hB⟩
theorem ratsQ (P:Prob) (G:PF) (F:Nat→Fr) (w:World) (hP:PQ w P) (hG:TPF w P G) (hF:FN P G F) (hK:P.K≤1048576) :
 Calls Tryz.prog 22 #[P.val] w fun e w'=>∃ v E,e = .returned v∧SL w' (w.heap.size+1) 27 3 v (aQ P P.rn) E∧(∀ i,i<aQ P P.rn→Q3 w (E i) (F i))∧Below w.heap.size w w' :=
 ratsG P (fun i l=>Q3 w l (F i)) w hP (jE hP hG.ok hK) (hG.tpp hF) hK
end Go.Proofs.YtdcocflnafcikaaGreatDoor

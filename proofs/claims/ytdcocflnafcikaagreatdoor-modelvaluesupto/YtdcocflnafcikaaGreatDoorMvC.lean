import Derived.Test.YtdcocflnafcikaaGreatDoorPvF0All
import Derived.Test.YtdcocflnafcikaaGreatDoorLaDAll
import Derived.Test.YtdcocflnafcikaaGreatDoorPuG
import Derived.Test.YtdcocflnafcikaaGreatDoorPuH
import Derived.Test.YtdcocflnafcikaaGreatDoorPuJAll
namespace Go.Proofs.YtdcocflnafcikaaGreatDoor
open Go.RowKit
theorem wp_cutM {P:Program} {c:Code} {Q:Exit→Act→World→Prop} {a:Act} {w:World} (J:Act→Act→World→Prop) (h1:c.wp P (fun e a' w'=>e = .normal∧J a a' w') a w) (h2:∀ a' w',J a a' w'→Q .normal a' w'):c.wp P Q a w :=
 Code.wp_mono (fun e a' w' h=>by obtain ⟨rfl,h⟩:=h;exact h2 a' w' h) h1
def Fam (w:World) (n:Nat) (E:Nat→List Value) (a b:Nat):Prop:=∃ lo hi:Nat→Nat,(∀ i,i<n→a≤lo i∧hi i≤b∧(E i).length=3∧(∀ u ∈ E i,u.oneCell'=true)∧NmX w (lo i) (hi i) (E i))∧∀ i j,i<j→j<n→hi i≤lo j∨hi j≤lo i
theorem NmX.form {w:World} {lo hi:Nat} {l:List Value} (h:NmX w lo hi l):l.length=3∧∀ u ∈ l,u.oneCell'=true:=by
 obtain ⟨f,u,v,xs,ys,rfl,h1,h2,_⟩:=h
 obtain ⟨a1,c1,e1⟩:=h1.slice
 obtain ⟨a2,c2,e2⟩:=h2.slice
 refine ⟨rfl,fun u hu=>?_⟩
 simp only [List.mem_cons,List.mem_nil_iff,or_false] at hu
 rcases hu with rfl|rfl|rfl
 ·rfl
 ·rw [e1];rfl
 ·rw [e2];rfl
theorem Fam.below {w w':World} {n:Nat} {E:Nat→List Value} {a b:Nat} (h:Fam w n E a b) (hb:Below w.heap.size w w'):Fam w' n E a b:=by
 obtain ⟨lo,hi,h1,h2⟩:=h
 exact ⟨lo,hi,fun i hi=>⟨(h1 i hi).1,(h1 i hi).2.1,(h1 i hi).2.2.1,(h1 i hi).2.2.2.1,(h1 i hi).2.2.2.2.below hb⟩,h2⟩
theorem Fam.cat {w:World} {n m:Nat} {E D:Nat→List Value} {a b c d p q:Nat} (h:Fam w n E a b) (k:Fam w m D c d) (hp:b≤c∨d≤a) (h1:p≤a∧p≤c) (h2:b≤q∧d≤q):Fam w (n+m) (fun i=>if i<n then E i else D (i-n)) p q:=by
 obtain ⟨lo,hi,e1,e2⟩:=h
 obtain ⟨lo',hi',k1,k2⟩:=k
 refine ⟨fun i=>if i<n then lo i else lo' (i-n),fun i=>if i<n then hi i else hi' (i-n),fun i hi=>?_,fun i j hij hj=>?_⟩
 ·by_cases hn:i<n
  ·simp only [hn,if_true]
   obtain ⟨r1,r2,r3⟩:=e1 i hn
   exact ⟨by omega,by omega,r3⟩
  ·simp only [hn,if_false]
   obtain ⟨r1,r2,r3⟩:=k1 (i-n) (by omega)
   exact ⟨by omega,by omega,r3⟩
 ·by_cases hn:j<n
  ·have hn2:i<n:=by omega
   simp only [hn,hn2,if_true]
   exact e2 i j hij hn
  ·by_cases hn2:i<n
   ·simp only [hn,hn2,if_true,if_false]
    obtain ⟨r1,r2,_⟩:=e1 i hn2
    obtain ⟨s1,s2,_⟩:=k1 (j-n) (by omega)
    omega
   ·simp only [hn,hn2,if_false]
    exact k2 (i-n) (j-n) (by omega) (by omega)
theorem LJ.fam {w:World} {R n ka kn kd kg:Nat} {F:Nat→Fr} {A:Nat→Bk} {va vn vd vg:Value} (h:LJ w R n ka kn kd kg n F A va vn vd vg) (hF:∀ i,i<n→(F i).xs.length≤2000000∧(F i).ys.length≤2000000):Fam w n (lcl F A) R w.heap.size:=by
 refine ⟨fun i=>(A i).gf,fun i=>(A i).hf+1,fun i hi=>?_,fun i j hij hj=>.inl ?_⟩
 ·have n1:=h.nmx hF i hi
  have h1:=(h.od i hi).1
  have h2:=(h.ld i hi).lg.1
  exact ⟨by show R≤(A i).gf;omega,by show (A i).hf+1≤_;omega,n1.form.1,n1.form.2,n1⟩
 ·exact (h.od i (by omega)).2.2 j hij hj
theorem Fam.form {w:World} {n:Nat} {E:Nat→List Value} {a b:Nat} (h:Fam w n E a b):∀ i,i<n→(E i).length=3∧∀ u ∈ E i,u.oneCell'=true:=by
 obtain ⟨lo,hi,h1,_⟩:=h
 exact fun i hi=>⟨(h1 i hi).2.2.1,(h1 i hi).2.2.2.1⟩
def CLs (w:World) (a:Option Addr) (n:Nat) (E:Nat→List Value):Prop:=n=0∨∃ b o,a=some ⟨b,o,none⟩∧∀ i,i<n→∀ j u,(E i)[j]? = some u→w.cell? ⟨b,o+i*3+j,none⟩=some u
theorem CLs.below {w w':World} {a:Option Addr} {n:Nat} {E:Nat→List Value} (h:CLs w a n E) (hb:Below w.heap.size w w'):CLs w' a n E:=by
 rcases h with h|⟨b,o,e,h⟩
 ·exact .inl h
 ·exact .inr ⟨b,o,e,fun i hi j u hu=>kept_c hb (h i hi j u hu)⟩
theorem SL.cls {w:World} {B:Nat} {T:TypeId} {a:Option Addr} {m n cap:Nat} {E:Nat→List Value} (h:SL w B T 3 (.slice a m cap) n E):CLs w a n E:=by
 rcases h.cell with h0|⟨g,e,hc⟩
 ·exact .inl h0
 ·exact .inr ⟨g,0,e,fun i hi j u hu=>by rw [Nat.zero_add];exact hc i hi j u hu⟩
theorem TPP.below {w w':World} {P:Prob} {Pd:Nat→List Value→Prop} (h:TPP w P Pd) (hb:Below w.heap.size w w'):TPP w' P Pd:=by
 refine ⟨h.k,?_,?_⟩
 ·rcases h.v with h|⟨b,o,e,h⟩
  ·exact .inl h
  ·exact .inr ⟨b,o,e,fun j hj=>⟨(h j hj).1.below hb,(h j hj).2.1.below hb,(h j hj).2.2.below hb⟩⟩
 ·rcases h.r with h|⟨b,o,e,h⟩
  ·exact .inl h
  ·refine .inr ⟨b,o,e,fun i hi=>?_⟩
   obtain ⟨h1,h2,a,cap,h3,h4,h5⟩:=h i hi
   refine ⟨h1.below hb,h2.below hb,a,cap,kept_c hb h3,h4,?_⟩
   rcases h5 with h5|⟨tb,to,e5,h5⟩
   ·exact .inl h5
   ·exact .inr ⟨tb,to,e5,fun k hk=>(h5 k hk).below hb⟩
theorem RA.fam {w:World} {B C:Nat} {a:Option Addr} {n cap:Nat} {X:Nat→Rat} {S:Nat} (h:RA w B C (.slice a n cap) n X S) (hS:S≤1000000000):∃ E,Fam w n E B C∧CLs w a n E:=by
 obtain ⟨E,lo,h1,h2,h3,h4,h5⟩:=h
 have L0:=RA.le0 (fun i hi=>(h2 i hi).1)
 refine ⟨E,⟨lo,fun i=>lo (i+1),fun i hi=>?_,fun i j hij hj=>.inl (L0 j (by omega) (i+1) (by omega))⟩,h1.cls⟩
 ·have n1:=(h2 i hi).2.nmx hS
  have:=L0 i (by omega) 0 (Nat.zero_le _)
  have:=L0 n (Nat.le_refl _) (i+1) (by omega)
  exact ⟨by omega,by show lo (i+1)≤C;omega,n1.form.1,n1.form.2,n1⟩
theorem Fam.apart {va:Option Addr} {n vc B C:Nat} {E:Nat→List Value} {b:Nat} (w:World) (h:Fam w n E B b) (hB:B≤C) (hC:C≤w.heap.size) (hL:SL w C 27 3 (.slice va n vc) n E) (hn:n≤20000000) :
  Calls Tryz.prog 23 #[.slice va n vc] w fun e w'=>e = .returned (.bool true)∧Below B w w':=by
 obtain ⟨lo,hi,h1,h2⟩:=h
 exact (apartE w hB hC hL (fun i hi=>⟨(h1 i hi).1,(h1 i hi).2.2.2.2⟩) h2 hn).mono fun _ _ q=>⟨q.1,q.2.1⟩
theorem Cpy.vlu {P Q:Prob} (h:Cpy P Q) (Y:Nat→Rat):vlu Q Y=vlu P Y:=by
 unfold Go.Proofs.YtdcocflnafcikaaGreatDoor.vlu
 rw [h.k,h.V,h.vn]
set_option maxRecDepth 100000 in
set_option maxHeartbeats 16000000 in
theorem mvalues_walk (P:Prob) {xa:Option Addr} {nx xc:Nat} {X:Nat→Rat} {Zx:Nat→Nat} {Kx:Nat} (w:World) (hP:PQ w P) (hx:LQ w xa nx X Zx) (hzx:∀ i,i<nx→1≤Zx i∧SzR (X i) (Zx i)) (htx:tot Zx nx≤Kx) (_hxc:nx≤xc) (hK:P.K+Kx≤1048576) (hT:TB w)
  (HA:∀ w1,Below w.heap.size w w1→Calls Tryz.prog 6 #[] w1 fun e w'=>e = .returned (.bool true)∧Below w1.heap.size w1 w') :
  Calls Tryz.prog 4 #[P.val,.slice xa nx xc] w fun e w'=>e = .returned (.bool true)∧Below w.heap.size w w':=by
 have hKK:P.K≤1048576:=by omega
 have hZx:∀ j,j<nx→Zx j≤Kx:=fun j hj=>by have:=tot_le (Z:=Zx) hj;omega
 have hnx:nx≤1048576:=by have:=tot_len Zx nx;omega
 have hrn:P.rn≤1048576:=by have:=hP.all;have:=tot_len P.ZR P.rn;omega
 obtain ⟨Fx,hLx,hFx⟩:=lq_fr hx
 have hFl:∀ i,i<nx→(Fx i).xs.length≤2000000∧(Fx i).ys.length≤2000000:=fun i hi=>(hFx i hi).1.lens (by have:=hZx i hi;omega)
 have HVD:∀ w1,Below w.heap.size w w1→Calls Tryz.prog 18 #[.agg #[.bool P.mx,.string P.nm,.bool P.p,.slice P.a P.na P.ca,.slice P.d P.nd P.cd,.slice P.va P.vn P.vc,.slice P.ra P.rn P.rc],.slice xa nx xc] w1 fun e w'=>∃ f c n1 k1 c' n' k',e = .returned (.agg #[.bool f,.slice c n1 k1,.slice c' n' k'])∧GR w' w1.heap.size f c n1 k1 c' n' k' (vlu P (xn X nx)) 2097160∧Below w1.heap.size w1 w':=fun w1 hb =>
  valD2 P w1 (hP.below hb) (hx.below hb) hzx htx hK
 have HSD:∀ w1,Below w.heap.size w w1→Calls Tryz.prog 20 #[.agg #[.bool P.mx,.string P.nm,.bool P.p,.slice P.a P.na P.ca,.slice P.d P.nd P.cd,.slice P.va P.vn P.vc,.slice P.ra P.rn P.rc],.slice xa nx xc] w1 fun e w'=>∃ a cap,e = .returned (.slice a P.rn cap)∧RL w' w1.heap.size (.slice a P.rn cap) P.rn (fun i=>cv (P.R i) (xn X nx) P.vn) 2097160∧Below w1.heap.size w1 w':=fun w1 hb =>
  sumDA P w1 (hP.below hb) (hx.below hb) hzx htx hK
 have Pb:=box_new w #[.bool P.mx,.string P.nm,.bool P.p,.slice P.a P.na P.ca,.slice P.d P.nd P.cd,.slice P.va P.vn P.vc,.slice P.ra P.rn P.rc] 31
 have hb:=bel_d0 w (.cells #[.bool P.mx,.string P.nm,.bool P.p,.slice P.a P.na P.ca,.slice P.d P.nd P.cd,.slice P.va P.vn P.vc,.slice P.ra P.rn P.rc] 31)
 unfold Prob.val
 have p0:=Pb 0 _ rfl
 have p1:=Pb 1 _ rfl
 have p2:=Pb 2 _ rfl
 have p3:=Pb 3 _ rfl
 have p4:=Pb 4 _ rfl
 have p5:=Pb 5 _ rfl
 have p6:=Pb 6 _ rfl
 go_enter Tryz.func4,Tryz.ntmps4
 go_wp2_with fail
 generalize w.alloc (.cells #[.bool P.mx,.string P.nm,.bool P.p,.slice P.a P.na P.ca,.slice P.d P.nd P.cd,.slice P.va P.vn P.vc,.slice P.ra P.rn P.rc] 31)=W at *
 refine (beyondQ P W (hP.below hb) hKK).mono ?_
 clear p0 p1 p2 p3 p4 p5 p6
 rintro e w1 ⟨bb,rfl,h1⟩
 replace Pb:=Pb.below h1
 replace hb:=bel_tr hb h1
 clear h1
 cases bb
 rotate_left
 ·go_wp2
  go_ret
  exact ⟨rfl,hb⟩
 go_wp2_with fail
 refine (HA w1 hb).mono ?_
 rintro e w2 ⟨rfl,h1⟩
 replace Pb:=Pb.below h1
 replace hb:=bel_tr hb h1
 clear h1 HA
 have p0:=Pb 0 _ rfl
 have p1:=Pb 1 _ rfl
 have p2:=Pb 2 _ rfl
 have p3:=Pb 3 _ rfl
 have p4:=Pb 4 _ rfl
 have p5:=Pb 5 _ rfl
 have p6:=Pb 6 _ rfl
 go_wp2_with fail
 refine (lend7G P w2 (hP.below hb) hKK).mono ?_
 clear p0 p1 p2 p3 p4 p5 p6
 rintro e w3 ⟨R,Rr,N,F,A,va,vn,vd,vg,G,Q,O,gv,gr,rfl,hL,h1,hRr⟩
 replace hRr:w.heap.size≤Rr:=Nat.le_trans hb.size hRr
 replace Pb:=Pb.below h1
 replace hb:=bel_tr hb h1
 clear h1
 have FO1:=hL.lj.fam hL.hF
 go_wp2_with fail
 refine (lend3Q xa nx xc Fx w3 (hLx.below hb) (by omega) hFl).mono ?_
 rintro e w4 ⟨A2,va2,vn2,vd2,vg2,rfl,hJ,h1⟩
 obtain ⟨gx,cx,rfl,hcx,_,hf3,_⟩:=hJ.list
 obtain ⟨Rx,eRx⟩:∃ Rx,Rx=w3.heap.size:=⟨_,rfl⟩
 rw [← eRx] at hJ
 rw [← eRx]
 have hRx:w.heap.size≤Rx:=by rw [eRx];exact hb.size
 have hRx4:Rx≤w4.heap.size:=by rw [eRx];exact h1.size
 replace FO1:=FO1.below h1
 rw [← eRx] at FO1
 clear eRx
 replace Pb:=Pb.below h1
 replace hb:=bel_tr hb h1
 replace hL:=hL.below h1
 clear h1
 have FA1:=hJ.fam hFl
 have hxl:LQ w4 (some ⟨gx,0,none⟩) nx X Zx:=fr_lq hf3 hFx
 have hKQ:Q.K+Kx≤1048576:=by rw [hL.cq.K];exact hK
 have HVQ:∀ w1,Below w4.heap.size w4 w1→Calls Tryz.prog 14 #[.agg #[.bool Q.mx,.string Q.nm,.bool Q.p,.slice Q.a Q.na Q.ca,.slice Q.d Q.nd Q.cd,.slice Q.va Q.vn Q.vc,.slice Q.ra Q.rn Q.rc],.slice (some ⟨gx,0,none⟩) nx cx] w1 fun e w'=>∃ f c n1 k1 c' n' k',e = .returned (.agg #[.bool f,.slice c n1 k1,.slice c' n' k'])∧GR w' w1.heap.size f c n1 k1 c' n' k' (vlu P (xn X nx)) 2097160∧Below w1.heap.size w1 w':=fun w1 h=>by
  rw [← hL.cq.vlu]
  exact valQA Q w1 (hL.pq.below h) (hxl.below h) hzx htx (by omega) hKQ (hT.below (bel_tr hb h))
 have HSQ:∀ w1,Below w4.heap.size w4 w1→Calls Tryz.prog 16 #[.agg #[.bool Q.mx,.string Q.nm,.bool Q.p,.slice Q.a Q.na Q.ca,.slice Q.d Q.nd Q.cd,.slice Q.va Q.vn Q.vc,.slice Q.ra Q.rn Q.rc],.slice (some ⟨gx,0,none⟩) nx cx] w1 fun e w'=>∃ a cap,e = .returned (.slice a P.rn cap)∧RA w' w1.heap.size w'.heap.size (.slice a P.rn cap) P.rn (fun i=>cv (P.R i) (xn X nx) P.vn) 2097160∧Below w1.heap.size w1 w':=fun w1 h=>by
  have hh:=sumQA Q w1 (hL.pq.below h) (hxl.below h) hzx htx (show nx≤cx by omega) hKQ (hT.below (bel_tr hb h))
  rw [hL.cq.rn,hL.cq.R,hL.cq.vn] at hh
  have er:P.rn=Q.rn:=hL.cq.rn.symm
  unfold Prob.val at hh
  exact hh
 have c0:=hL.box 0 _ rfl
 have c1:=hL.box 1 _ rfl
 have c2:=hL.box 2 _ rfl
 have c3:=hL.box 3 _ rfl
 have c4:=hL.box 4 _ rfl
 have c5:=hL.box 5 _ rfl
 have c6:=hL.box 6 _ rfl
 have HBX:∀ w',Below w4.heap.size w4 w'→(w'.cell? ⟨R,0,none⟩=some (.bool Q.mx)∧w'.cell? ⟨R,1,none⟩=some (.string Q.nm)∧w'.cell? ⟨R,2,none⟩=some (.bool Q.p)∧w'.cell? ⟨R,3,none⟩=some (.slice Q.a Q.na Q.ca)∧w'.cell? ⟨R,4,none⟩=some (.slice Q.d Q.nd Q.cd)∧w'.cell? ⟨R,5,none⟩=some (.slice Q.va Q.vn Q.vc)∧w'.cell? ⟨R,6,none⟩=some (.slice Q.ra Q.rn Q.rc)):=fun w' h=>⟨kept_c h c0,kept_c h c1,kept_c h c2,kept_c h c3,kept_c h c4,kept_c h c5,kept_c h c6⟩
 clear c0 c1 c2 c3 c4 c5 c6
 go_wp2_with fail
 refine wp_cutM (fun a0 a' w'=>∃ (u1 u2 u3 u4 u5 u6 u7:Value) (RV:Nat) (fV:Bool) (cV:Option Addr) (nV kV:Nat) (dV:Option Addr) (mV lV:Nat),a'=((((((((a0.put (some 24) u1).put (some 25) u2).put (some 26) u3).put (some 27) u4).put (some 28) u5).put (some 29) u6).put (some 30) u7).put (some 8) (.pointer (some ⟨RV,0,none⟩)))∧Var3 w' RV (.bool fV) (.slice cV nV kV) (.slice dV mV lV)∧GR w' w4.heap.size fV cV nV kV dV mV lV (vlu P (xn X nx)) 2097160∧w4.heap.size≤RV∧Below w4.heap.size w4 w') ?_ ?_
 ·refine wp_region_noPanic (wp_region_guardT 8 HBX (by as_aux_lemma=>kernel_rfl) ?_)
  have hc0:Below w4.heap.size w4 w4.drew:=bel_d1 _
  generalize w4.drew=z0 at *
  refine wpAnyG.tT 0 (v:=.pointer (some ⟨R,0,none⟩)) (by decide) 8 (by as_aux_lemma=>kernel_rfl) (by rfl) ?y0 (HBX _ hc0) ?_
  case y0 =>
   rintro w' ⟨f0,f1,f2,f3,f4,f5,f6⟩
   simp only [lgA,lgZ]
   go_simp
  simp only [lgA,lgZ,Act.put,lsA,lsZ,lsS]
  refine wpAnyG.tT 1 (v:=.pointer (some ⟨R,0,none⟩)) (by decide) 8 (by as_aux_lemma=>kernel_rfl) (by rfl) ?y1 (HBX _ hc0) ?_
  case y1 =>
   rintro w' ⟨f0,f1,f2,f3,f4,f5,f6⟩
   simp only [lgA,lgZ,lgS]
   go_simp
  simp only [lgA,lgZ,lgS,Act.put,lsA,lsZ,lsS]
  refine wpAnyG.tT 2 (v:=.pointer (some ⟨R,0,none⟩)) (by decide) 8 (by as_aux_lemma=>kernel_rfl) (by rfl) ?y2 (HBX _ hc0) ?_
  case y2 =>
   rintro w' ⟨f0,f1,f2,f3,f4,f5,f6⟩
   simp only [lgA,lgZ,lgS]
   go_simp
  simp only [lgA,lgZ,lgS,Act.put,lsA,lsZ,lsS]
  refine wpAnyG.tT 3 (v:=.agg #[.bool Q.mx,.string Q.nm,.bool Q.p,.slice Q.a Q.na Q.ca,.slice Q.d Q.nd Q.cd,.slice Q.va Q.vn Q.vc,.slice Q.ra Q.rn Q.rc]) (by decide) 8 (by as_aux_lemma=>kernel_rfl) (by rfl) ?y3 (HBX _ hc0) ?_
  case y3 =>
   rintro w' ⟨f0,f1,f2,f3,f4,f5,f6⟩
   simp only [lgA,lgZ,lgS]
   go_simp
  simp only [lgA,lgZ,lgS,Act.put,lsA,lsZ,lsS]
  refine wpAnyG.tT 4 (v:=.pointer (some ⟨Rx,0,none⟩)) (by decide) 8 (by as_aux_lemma=>kernel_rfl) (by rfl) ?y4 (HBX _ hc0) ?_
  case y4 =>
   rintro w' ⟨f0,f1,f2,f3,f4,f5,f6⟩
   simp only [lgA,lgZ,lgS]
   go_simp
  simp only [lgA,lgZ,lgS,Act.put,lsA,lsZ,lsS]
  refine wpAnyG.two 5 7 (by as_aux_lemma=>kernel_rfl) (by decide) (by decide) (by rfl) (by rfl) (fun K hK=>?_) (fun K hK=>?_)
  ·simp only [lgA,lgZ,lgS]
   go_simp
   refine (list3Q z0 (hJ.below hc0) hcx).mono ?_
   rintro e z1 ⟨rfl,hk⟩
   have hc1:=bel_tr hc0 hk
   dsimp only
   refine hK _ _ ⟨fun _=>HBX _ hc1,fun _=>trivial⟩ ?_
   clear hK K hk
   refine wpAnyG.two 6 7 (by as_aux_lemma=>kernel_rfl) (by decide) (by decide) (by rfl) (by rfl) (fun K hK=>?_) (fun K hK=>?_)
   ·simp only [lgA,lgZ,lgS]
    go_simp
    refine (HVQ z1 hc1).mono ?_
    rintro e z2 ⟨fV,cV,nV,kV,dV,mV,lV,rfl,R2,hk⟩
    have hc2:=bel_tr hc1 hk
    replace R2:=R2.mono (B':=w4.heap.size) hc1.size
    dsimp only
    refine hK _ _ ⟨fun _=>HBX _ hc2,fun _=>trivial⟩ ?_
    clear hK K hk
    refine wpAnyG.one 7 (by as_aux_lemma=>kernel_rfl) (by decide) (by rfl) (fun K hK=>?_)
    simp only [lgA,lgZ,lgS]
    go_simp
    replace R2:=R2.gx (R:=z2.heap.size) (.inr (Nat.le_refl _))
    have hx:=bel_d0 z2 (.cells #[.bool false,.slice none 0 0,.slice none 0 0] 27)
    have VA3:=var3_new z2 (.bool false) (.slice none 0 0) (.slice none 0 0) 27
    have hc3:=bel_tr hc2 hx
    have hR0:w4.heap.size≤z2.heap.size:=hc2.size
    have R3:=R2.below hx
    refine hK _ _ ⟨fun _=>HBX _ hc3,fun _=>trivial⟩ ?_
    clear hK K hx
    generalize z2.alloc (.cells #[.bool false,.slice none 0 0,.slice none 0 0] 27)=z3 at *
    refine wpAnyG.one 8 (by as_aux_lemma=>kernel_rfl) (by decide) (by rfl) (fun K hK=>?_)
    obtain ⟨x0,x1,x2,x3,x4,x5⟩:=id VA3
    simp only [lgA,lgZ,lgS]
    go_simp
    obtain ⟨VN,O⟩:=VA3.set (.bool fV) (.slice cV nV kV) (.slice dV mV lV)
    refine hK _ _ ⟨fun h=>absurd h (by decide),fun _=>trivial⟩ ?_
    clear hK K
    refine wpAnyG.done (by as_aux_lemma=>kernel_rfl) (NoPanic.normal ?_)
    exact ⟨rfl,_,_,_,_,_,_,_,z2.heap.size,fV,cV,nV,kV,dV,mV,lV,rfl,VN,(R3.off O).1,hR0,hc3.trans (O.below hR0)⟩
   ·simp only [lgA,lgZ,lgS]
    go_simp
    have hx:=bel_d0 z1 (.cells #[.bool false,.slice none 0 0,.slice none 0 0] 27)
    have VA2:=var3_new z1 (.bool false) (.slice none 0 0) (.slice none 0 0) 27
    have hc2:=bel_tr hc1 hx
    have hR0:w4.heap.size≤z1.heap.size:=hc1.size
    have hRz2:z1.heap.size<(z1.alloc (.cells #[.bool false,.slice none 0 0,.slice none 0 0] 27)).heap.size:=by simp
    refine hK _ _ ⟨fun _=>HBX _ hc2,fun _=>trivial⟩ ?_
    clear hK K hx
    generalize z1.alloc (.cells #[.bool false,.slice none 0 0,.slice none 0 0] 27)=z2 at *
    refine wpAnyG.one 6 (by as_aux_lemma=>kernel_rfl) (by decide) (by rfl) (fun K hK=>?_)
    simp only [lgA,lgZ,lgS]
    go_simp
    refine (HVQ z2 hc2).mono ?_
    rintro e z3 ⟨fV,cV,nV,kV,dV,mV,lV,rfl,R3,hk⟩
    have hc3:=bel_tr hc2 hk
    replace R3:=(R3.gx (R:=z1.heap.size) (.inl hRz2)).mono (B':=w4.heap.size) hc2.size
    have VA3:=VA2.below hk
    have hRz3:=Nat.lt_of_lt_of_le hRz2 hk.size
    dsimp only
    refine hK _ _ ⟨fun _=>HBX _ hc3,fun _=>trivial⟩ ?_
    clear hK K hk
    refine wpAnyG.one 8 (by as_aux_lemma=>kernel_rfl) (by decide) (by rfl) (fun K hK=>?_)
    obtain ⟨x0,x1,x2,x3,x4,x5⟩:=id VA3
    simp only [lgA,lgZ,lgS]
    go_simp
    obtain ⟨VN,O⟩:=VA3.set (.bool fV) (.slice cV nV kV) (.slice dV mV lV)
    refine hK _ _ ⟨fun h=>absurd h (by decide),fun _=>trivial⟩ ?_
    clear hK K
    refine wpAnyG.done (by as_aux_lemma=>kernel_rfl) (NoPanic.normal ?_)
    exact ⟨rfl,_,_,_,_,_,_,_,z1.heap.size,fV,cV,nV,kV,dV,mV,lV,rfl,VN,(R3.off O).1,hR0,hc3.trans (O.below hR0)⟩
  ·simp only [lgA,lgZ,lgS]
   go_simp
   have hx:=bel_d0 z0 (.cells #[.bool false,.slice none 0 0,.slice none 0 0] 27)
   have VA1:=var3_new z0 (.bool false) (.slice none 0 0) (.slice none 0 0) 27
   have hc1:=bel_tr hc0 hx
   have hR0:w4.heap.size≤z0.heap.size:=hc0.size
   have hRz1:z0.heap.size<(z0.alloc (.cells #[.bool false,.slice none 0 0,.slice none 0 0] 27)).heap.size:=by simp
   refine hK _ _ ⟨fun _=>HBX _ hc1,fun _=>trivial⟩ ?_
   clear hK K hx
   generalize z0.alloc (.cells #[.bool false,.slice none 0 0,.slice none 0 0] 27)=z1 at *
   refine wpAnyG.one 5 (by as_aux_lemma=>kernel_rfl) (by decide) (by rfl) (fun K hK=>?_)
   simp only [lgA,lgZ,lgS]
   go_simp
   refine (list3Q z1 (hJ.below hc1) hcx).mono ?_
   rintro e z2 ⟨rfl,hk⟩
   have hc2:=bel_tr hc1 hk
   have VA2:=VA1.below hk
   have hRz2:=Nat.lt_of_lt_of_le hRz1 hk.size
   dsimp only
   refine hK _ _ ⟨fun _=>HBX _ hc2,fun _=>trivial⟩ ?_
   clear hK K hk
   refine wpAnyG.one 6 (by as_aux_lemma=>kernel_rfl) (by decide) (by rfl) (fun K hK=>?_)
   simp only [lgA,lgZ,lgS]
   go_simp
   refine (HVQ z2 hc2).mono ?_
   rintro e z3 ⟨fV,cV,nV,kV,dV,mV,lV,rfl,R3,hk⟩
   have hc3:=bel_tr hc2 hk
   replace R3:=(R3.gx (R:=z0.heap.size) (.inl hRz2)).mono (B':=w4.heap.size) hc2.size
   have VA3:=VA2.below hk
   have hRz3:=Nat.lt_of_lt_of_le hRz2 hk.size
   dsimp only
   refine hK _ _ ⟨fun _=>HBX _ hc3,fun _=>trivial⟩ ?_
   clear hK K hk
   refine wpAnyG.one 8 (by as_aux_lemma=>kernel_rfl) (by decide) (by rfl) (fun K hK=>?_)
   obtain ⟨x0,x1,x2,x3,x4,x5⟩:=id VA3
   simp only [lgA,lgZ,lgS]
   go_simp
   obtain ⟨VN,O⟩:=VA3.set (.bool fV) (.slice cV nV kV) (.slice dV mV lV)
   refine hK _ _ ⟨fun h=>absurd h (by decide),fun _=>trivial⟩ ?_
   clear hK K
   refine wpAnyG.done (by as_aux_lemma=>kernel_rfl) (NoPanic.normal ?_)
   exact ⟨rfl,_,_,_,_,_,_,_,z0.heap.size,fV,cV,nV,kV,dV,mV,lV,rfl,VN,(R3.off O).1,hR0,hc3.trans (O.below hR0)⟩
 rintro a' w6 ⟨u1,u2,u3,u4,u5,u6,u7,RV,fV,cV,nV,kV,dV,mV,lV,rfl,VT,GV,hRV,hw6⟩
 simp only [Act.put,List.setIfInBounds_toArray,List.set_cons_zero,List.set_cons_succ]
 have hs6:=hw6.size
 have hVlt:=VT.lt
 have GVb6:∀ g,(Value.slice cV nV kV).ownBlock=some g∨(Value.slice dV mV lV).ownBlock=some g→g<w6.heap.size:=fun g hg=>(GV.blk g hg).2
 clear HVQ
 have HBY:=fun w' (h:Below w6.heap.size w6 w')=>HBX w' (bel_tr hw6 h)
 clear HBX
 go_wp2_with fail
 refine wp_region_noPanic (wp_region_guardB HBY (by as_aux_lemma=>kernel_rfl) ?_)
 have hc0:Below w6.heap.size w6 w6.drew:=bel_d1 _
 generalize w6.drew=y0 at *
 refine wpAnyG.tA 0 (v:=.pointer (some ⟨R,0,none⟩)) (by decide) 7 (by as_aux_lemma=>kernel_rfl) (by rfl) ?y0 (HBY _ hc0) ?_
 case y0 =>
  rintro w' ⟨f0,f1,f2,f3,f4,f5,f6⟩
  simp only [lgA,lgZ]
  go_simp
 simp only [lgA,lgZ,Act.put,lsA,lsZ,lsS]
 refine wpAnyG.tA 1 (v:=.pointer (some ⟨R,0,none⟩)) (by decide) 7 (by as_aux_lemma=>kernel_rfl) (by rfl) ?y1 (HBY _ hc0) ?_
 case y1 =>
  rintro w' ⟨f0,f1,f2,f3,f4,f5,f6⟩
  simp only [lgA,lgZ,lgS]
  go_simp
 simp only [lgA,lgZ,lgS,Act.put,lsA,lsZ,lsS]
 refine wpAnyG.tA 2 (v:=.pointer (some ⟨R,0,none⟩)) (by decide) 7 (by as_aux_lemma=>kernel_rfl) (by rfl) ?y2 (HBY _ hc0) ?_
 case y2 =>
  rintro w' ⟨f0,f1,f2,f3,f4,f5,f6⟩
  simp only [lgA,lgZ,lgS]
  go_simp
 simp only [lgA,lgZ,lgS,Act.put,lsA,lsZ,lsS]
 refine wpAnyG.tA 3 (v:=.agg #[.bool Q.mx,.string Q.nm,.bool Q.p,.slice Q.a Q.na Q.ca,.slice Q.d Q.nd Q.cd,.slice Q.va Q.vn Q.vc,.slice Q.ra Q.rn Q.rc]) (by decide) 7 (by as_aux_lemma=>kernel_rfl) (by rfl) ?y3 (HBY _ hc0) ?_
 case y3 =>
  rintro w' ⟨f0,f1,f2,f3,f4,f5,f6⟩
  simp only [lgA,lgZ,lgS]
  go_simp
 simp only [lgA,lgZ,lgS,Act.put,lsA,lsZ,lsS]
 refine wpAnyG.tA 4 (v:=.pointer (some ⟨Rx,0,none⟩)) (by decide) 7 (by as_aux_lemma=>kernel_rfl) (by rfl) ?y4 (HBY _ hc0) ?_
 case y4 =>
  rintro w' ⟨f0,f1,f2,f3,f4,f5,f6⟩
  simp only [lgA,lgZ,lgS]
  go_simp
 simp only [lgA,lgZ,lgS,Act.put,lsA,lsZ,lsS]
 refine wpAnyG.one 5 (by as_aux_lemma=>kernel_rfl) (by decide) (by rfl) (fun K hK=>?_)
 simp only [lgA,lgZ,lgS]
 go_simp
 refine (list3Q y0 ((hJ.below hw6).below hc0) hcx).mono ?_
 rintro e y1 ⟨rfl,hk1⟩
 have hc1:Below w6.heap.size w6 y1:=bel_tr hc0 hk1
 dsimp only
 refine hK _ _ (HBY _ hc1) ?_
 clear hK K
 refine wpAnyG.one 6 (by as_aux_lemma=>kernel_rfl) (by decide) (by rfl) (fun K hK=>?_)
 simp only [lgA,lgZ,lgS]
 go_simp
 refine (HSQ y1 (bel_tr hw6 hc1)).mono ?_
 rintro e y2 ⟨sa,sc,rfl,SRA,hk2⟩
 have hc2:Below w6.heap.size w6 y2:=bel_tr hc1 hk2
 dsimp only
 refine hK _ _ (HBY _ hc2) ?_
 clear hK K
 refine wpAnyG.one 7 (by as_aux_lemma=>kernel_rfl) (by decide) (by rfl) (fun K hK=>?_)
 simp only [lgA,lgZ,lgS]
 go_simp
 refine hK _ _ (HBY _ hc2) ?_
 clear hK K
 refine wpAnyG.done (by as_aux_lemma=>kernel_rfl) (NoPanic.normal ?_)
 have hw7:Below w6.heap.size w6 y2:=hc2
 have hy1:w6.heap.size≤y1.heap.size:=hc1.size
 replace SRA:=SRA.mono hy1
 clear hk1 hk2 hc0 hc1 hc2
 generalize y2=w7 at *
 have HBZ:=fun w' (h:Below w7.heap.size w7 w')=>HBY w' (bel_tr hw7 h)
 clear HBY
 go_wp2_with fail
 refine wp_region_noPanic (wp_region_guardB HBZ (by as_aux_lemma=>kernel_rfl) ?_)
 have hc0:Below w7.heap.size w7 w7.drew:=bel_d1 _
 generalize w7.drew=x0 at *
 refine wpAnyG.tA 0 (v:=.pointer (some ⟨R,0,none⟩)) (by decide) 7 (by as_aux_lemma=>kernel_rfl) (by rfl) ?y0 (HBZ _ hc0) ?_
 case y0 =>
  rintro w' ⟨f0,f1,f2,f3,f4,f5,f6⟩
  simp only [lgA,lgZ]
  go_simp
 simp only [lgA,lgZ,Act.put,lsA,lsZ,lsS]
 refine wpAnyG.tA 1 (v:=.pointer (some ⟨R,0,none⟩)) (by decide) 7 (by as_aux_lemma=>kernel_rfl) (by rfl) ?y1 (HBZ _ hc0) ?_
 case y1 =>
  rintro w' ⟨f0,f1,f2,f3,f4,f5,f6⟩
  simp only [lgA,lgZ,lgS]
  go_simp
 simp only [lgA,lgZ,lgS,Act.put,lsA,lsZ,lsS]
 refine wpAnyG.tA 2 (v:=.pointer (some ⟨R,0,none⟩)) (by decide) 7 (by as_aux_lemma=>kernel_rfl) (by rfl) ?y2 (HBZ _ hc0) ?_
 case y2 =>
  rintro w' ⟨f0,f1,f2,f3,f4,f5,f6⟩
  simp only [lgA,lgZ,lgS]
  go_simp
 simp only [lgA,lgZ,lgS,Act.put,lsA,lsZ,lsS]
 refine wpAnyG.tA 3 (v:=.agg #[.bool Q.mx,.string Q.nm,.bool Q.p,.slice Q.a Q.na Q.ca,.slice Q.d Q.nd Q.cd,.slice Q.va Q.vn Q.vc,.slice Q.ra Q.rn Q.rc]) (by decide) 7 (by as_aux_lemma=>kernel_rfl) (by rfl) ?y3 (HBZ _ hc0) ?_
 case y3 =>
  rintro w' ⟨f0,f1,f2,f3,f4,f5,f6⟩
  simp only [lgA,lgZ,lgS]
  go_simp
 simp only [lgA,lgZ,lgS,Act.put,lsA,lsZ,lsS]
 refine wpAnyG.tA 4 (v:=.pointer (some ⟨Rx,0,none⟩)) (by decide) 7 (by as_aux_lemma=>kernel_rfl) (by rfl) ?y4 (HBZ _ hc0) ?_
 case y4 =>
  rintro w' ⟨f0,f1,f2,f3,f4,f5,f6⟩
  simp only [lgA,lgZ,lgS]
  go_simp
 simp only [lgA,lgZ,lgS,Act.put,lsA,lsZ,lsS]
 refine wpAnyG.one 5 (by as_aux_lemma=>kernel_rfl) (by decide) (by rfl) (fun K hK=>?_)
 simp only [lgA,lgZ,lgS]
 go_simp
 refine (list3Q x0 (((hJ.below hw6).below hw7).below hc0) hcx).mono ?_
 rintro e x1 ⟨rfl,hk1⟩
 have hc1:Below w7.heap.size w7 x1:=bel_tr hc0 hk1
 dsimp only
 refine hK _ _ (HBZ _ hc1) ?_
 clear hK K
 refine wpAnyG.one 6 (by as_aux_lemma=>kernel_rfl) (by decide) (by rfl) (fun K hK=>?_)
 simp only [lgA,lgZ,lgS]
 go_simp
 refine (HSQ x1 (bel_tr (bel_tr hw6 hw7) hc1)).mono ?_
 rintro e x2 ⟨ta,tc,rfl,TRA,hk2⟩
 have hc2:Below w7.heap.size w7 x2:=bel_tr hc1 hk2
 dsimp only
 refine hK _ _ (HBZ _ hc2) ?_
 clear hK K
 refine wpAnyG.one 7 (by as_aux_lemma=>kernel_rfl) (by decide) (by rfl) (fun K hK=>?_)
 simp only [lgA,lgZ,lgS]
 go_simp
 refine hK _ _ (HBZ _ hc2) ?_
 clear hK K
 refine wpAnyG.done (by as_aux_lemma=>kernel_rfl) (NoPanic.normal ?_)
 have hw8:Below w7.heap.size w7 x2:=hc2
 have hx1:w7.heap.size≤x1.heap.size:=hc1.size
 replace TRA:=TRA.mono hx1
 clear hk1 hk2 hc0 hc1 hc2 HSQ
 generalize x2=w8 at *
 have hs7:=hw7.size
 have hs8:=hw8.size
 replace SRA:=SRA.below hw8
 replace VT:=(VT.below hw7).below hw8
 replace GV:=(GV.below hw7).below hw8
 have GVb:∀ g,(Value.slice cV nV kV).ownBlock=some g∨(Value.slice dV mV lV).ownBlock=some g→g<w6.heap.size:=GVb6
 have hbw:=bel_tr (bel_tr (bel_tr hb hw6) hw7) hw8
 have HBW:=fun w' (h:Below w8.heap.size w8 w')=>HBZ w' (bel_tr hw8 h)
 clear HBZ
 replace Pb:=((Pb.below hw6).below hw7).below hw8
 replace hJ:=((hJ.below hw6).below hw7).below hw8
 replace hL:=((hL.below hw6).below hw7).below hw8
 replace FO1:=((FO1.below hw6).below hw7).below hw8
 replace FA1:=((FA1.below hw6).below hw7).below hw8
 go_wp2_with fail
 have HB9:∀ w',Below w8.heap.size w8 w'→(w'.cell? ⟨RV,0,none⟩=some (.bool fV)∧w'.cell? ⟨RV,1,none⟩=some (.slice cV nV kV)∧w'.cell? ⟨RV,2,none⟩=some (.slice dV mV lV)∧w'.cell? ⟨w.heap.size,0,none⟩=some (.bool P.mx)∧w'.cell? ⟨w.heap.size,1,none⟩=some (.string P.nm)∧w'.cell? ⟨w.heap.size,2,none⟩=some (.bool P.p)∧w'.cell? ⟨w.heap.size,3,none⟩=some (.slice P.a P.na P.ca)∧w'.cell? ⟨w.heap.size,4,none⟩=some (.slice P.d P.nd P.cd)∧w'.cell? ⟨w.heap.size,5,none⟩=some (.slice P.va P.vn P.vc)∧w'.cell? ⟨w.heap.size,6,none⟩=some (.slice P.ra P.rn P.rc)):=fun w' h=>⟨(VT.below h).c0,(VT.below h).c1,(VT.below h).c2,(Pb.below h) 0 _ rfl,(Pb.below h) 1 _ rfl,(Pb.below h) 2 _ rfl,(Pb.below h) 3 _ rfl,(Pb.below h) 4 _ rfl,(Pb.below h) 5 _ rfl,(Pb.below h) 6 _ rfl⟩
 refine wp_region_noPanic (wp_region_guardB HB9 (by as_aux_lemma=>kernel_rfl) ?_)
 have hc0:Below w8.heap.size w8 w8.drew:=bel_d1 _
 generalize w8.drew=v0 at *
 refine wpAnyG.tA 0 (v:=.agg #[.bool fV,.slice cV nV kV,.slice dV mV lV]) (by decide) 5 (by as_aux_lemma=>kernel_rfl) (by rfl) ?y0 (HB9 _ hc0) ?_
 case y0 =>
  rintro w' ⟨q0,q1,q2,q3,q4,q5,q6,q7,q8,q9⟩
  simp only [lgA,lgZ]
  go_simp
 simp only [lgA,lgZ,Act.put,lsA,lsZ,lsS]
 refine wpAnyG.tA 1 (v:=.agg #[.bool P.mx,.string P.nm,.bool P.p,.slice P.a P.na P.ca,.slice P.d P.nd P.cd,.slice P.va P.vn P.vc,.slice P.ra P.rn P.rc]) (by decide) 5 (by as_aux_lemma=>kernel_rfl) (by rfl) ?y1 (HB9 _ hc0) ?_
 case y1 =>
  rintro w' ⟨q0,q1,q2,q3,q4,q5,q6,q7,q8,q9⟩
  simp only [lgA,lgZ,lgS]
  go_simp
 simp only [lgA,lgZ,lgS,Act.put,lsA,lsZ,lsS]
 refine wpAnyG.tA 2 (v:=.slice xa nx xc) (by decide) 5 (by as_aux_lemma=>kernel_rfl) (by rfl) ?y2 (HB9 _ hc0) ?_
 case y2 =>
  rintro w' ⟨q0,q1,q2,q3,q4,q5,q6,q7,q8,q9⟩
  simp only [lgA,lgZ,lgS]
  go_simp
 simp only [lgA,lgZ,lgS,Act.put,lsA,lsZ,lsS]
 refine wpAnyG.one 3 (by as_aux_lemma=>kernel_rfl) (by decide) (by rfl) (fun K hK=>?_)
 simp only [lgA,lgZ,lgS]
 go_simp
 refine (HVD v0 (bel_tr hbw hc0)).mono ?_
 rintro e v1 ⟨f9,c9,n9,k9,d9,m9,l9,rfl,G9,hk1⟩
 have hc1:Below w8.heap.size w8 v1:=bel_tr hc0 hk1
 dsimp only
 refine hK _ _ (HB9 _ hc1) ?_
 clear hK K
 refine wpAnyG.one 4 (by as_aux_lemma=>kernel_rfl) (by decide) (by rfl) (fun K hK=>?_)
 simp only [lgA,lgZ,lgS]
 go_simp
 refine (refSameR v1 ((GV.below hc0).below hk1) G9 (by omega)).mono ?_
 rintro e v2 ⟨rfl,hk2⟩
 have hc2:Below w8.heap.size w8 v2:=bel_tr hc1 hk2
 dsimp only
 refine hK _ _ (HB9 _ hc2) ?_
 clear hK K
 refine wpAnyG.one 5 (by as_aux_lemma=>kernel_rfl) (by decide) (by rfl) (fun K hK=>?_)
 simp only [lgA,lgZ,lgS]
 go_simp
 refine hK _ _ (HB9 _ hc2) ?_
 clear hK K
 refine wpAnyG.done (by as_aux_lemma=>kernel_rfl) (NoPanic.normal ?_)
 have hw9:Below w8.heap.size w8 v2:=hc2
 clear hk1 hk2 hc0 hc1 hc2 G9 HVD HB9
 replace Pb:=Pb.below hw9
 have p0:=Pb 0 _ rfl
 have p1:=Pb 1 _ rfl
 have p2:=Pb 2 _ rfl
 have p3:=Pb 3 _ rfl
 have p4:=Pb 4 _ rfl
 have p5:=Pb 5 _ rfl
 have p6:=Pb 6 _ rfl
 go_wp2_with fail
 refine (HSD v2 (bel_tr hbw hw9)).mono ?_
 clear p0 p1 p2 p3 p4 p5 p6
 rintro e w10 ⟨a10,c10,rfl,S10,h1⟩
 replace hw9:=bel_tr hw9 h1
 replace Pb:=Pb.below h1
 clear h1
 go_wp2_with fail
 refine (sameAllR w10 (SRA.rl.below hw9) S10 (by omega) (by omega)).mono ?_
 rintro e w11 ⟨rfl,h1⟩
 replace hw9:=bel_tr hw9 h1
 replace Pb:=Pb.below h1
 clear h1 S10
 have p0:=Pb 0 _ rfl
 have p1:=Pb 1 _ rfl
 have p2:=Pb 2 _ rfl
 have p3:=Pb 3 _ rfl
 have p4:=Pb 4 _ rfl
 have p5:=Pb 5 _ rfl
 have p6:=Pb 6 _ rfl
 go_wp2_with fail
 refine (HSD w11 (bel_tr hbw hw9)).mono ?_
 clear p0 p1 p2 p3 p4 p5 p6
 rintro e w12 ⟨a12,c12,rfl,S12,h1⟩
 replace hw9:=bel_tr hw9 h1
 replace Pb:=Pb.below h1
 clear h1 HSD
 go_wp2_with fail
 refine (sameAllR w12 (TRA.rl.below hw9) S12 (by omega) (by omega)).mono ?_
 rintro e w13 ⟨rfl,h1⟩
 replace hw9:=bel_tr hw9 h1
 clear h1 S12
 go_wp2_with fail
 refine (kept7Q w13 (hL.below hw9) hKK).mono ?_
 rintro e w14 ⟨rfl,h1⟩
 replace hw9:=bel_tr hw9 h1
 clear h1
 go_wp2_with fail
 refine (kept3Q w14 (hJ.below hw9) (by omega) hFl).mono ?_
 rintro e w15 ⟨rfl,h1⟩
 replace hw9:=bel_tr hw9 h1
 clear h1 Pb
 have VT:=VT.below hw9
 obtain ⟨v0',v1',v2',_,_,_⟩:=id VT
 have NV:Fam w15 1 (fun _=>[.bool fV,.slice cV nV kV,.slice dV mV lV]) w4.heap.size w6.heap.size:=by
  have n1:NG w15 w4.heap.size w6.heap.size [.bool fV,.slice cV nV kV,.slice dV mV lV] (vlu P (xn X nx)) 2097160:=⟨fV,cV,nV,kV,dV,mV,lV,rfl,GV.below hw9,GVb⟩
  have n2:=n1.nmx (by omega)
  exact ⟨fun _=>w4.heap.size,fun _=>w6.heap.size,fun i hi=>⟨Nat.le_refl _,Nat.le_refl _,n2.form.1,n2.form.2,n2⟩,fun i j h1 h2=>by omega⟩
 obtain ⟨ES,NS,CS⟩:=(SRA.below hw9).fam (by omega)
 obtain ⟨ET,NT,CT⟩:=(TRA.below hw9).fam (by omega)
 have NA:=FA1.below hw9
 have NO:=FO1.below hw9
 have DS:=NS.form
 have DT:=NT.form
 have DA:=NA.form
 have DO:=NO.form
 have CA:CLs w15 (some ⟨gx,0,none⟩) nx (lcl Fx A2):=.inr ⟨gx,0,rfl,fun i hi j u hu=>by rw [Nat.zero_add];exact (hJ.below hw9).cells i hi j u hu⟩
 have hF1:Fam w15 (1+P.rn) _ w4.heap.size w7.heap.size:=NV.cat NS (.inl (Nat.le_refl _)) ⟨Nat.le_refl _,hs6⟩ ⟨hs7,Nat.le_refl _⟩
 have hF2:Fam w15 (1+P.rn+P.rn) _ w4.heap.size w8.heap.size:=hF1.cat NT (.inl (Nat.le_refl _)) ⟨Nat.le_refl _,by omega⟩ ⟨hs8,Nat.le_refl _⟩
 have hF3:Fam w15 (1+P.rn+P.rn+nx) _ Rx w8.heap.size:=hF2.cat NA (.inr (Nat.le_refl _)) ⟨hRx4,Nat.le_refl _⟩ ⟨Nat.le_refl _,by omega⟩
 have hF4:Fam w15 (1+P.rn+P.rn+nx+N) _ w.heap.size w8.heap.size:=hF3.cat NO (.inr (Nat.le_refl _)) ⟨hRx,hRr⟩ ⟨Nat.le_refl _,by omega⟩
 clear hF1 hF2 hF3 NV NS NT NA NO GV GVb SRA TRA FA1 FO1 hxl hLx hx
 have hbv:=bel_tr hbw hw9
 have hJ15:=hJ.below hw9
 have hL15:=hL.below hw9
 have HB15:=fun w' (h:Below w15.heap.size w15 w')=>HBW w' (bel_tr hw9 h)
 clear HBW hJ hL hw9 hbw hb hw6 hw7 hw8
 have eN:offP Q Q.rn=N:=by rw [hL15.cq.off,hL15.cq.rn,hL15.en]
 have hszQ:=offP_size hL15.pq hL15.tq.ok (show Q.K≤1048576 by omega)
 have hN7:N≤10000000:=by rw [← eN];exact hszQ Q.rn (Nat.le_refl _)
 have HRQ:∀ w1,Below w15.heap.size w15 w1→Calls Tryz.prog 22 #[.agg #[.bool Q.mx,.string Q.nm,.bool Q.p,.slice Q.a Q.na Q.ca,.slice Q.d Q.nd Q.cd,.slice Q.va Q.vn Q.vc,.slice Q.ra Q.rn Q.rc]] w1 fun e w'=>∃ a cap,e = .returned (.slice a N cap)∧CLs w' a N (lcl F A)∧Below w1.heap.size w1 w':=fun w1 h=>by
  have hh:=ratsG Q (fun i l=>l=lcl F A i) w1 (hL15.pq.below h) hszQ (hL15.tpp.below h) (by omega)
  unfold Prob.val at hh
  refine hh.mono ?_
  rintro e w' ⟨v,E,rfl,SE,hE,hb⟩
  rw [eN] at SE hE
  obtain ⟨a,cap,rfl,_⟩:=SE.form
  exact ⟨a,cap,rfl,(SE.congr hE).cls,hb⟩
 have S0:=sl_one (w:=w15) (B:=w15.heap.size) (T:=27) (c:=3) (cs:=[.bool fV,.slice cV nV kV,.slice dV mV lV]) rfl (Nat.le_refl _) (fun _=>[.bool fV,.slice cV nV kV,.slice dV mV lV]) rfl
 have hz0:=bel_d0 w15 (.cells #[.bool fV,.slice cV nV kV,.slice dV mV lV] 27)
 have hsw:=hbv.size
 go_wp2_with (at_builtin;refine wpList_appendCV _ rfl _ _ rfl w15.heap.size (.slice (some ⟨w15.heap.size,0,none⟩) 1 1) 1 _ rfl S0 sa P.rn sc rfl ES DS (CS.below hz0) (by omega) (by simp) ?_)
 intro va5 cap5 w16 S1 hg
 have hb16:Below w15.heap.size w15 w16:=hz0.trans (grown_below hg (by simp) (fun g e=>by simp [Value.ownBlock] at e;omega))
 have hs16:=hb16.size
 clear hg hz0 S0 v0' v1' v2' VT CS DS
 go_wp2_with (at_builtin;refine wpList_appendCV _ rfl _ _ rfl w15.heap.size (.slice va5 (1+P.rn) cap5) (1+P.rn) _ rfl S1 ta P.rn tc rfl ET DT (CT.below hb16) (by omega) hs16 ?_)
 intro va6 cap6 w17 S2 hg
 have hb17:Below w15.heap.size w15 w17:=hb16.trans (grown_below hg hs16 (fun g e=>(S1.lt g e).1))
 have hs17:=hb17.size
 clear hg S1 hb16 CT DT
 go_wp2_with fail
 refine (list3Q w17 (hJ15.below hb17) hcx).mono ?_
 rintro e w18 ⟨rfl,h1⟩
 have hb18:=bel_tr hb17 h1
 replace S2:=S2.below h1
 have hs18:=hb18.size
 clear h1 hb17
 go_wp2_with (at_builtin;refine wpList_appendCV _ rfl _ _ rfl w15.heap.size (.slice va6 (1+P.rn+P.rn) cap6) (1+P.rn+P.rn) _ rfl S2 (some ⟨gx,0,none⟩) nx cx rfl (lcl Fx A2) DA (CA.below hb18) (by omega) hs18 ?_)
 intro va7 cap7 w19 S3 hg
 have hb19:Below w15.heap.size w15 w19:=hb18.trans (grown_below hg hs18 (fun g e=>(S2.lt g e).1))
 have hs19:=hb19.size
 clear hg S2 hb18 CA DA hJ15
 obtain ⟨f0,f1,f2,f3,f4,f5,f6⟩:=HB15 w19 hb19
 go_wp2_with fail
 refine (HRQ w19 hb19).mono ?_
 clear f0 f1 f2 f3 f4 f5 f6 HB15 HRQ
 rintro e w20 ⟨ra,rcap,rfl,CR,h1⟩
 have hb20:=bel_tr hb19 h1
 replace S3:=S3.below h1
 have hs20:=hb20.size
 clear h1 hb19
 go_wp2_with (at_builtin;refine wpList_appendCV _ rfl _ _ rfl w15.heap.size (.slice va7 (1+P.rn+P.rn+nx) cap7) (1+P.rn+P.rn+nx) _ rfl S3 ra N rcap rfl (lcl F A) DO CR (by omega) hs20 ?_)
 intro va8 cap8 w21 S4 hg
 have hb21:Below w15.heap.size w15 w21:=hb20.trans (grown_below hg hs20 (fun g e=>(S3.lt g e).1))
 have hs21:=hb21.size
 clear hg S3 hb20 CR DO
 go_wp2_with fail
 refine ((hF4.below hb21).apart w21 hsw hs21 (S4.congr (fun i _=>by simp only [Nat.lt_one_iff])) (by omega)).mono ?_
 rintro e w22 ⟨rfl,h1⟩
 have hfin:Below w.heap.size w w22:=(bel_tr hbv hb21).trans h1
 clear h1 hF4 S4 hb21 hbv
 go_wp2
 go_ret
 exact ⟨rfl,hfin⟩
end Go.Proofs.YtdcocflnafcikaaGreatDoor

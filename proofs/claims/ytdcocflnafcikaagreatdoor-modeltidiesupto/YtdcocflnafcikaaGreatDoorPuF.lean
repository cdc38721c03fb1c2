import Derived.Test.YtdcocflnafcikaaGreatDoorPtGAll
import Derived.Test.YtdcocflnafcikaaGreatDoorPtH
import Derived.Test.YtdcocflnafcikaaGreatDoorApVAll
namespace Go.Proofs.YtdcocflnafcikaaGreatDoor
open Go.RowKit
theorem Rw.there {t:TypeId} {w:World} {R:Nat} {cs:Array Value} (h:Rw t w R cs) {o n:Nat} (hn:o+n≤cs.size):w.there R o n:=fun j hj=>⟨by rw [h.cell,Array.getElem?_eq_getElem (by omega)];rfl,h.frozen _⟩
theorem oJ {w w':World} {b o n:Nat} (h:w.there b o n) (hb:Below w.heap.size w w'):w'.there b o n:=fun j hj=>by
 obtain ⟨h1,h2⟩:=h j hj
 obtain ⟨u,hu⟩:=Option.isSome_iff_exists.1 h1
 have hlt:=World.block_lt_of_cell? _ _ hu
 exact ⟨by rw [aB hb hu];rfl,(World.frozen?_of_block (w:=w) (hb.block b hlt)).trans h2⟩
theorem sO {w:World} {b o n o' n':Nat} (h:w.there b o n) (h1:o≤o') (h2:o'+n'≤o+n):w.there b o' n':=fun j hj=>by
 have:=h (o'-o+j) (by omega)
 rwa [show o+(o'-o+j)=o'+j by omega] at this
theorem lent_box {w w1 w2:World} {R:Nat} {l1 l2:List Value} {x:Value} (t1:w.there R 0 7) (h1:l1.length=7) (h2:l2.length=7) (hx:w.cell? ⟨R,14,none⟩=some x) (hb:Below (w.setCells R 0 l1).heap.size (w.setCells R 0 l1) w1) (t2:w1.there R 7 7) (e:w2=w1.setCells R 7 l2):BoxC w2 R (l1++(l2++[x])):=by
 subst e
 intro i u hu
 rcases (by omega:i<7∨(7≤i∧i<14)∨14≤i) with hi|⟨hi,hi2⟩|hi
 ·rw [List.getElem?_append_left (by omega)] at hu
  rw [World.cell?_setCells_out R l2 7 w1 ⟨R,i,none⟩ (fun _ _=>.inl hi)]
  have hs:=World.cell?_setCells_in R l1 0 w (fun j hj=>(t1 j (by omega)).1) i (by omega)
  rw [Nat.zero_add] at hs
  rw [List.getElem?_eq_getElem (by omega)] at hu
  exact aB hb (hs.trans hu)
 ·rw [List.getElem?_append_right (by omega),List.getElem?_append_left (by omega)] at hu
  have hs:=World.cell?_setCells_in R l2 7 w1 (fun j hj=>(t2 j (by omega)).1) (i-7) (by omega)
  rw [show 7+(i-7)=i by omega] at hs
  rw [h1,List.getElem?_eq_getElem (by omega)] at hu
  exact hs.trans hu
 ·rw [List.getElem?_append_right (by omega),List.getElem?_append_right (by omega),h1,h2] at hu
  obtain rfl:i=14:=by
   rcases (by omega:i=14∨14<i) with h|h
   ·exact h
   ·rw [List.getElem?_eq_none (by simp;omega)] at hu;cases hu
  simp at hu
  subst hu
  rw [World.cell?_setCells_out R l2 7 w1 ⟨R,14,none⟩ (fun _ _=>.inr (by simp;omega))]
  exact aB hb ((World.cell?_setCells_out R l1 0 w ⟨R,14,none⟩ (fun _ _=>.inr (by simp;omega))).trans hx)
def LentS (e:Ending) (P:Prob) (w w':World):Prop:=∃ R Rr N F A va vn vd vg G Q O gv gr,e = .returned (.pointer (some ⟨R,0,none⟩))∧LP w' P R Rr N F A va vn vd vg G Q O gv gr∧Below w.heap.size w w'∧w.heap.size≤Rr
set_option maxRecDepth 100000 in
set_option maxHeartbeats 16000000 in
theorem lend7G (P:Prob) (w:World) (hP:PQ w P) (hPK:P.K≤1048576) :
 Calls Tryz.prog 7 #[P.val] w fun e w'=>LentS e P w w':=by
 obtain ⟨G,hG⟩:=hP.told
 obtain ⟨F,hFN⟩:=FN.exists P G
 have hFs:=FN.lens hP hG.ok hFN hPK
 have hNs:=jE hP hG.ok hPK P.rn (Nat.le_refl _)
 have hN0:0<aQ P P.rn:=by have:=jQ P (Nat.zero_le P.rn);have e:aQ P 0=1+3*P.vn:=rfl;omega
 have Pb:=aN w #[.bool P.mx,.string P.nm,.bool P.p,.slice P.a P.na P.ca,.slice P.d P.nd P.cd,.slice P.va P.vn P.vc,.slice P.ra P.rn P.rc] 31
 have hb:=aG w (.cells #[.bool P.mx,.string P.nm,.bool P.p,.slice P.a P.na P.ca,.slice P.d P.nd P.cd,.slice P.va P.vn P.vc,.slice P.ra P.rn P.rc] 31)
 have hsP:(w.alloc (.cells #[.bool P.mx,.string P.nm,.bool P.p,.slice P.a P.na P.ca,.slice P.d P.nd P.cd,.slice P.va P.vn P.vc,.slice P.ra P.rn P.rc] 31)).heap.size=w.heap.size+1:=by simp
 have HR:=ratsQ P G F (w.alloc (.cells #[.bool P.mx,.string P.nm,.bool P.p,.slice P.a P.na P.ca,.slice P.d P.nd P.cd,.slice P.va P.vn P.vc,.slice P.ra P.rn P.rc] 31)) (hP.below hb) (hG.below hb) hFN hPK
 obtain ⟨N,eN⟩:∃ N,N=aQ P P.rn:=⟨_,rfl⟩
 rw [← eN] at HR hFs hNs hN0
 have EN:Hid (N=aQ P P.rn):=eN
 clear eN
 unfold Prob.val
 unfold Prob.val at HR
 have p0:=Pb 0 _ rfl
 have p1:=Pb 1 _ rfl
 have p2:=Pb 2 _ rfl
 have p3:=Pb 3 _ rfl
 have p4:=Pb 4 _ rfl
 have p5:=Pb 5 _ rfl
 have p6:=Pb 6 _ rfl
 go_enter Tryz.func7,Tryz.ntmps7
 go_wp2_with fail
 generalize w.alloc (.cells #[.bool P.mx,.string P.nm,.bool P.p,.slice P.a P.na P.ca,.slice P.d P.nd P.cd,.slice P.va P.vn P.vc,.slice P.ra P.rn P.rc] 31)=W at *
 refine HR.mono ?_
 clear HR p0 p1 p2 p3 p4 p5 p6
 rintro e w1 ⟨v,E,rfl,SE,hQE,h1⟩
 obtain ⟨a,cap,rfl,hcap⟩:=SE.form
 rcases SE.cell with h0|⟨g0,rfl,hcell⟩
 ·omega
 have hLF:LF w1 (some ⟨g0,0,none⟩) N F:=.inr ⟨g0,0,rfl,fun i hi=>F3.of ((hQE i hi).below h1) (fun j u hu=>by rw [Nat.zero_add];exact hcell i hi j u hu)⟩
 replace Pb:=Pb.below h1
 replace hb:=aF hb h1
 have hs1:=Below.size h1
 clear SE hQE hcell h1
 go_wp2_with fail
 refine (lend3Q (some ⟨g0,0,none⟩) N cap F w1 hLF (by omega) hFs).mono ?_
 rintro e w2 ⟨A,va,vn,vd,vg,rfl,hJ,h2⟩
 obtain ⟨g,lcap,rfl,hlc,hgR,hf3,_⟩:=hJ.list
 have hs2:=Below.size h2
 have hJR:=hJ.size
 have hL1:=hJ.lnc
 replace Pb:=Pb.below h2
 replace hb:=aF hb h2
 have hLF2:=hLF.below h2
 clear hf3 h2
 have RW:=Rw.new 39 w2 #[.bool false,.string ⟨#[]⟩,.bool false,.slice none 0 0,.slice none 0 0,.slice none 0 0,.slice none 0 0,.bool false,.string ⟨#[]⟩,.bool false,.slice none 0 0,.slice none 0 0,.slice none 0 0,.slice none 0 0,.pointer (some ⟨w1.heap.size,0,none⟩)]
 have hz:=aG w2 (.cells #[.bool false,.string ⟨#[]⟩,.bool false,.slice none 0 0,.slice none 0 0,.slice none 0 0,.slice none 0 0,.bool false,.string ⟨#[]⟩,.bool false,.slice none 0 0,.slice none 0 0,.slice none 0 0,.slice none 0 0,.pointer (some ⟨w1.heap.size,0,none⟩)] 39)
 have hs3:(w2.alloc (.cells #[.bool false,.string ⟨#[]⟩,.bool false,.slice none 0 0,.slice none 0 0,.slice none 0 0,.slice none 0 0,.bool false,.string ⟨#[]⟩,.bool false,.slice none 0 0,.slice none 0 0,.slice none 0 0,.slice none 0 0,.pointer (some ⟨w1.heap.size,0,none⟩)] 39)).heap.size=w2.heap.size+1:=by simp
 go_wp2_with fail
 generalize w2.alloc (.cells #[.bool false,.string ⟨#[]⟩,.bool false,.slice none 0 0,.slice none 0 0,.slice none 0 0,.slice none 0 0,.bool false,.string ⟨#[]⟩,.bool false,.slice none 0 0,.slice none 0 0,.slice none 0 0,.slice none 0 0,.pointer (some ⟨w1.heap.size,0,none⟩)] 39)=W3 at *
 have th:=RW.there (o:=0) (n:=15) (Nat.le_refl _)
 have r14:=(RW.cell 14).trans (show _=some (.pointer (some ⟨w1.heap.size,0,none⟩)) from rfl)
 have p0:=Pb.below hz 0 _ rfl
 have p1:=Pb.below hz 1 _ rfl
 have p2:=Pb.below hz 2 _ rfl
 have p3:=Pb.below hz 3 _ rfl
 have p4:=Pb.below hz 4 _ rfl
 have p5:=Pb.below hz 5 _ rfl
 have p6:=Pb.below hz 6 _ rfl
 have HBX:∀ w',Below W3.heap.size W3 w'→(w'.cell? ⟨w.heap.size,0,none⟩=some (.bool P.mx)∧w'.cell? ⟨w.heap.size,1,none⟩=some (.string P.nm)∧w'.cell? ⟨w.heap.size,2,none⟩=some (.bool P.p)∧w'.cell? ⟨w.heap.size,3,none⟩=some (.slice P.a P.na P.ca)∧w'.cell? ⟨w.heap.size,4,none⟩=some (.slice P.d P.nd P.cd)∧w'.cell? ⟨w.heap.size,5,none⟩=some (.slice P.va P.vn P.vc)∧w'.cell? ⟨w.heap.size,6,none⟩=some (.slice P.ra P.rn P.rc)∧w'.cell? ⟨w2.heap.size,14,none⟩=some (.pointer (some ⟨w1.heap.size,0,none⟩))):=fun w' h=>⟨aB h p0,aB h p1,aB h p2,aB h p3,aB h p4,aB h p5,aB h p6,aB h r14⟩
 refine wp_region_noPanic (aU 10 HBX (by kernel_rfl) ?_)
 have hc0:Below W3.heap.size W3 W3.drew:=aS _
 generalize W3.drew=z0 at *
 refine wpAnyG.tT 0 (v:=.pointer (some ⟨w2.heap.size,0,none⟩)) (by decide) 10 (by kernel_rfl) (by rfl) ?y0 (HBX _ hc0) ?_
 case y0 =>
  rintro w' ⟨f0,f1,f2,f3,f4,f5,f6,f7⟩
  simp only [lgA,lgZ]
  go_simp
 simp only [lgA,lgZ,Act.put,lsA,lsZ,lsS]
 refine wpAnyG.tT 1 (v:=.agg #[.bool P.mx,.string P.nm,.bool P.p,.slice P.a P.na P.ca,.slice P.d P.nd P.cd,.slice P.va P.vn P.vc,.slice P.ra P.rn P.rc]) (by decide) 10 (by kernel_rfl) (by rfl) ?y1 (HBX _ hc0) ?_
 case y1 =>
  rintro w' ⟨f0,f1,f2,f3,f4,f5,f6,f7⟩
  simp only [lgA,lgZ,lgS]
  go_simp
 simp only [lgA,lgZ,lgS,Act.put,lsA,lsZ,lsS]
 refine wpAnyG.tT 2 (v:=.pointer (some ⟨w2.heap.size,0,none⟩)) (by decide) 10 (by kernel_rfl) (by rfl) ?y2 (HBX _ hc0) ?_
 case y2 =>
  rintro w' ⟨f0,f1,f2,f3,f4,f5,f6,f7⟩
  simp only [lgA,lgZ,lgS]
  go_simp
 simp only [lgA,lgZ,lgS,Act.put,lsA,lsZ,lsS]
 refine wpAnyG.tT 3 (v:=.pointer (some ⟨w2.heap.size,0,none⟩)) (by decide) 10 (by kernel_rfl) (by rfl) ?y3 (HBX _ hc0) ?_
 case y3 =>
  rintro w' ⟨f0,f1,f2,f3,f4,f5,f6,f7⟩
  simp only [lgA,lgZ,lgS]
  go_simp
 simp only [lgA,lgZ,lgS,Act.put,lsA,lsZ,lsS]
 refine wpAnyG.tT 4 (v:=.pointer (some ⟨w2.heap.size,14,none⟩)) (by decide) 10 (by kernel_rfl) (by rfl) ?y4 (HBX _ hc0) ?_
 case y4 =>
  rintro w' ⟨f0,f1,f2,f3,f4,f5,f6,f7⟩
  simp only [lgA,lgZ,lgS]
  go_simp
 simp only [lgA,lgZ,lgS,Act.put,lsA,lsZ,lsS]
 refine wpAnyG.tT 5 (v:=.pointer (some ⟨w1.heap.size,0,none⟩)) (by decide) 10 (by kernel_rfl) (by rfl) ?y5 (HBX _ hc0) ?_
 case y5 =>
  rintro w' ⟨f0,f1,f2,f3,f4,f5,f6,f7⟩
  simp only [lgA,lgZ,lgS]
  go_simp
 simp only [lgA,lgZ,lgS,Act.put,lsA,lsZ,lsS]
 refine wpAnyG.one 6 (by kernel_rfl) (by decide) (by rfl) (fun K hK=>?_)
 simp only [lgA,lgZ,lgS]
 go_simp
 refine (list3Q z0 ((hJ.below hz).below hc0) hlc).mono ?_
 rintro e z1 ⟨rfl,hk1⟩
 have hc1:Below W3.heap.size W3 z1:=aF hc0 hk1
 dsimp only
 refine hK _ _ ⟨fun _=>HBX _ hc1,fun _=>trivial⟩ ?_
 clear hK K
 refine wpAnyG.one 7 (by kernel_rfl) (by decide) (by rfl) (fun K hK=>?_)
 simp only [lgA,lgZ,lgS]
 go_simp
 refine (filledQ P z1 (hP.below (aF (aF hb hz) hc1)) hG.ok EN.out ((hL1.below hz).below hc1) hPK).mono ?_
 rintro e z2 ⟨v3,rfl,FO3,hk2⟩
 have hc2:Below W3.heap.size W3 z2:=aF hc1 hk2
 have FOc1:=FO3
 obtain ⟨x0,x1,x2,gv1,vc1,gr1,rc1,ER,ec0,rfl,_,_,_,_,_⟩:=FO3
 obtain ⟨pk1,ak1,nk1,ck1,dk1,mk1,lk1,ek0⟩:=(hL1 0 hN0).1.form
 rw [ec0] at ek0
 simp only [List.cons.injEq,and_true] at ek0
 obtain ⟨rfl,rfl,rfl⟩:=ek0
 clear ec0
 dsimp only
 refine hK _ _ ⟨fun _=>HBX _ hc2,fun _=>trivial⟩ ?_
 clear hK K
 refine wpAnyG.one 8 (by kernel_rfl) (by decide) (by rfl) (fun K hK=>?_)
 simp only [lgA,lgZ,lgS]
 go_simp
 refine hK _ _ ⟨fun _=>HBX _ hc2,fun _=>trivial⟩ ?_
 clear hK K
 refine wpAnyG.tT 9 (v:=.pointer (some ⟨w2.heap.size,0,none⟩)) (by decide) 10 (by kernel_rfl) (by rfl) ?y9 (HBX _ hc2) ?_
 case y9 =>
  rintro w' ⟨f0,f1,f2,f3,f4,f5,f6,f7⟩
  simp only [lgA,lgZ,lgS]
  go_simp
 simp only [lgA,lgZ,lgS,Act.put,lsA,lsZ,lsS]
 refine wpAnyG.one 10 (by kernel_rfl) (by decide) (by rfl) (fun K hK=>?_)
 simp only [lgA,lgZ,lgS]
 have thB:=oJ th hc2
 have thA:=sO thB (by omega:0≤0) (by omega:0+7≤0+15)
 refine wp_store_mid 31 _ _ rfl w2.heap.size 0 #[.bool P.mx,.string P.nm,.bool pk1,.slice ak1 nk1 ck1,.slice dk1 mk1 lk1,.slice (some ⟨gv1,0,none⟩) P.vn vc1,.slice (some ⟨gr1,0,none⟩) P.rn rc1] rfl rfl thA lY (by simp [Value.oneCell']) ?_
 refine hK _ _ ⟨fun h=>absurd h (by decide),fun _=>trivial⟩ ?_
 clear hK K
 refine wpAnyG.done (by kernel_rfl) (NoPanic.normal ?_)
 have hq1:=Below.size hc1
 have hq2:=Below.size hc2
 have O1:Off w2.heap.size z2 (z2.setCells w2.heap.size 0 [.bool P.mx,.string P.nm,.bool pk1,.slice ak1 nk1 ck1,.slice dk1 mk1 lk1,.slice (some ⟨gv1,0,none⟩) P.vn vc1,.slice (some ⟨gr1,0,none⟩) P.rn rc1]):=nR w2.heap.size _ 0 z2
 have r14b:=aB hc2 r14
 have hsS:=O1.size
 have th1:(z2.setCells w2.heap.size 0 [.bool P.mx,.string P.nm,.bool pk1,.slice ak1 nk1 ck1,.slice dk1 mk1 lk1,.slice (some ⟨gv1,0,none⟩) P.vn vc1,.slice (some ⟨gr1,0,none⟩) P.rn rc1]).there w2.heap.size 0 15:=World.there_setCells thB w2.heap.size 0 _
 have FO5:=FOc1.off O1 (show w2.heap.size<z1.heap.size by omega)
 have hbA:Below w2.heap.size w2 (z2.setCells w2.heap.size 0 [.bool P.mx,.string P.nm,.bool pk1,.slice ak1 nk1 ck1,.slice dk1 mk1 lk1,.slice (some ⟨gv1,0,none⟩) P.vn vc1,.slice (some ⟨gr1,0,none⟩) P.rn rc1]):=(aF hz hc2).trans (O1.below (Nat.le_refl _))
 clear HBX p0 p1 p2 p3 p4 p5 p6 r14 hk1 hk2 hc0 hc1 hc2 FOc1 RW th O1 hz thB
 obtain ⟨w5,e5⟩:∃ w5,w5=(z2.setCells w2.heap.size 0 [.bool P.mx,.string P.nm,.bool pk1,.slice ak1 nk1 ck1,.slice dk1 mk1 lk1,.slice (some ⟨gv1,0,none⟩) P.vn vc1,.slice (some ⟨gr1,0,none⟩) P.rn rc1]):=⟨_,rfl⟩
 have E5:Hid (w5=(z2.setCells w2.heap.size 0 [.bool P.mx,.string P.nm,.bool pk1,.slice ak1 nk1 ck1,.slice dk1 mk1 lk1,.slice (some ⟨gv1,0,none⟩) P.vn vc1,.slice (some ⟨gr1,0,none⟩) P.rn rc1])):=e5
 rw [← e5] at th1 FO5 hbA hsS
 have hP5:=hP.below (aF hb hbA)
 replace hb:=aF hb hbA
 replace Pb:=Pb.below hbA
 have hLF5:=hLF2.below hbA
 have hs5:=Below.size hbA
 have p0:=Pb 0 _ rfl
 have p1:=Pb 1 _ rfl
 have p2:=Pb 2 _ rfl
 have p3:=Pb 3 _ rfl
 have p4:=Pb 4 _ rfl
 have p5:=Pb 5 _ rfl
 have p6:=Pb 6 _ rfl
 go_wp2_with fail
 simp only [← e5]
 clear e5
 have HBX:∀ w',Below w5.heap.size w5 w'→(w'.cell? ⟨w.heap.size,0,none⟩=some (.bool P.mx)∧w'.cell? ⟨w.heap.size,1,none⟩=some (.string P.nm)∧w'.cell? ⟨w.heap.size,2,none⟩=some (.bool P.p)∧w'.cell? ⟨w.heap.size,3,none⟩=some (.slice P.a P.na P.ca)∧w'.cell? ⟨w.heap.size,4,none⟩=some (.slice P.d P.nd P.cd)∧w'.cell? ⟨w.heap.size,5,none⟩=some (.slice P.va P.vn P.vc)∧w'.cell? ⟨w.heap.size,6,none⟩=some (.slice P.ra P.rn P.rc)):=fun w' h=>⟨aB h p0,aB h p1,aB h p2,aB h p3,aB h p4,aB h p5,aB h p6⟩
 refine wp_region_noPanic (aU 7 HBX (by kernel_rfl) ?_)
 have hc0:Below w5.heap.size w5 w5.drew:=aS _
 generalize w5.drew=y0 at *
 refine wpAnyG.tT 0 (v:=.pointer (some ⟨w2.heap.size,0,none⟩)) (by decide) 7 (by kernel_rfl) (by rfl) ?y0 (HBX _ hc0) ?_
 case y0 =>
  rintro w' ⟨f0,f1,f2,f3,f4,f5,f6⟩
  simp only [lgA,lgZ]
  go_simp
 simp only [lgA,lgZ,Act.put,lsA,lsZ,lsS]
 refine wpAnyG.tT 1 (v:=.agg #[.bool P.mx,.string P.nm,.bool P.p,.slice P.a P.na P.ca,.slice P.d P.nd P.cd,.slice P.va P.vn P.vc,.slice P.ra P.rn P.rc]) (by decide) 7 (by kernel_rfl) (by rfl) ?y1 (HBX _ hc0) ?_
 case y1 =>
  rintro w' ⟨f0,f1,f2,f3,f4,f5,f6⟩
  simp only [lgA,lgZ,lgS]
  go_simp
 simp only [lgA,lgZ,lgS,Act.put,lsA,lsZ,lsS]
 refine wpAnyG.tT 2 (v:=.slice (some ⟨g0,0,none⟩) N cap) (by decide) 7 (by kernel_rfl) (by rfl) ?y2 (HBX _ hc0) ?_
 case y2 =>
  rintro w' ⟨f0,f1,f2,f3,f4,f5,f6⟩
  simp only [lgA,lgZ,lgS]
  go_simp
 simp only [lgA,lgZ,lgS,Act.put,lsA,lsZ,lsS]
 refine wpAnyG.one 3 (by kernel_rfl) (by decide) (by rfl) (fun K hK=>?_)
 simp only [lgA,lgZ,lgS]
 go_simp
 refine (copied3Q (some ⟨g0,0,none⟩) N cap F y0 (hLF5.below hc0) (by omega) hFs).mono ?_
 rintro e y1 ⟨C,v4,rfl,CJ4,hk1⟩
 have hc1:Below w5.heap.size w5 y1:=aF hc0 hk1
 obtain ⟨g4,cap4,rfl,hL4⟩:=CJ4.lnc hN0
 dsimp only
 refine hK _ _ ⟨fun _=>HBX _ hc1,fun _=>trivial⟩ ?_
 clear hK K
 refine wpAnyG.one 4 (by kernel_rfl) (by decide) (by rfl) (fun K hK=>?_)
 simp only [lgA,lgZ,lgS]
 go_simp
 refine (filledQ P y1 (hP5.below hc1) hG.ok EN.out hL4 hPK).mono ?_
 rintro e y2 ⟨v5,rfl,FO4,hk2⟩
 have hc2:Below w5.heap.size w5 y2:=aF hc1 hk2
 have FOc2:=FO4
 obtain ⟨x0,x1,x2,gv2,vc2,gr2,rc2,ER,ec0,rfl,_,_,_,_,_⟩:=FO4
 obtain ⟨pk2,ak2,nk2,ck2,dk2,mk2,lk2,ek0⟩:=(CJ4.q3 0 hN0).form
 dsimp only at ec0
 rw [ec0] at ek0
 simp only [List.cons.injEq,and_true] at ek0
 obtain ⟨rfl,rfl,rfl⟩:=ek0
 clear ec0
 dsimp only
 refine hK _ _ ⟨fun _=>HBX _ hc2,fun _=>trivial⟩ ?_
 clear hK K
 refine wpAnyG.one 5 (by kernel_rfl) (by decide) (by rfl) (fun K hK=>?_)
 simp only [lgA,lgZ,lgS]
 go_simp
 refine hK _ _ ⟨fun _=>HBX _ hc2,fun _=>trivial⟩ ?_
 clear hK K
 refine wpAnyG.tT 6 (v:=.pointer (some ⟨w2.heap.size,7,none⟩)) (by decide) 7 (by kernel_rfl) (by rfl) ?y6 (HBX _ hc2) ?_
 case y6 =>
  rintro w' ⟨f0,f1,f2,f3,f4,f5,f6⟩
  simp only [lgA,lgZ,lgS]
  go_simp
 simp only [lgA,lgZ,lgS,Act.put,lsA,lsZ,lsS]
 refine wpAnyG.one 7 (by kernel_rfl) (by decide) (by rfl) (fun K hK=>?_)
 simp only [lgA,lgZ,lgS]
 have thC:=oJ (sO th1 (by omega:0≤7) (by omega:7+7≤0+15)) hc2
 refine wp_store_mid 31 _ _ rfl w2.heap.size 7 #[.bool P.mx,.string P.nm,.bool pk2,.slice ak2 nk2 ck2,.slice dk2 mk2 lk2,.slice (some ⟨gv2,0,none⟩) P.vn vc2,.slice (some ⟨gr2,0,none⟩) P.rn rc2] rfl rfl thC lY (by simp [Value.oneCell']) ?_
 refine hK _ _ ⟨fun h=>absurd h (by decide),fun _=>trivial⟩ ?_
 clear hK K
 refine wpAnyG.done (by kernel_rfl) (NoPanic.normal ?_)
 have hq3:=Below.size hc1
 have hq4:=Below.size hc2
 obtain ⟨w8,e8⟩:∃ w8,w8=(y2.setCells w2.heap.size 7 [.bool P.mx,.string P.nm,.bool pk2,.slice ak2 nk2 ck2,.slice dk2 mk2 lk2,.slice (some ⟨gv2,0,none⟩) P.vn vc2,.slice (some ⟨gr2,0,none⟩) P.rn rc2]):=⟨_,rfl⟩
 have O2:Off w2.heap.size y2 w8:=by rw [e8];exact nR w2.heap.size _ 7 y2
 have BX:BoxC w8 w2.heap.size ([.bool P.mx,.string P.nm,.bool pk1,.slice ak1 nk1 ck1,.slice dk1 mk1 lk1,.slice (some ⟨gv1,0,none⟩) P.vn vc1,.slice (some ⟨gr1,0,none⟩) P.rn rc1]++([.bool P.mx,.string P.nm,.bool pk2,.slice ak2 nk2 ck2,.slice dk2 mk2 lk2,.slice (some ⟨gv2,0,none⟩) P.vn vc2,.slice (some ⟨gr2,0,none⟩) P.rn rc2]++[.pointer (some ⟨w1.heap.size,0,none⟩)])):=lent_box thA rfl rfl r14b (by rw [← E5.out];exact hc2) thC e8
 have FO6:=(FO5.below hc2).off O2 (show w2.heap.size<z1.heap.size by omega)
 have FO7:=FOc2.off O2 (show w2.heap.size<y1.heap.size by omega)
 have CJ7:=(CJ4.below hk2).off O2 (show w2.heap.size<y0.heap.size by have:=Below.size hc0;omega)
 have hbE:Below w2.heap.size w2 w8:=(aF hbA hc2).trans (O2.below (Nat.le_refl _))
 have hbF:Below w.heap.size w w8:=(aF hb hc2).trans (O2.below (by omega))
 obtain ⟨Q,gv,gr,eQ,cQ,pQ,tQ,mQ⟩:=FO6.copy hP hG.ok hFN (fun i hi=>(hL1 i (by rw [EN.out];exact hi)).1.below hbE)
 obtain ⟨O,gv',gr',eO,cO,pO,tO,mO⟩:=FO7.copy hP hG.ok hFN (fun i hi=>CJ7.q3 i (by rw [EN.out];exact hi))
 have uQ:∃ B,w1.heap.size≤B∧FO w8 B P (lcl F A) (.agg Q.cells.toArray):=⟨_,show w1.heap.size≤z1.heap.size by omega,by rw [← eQ];exact FO6⟩
 simp only [Value.agg.injEq] at eQ eO
 have eQ2:=congrArg Array.toList eQ
 have eO2:=congrArg Array.toList eO
 simp only at eQ2 eO2
 rw [eQ2,eO2] at BX
 have FIN:LentS (.returned (.pointer (some ⟨w2.heap.size,0,none⟩))) P w w8:=⟨w2.heap.size,w1.heap.size,N,F,A,_,_,_,_,G,Q,O,gv,gr,rfl,⟨BX,hJ.below hbE,Nat.le_trans hNs (by decide),hFs,cQ,cO,pQ,pO,tQ,tO,mQ,uQ,EN.out⟩,hbF,by omega⟩
 rw [← e8]
 clear HBX p0 p1 p2 p3 p4 p5 p6 FO6 FO7 CJ7 eQ eO eQ2 eO2 E5 BX cQ cO pQ pO tQ tO mQ mO uQ hbF hbE O2 hc0 hc1 hc2 hk1 hk2 CJ4 FOc2 hL4 thA thC th1 r14b FO5 hbA hP5 hb Pb hLF hLF2 hLF5 hL1 hJ hFs hsS hs5 hs3 hs2 hs1 hq1 hq2 hq3 hq4 hlc hgR hJR hcap hG hFN hP EN e8
 go_wp2
 go_ret
 exact FIN
end Go.Proofs.YtdcocflnafcikaaGreatDoor

import Derived.Test.YtnkpbjmfdfjeiaaGreatDoorSoVAll
namespace Go.Proofs.YtnkpbjmfdfjeiaaGreatDoor
open Go.RowKit
set_option maxRecDepth 100000 in
set_option maxHeartbeats 16000000 in
theorem certL1 (P:Prob) {C gx gy gz xc yc:Nat} (w:World) (hP:PQ w P) (hK0:P.K≤1048576) (RC:Rw 35 w C #[.int .i64 1,.bool false,.slice none 0 0,.slice none 0 0,.slice (some ⟨gx,0,none⟩) P.vn xc,.slice (some ⟨gy,0,none⟩) P.rn yc,.slice none 0 0]) :
  Calls Tryz.prog 20 #[P.val,.pointer (some ⟨C,0,none⟩)] w fun e w'=>CertR P 1 C gx gy gz w e w':=by
 have hvn:P.vn≤1048576:=by have:=hP.all;have:=tot_len P.ZV P.vn;omega
 have hrn:P.rn≤1048576:=by have:=hP.all;have:=tot_len P.ZR P.rn;omega
 have HPW:Hid (PQ w P):=hP
 clear hP
 unfold Prob.val
 have hb0:=bel_d0 w (.cells #[.bool P.mx,.string P.nm,.bool P.p,.slice P.a P.na P.ca,.slice P.d P.nd P.cd,.slice P.va P.vn P.vc,.slice P.ra P.rn P.rc] 31)
 have RB:=Rw.new 31 w #[.bool P.mx,.string P.nm,.bool P.p,.slice P.a P.na P.ca,.slice P.d P.nd P.cd,.slice P.va P.vn P.vc,.slice P.ra P.rn P.rc]
 replace RC:=RC.below hb0
 have c0:=(RC.cell 0).trans (show _ = some (Value.int .i64 1) from rfl)
 obtain ⟨B,hBw⟩:∃ B,w.heap.size = B:=⟨_,rfl⟩
 have HBW:Hid (w.heap.size = B):=hBw
 rw [hBw] at RB hb0
 go_enter Tryz.func20,Tryz.ntmps20
 go_wp2_with fail
 clear hBw
 have hs1:B≤(w.alloc (.cells #[.bool P.mx,.string P.nm,.bool P.p,.slice P.a P.na P.ca,.slice P.d P.nd P.cd,.slice P.va P.vn P.vc,.slice P.ra P.rn P.rc] 31)).heap.size:=by rw [← HBW.out];simp
 generalize w.alloc (.cells #[.bool P.mx,.string P.nm,.bool P.p,.slice P.a P.na P.ca,.slice P.d P.nd P.cd,.slice P.va P.vn P.vc,.slice P.ra P.rn P.rc] 31) = W1 at *
 refine (wordOf1 W1).mono ?_
 rintro e w1 ⟨rfl,rfl⟩
 have hL1:LsQ (w1.alloc (.cells #[.string ⟨#[111,112,116,105,109,97,108]⟩,.slice none 0 0] 78)) B (.slice (some ⟨w1.heap.size,0,none⟩) 1 1) 1 (fun _=>wdV 1) (fun _=>0) (fun _ _=>(0,0)):=ls_one (c:=#[.string ⟨#[111,112,116,105,109,97,108]⟩,.slice none 0 0]) ⟨_,_,rfl,rfl,SL.nil _ _ _ _ _⟩ hs1
 have hx:=bel_d0 w1 (.cells #[.string ⟨#[111,112,116,105,109,97,108]⟩,.slice none 0 0] 78)
 replace RB:=RB.below hx
 replace RC:=RC.below hx
 have hbU:Below B w (w1.alloc (.cells #[.string ⟨#[111,112,116,105,109,97,108]⟩,.slice none 0 0] 78)):=hb0.trans (hx.mono hs1)
 have hBU:B≤(w1.alloc (.cells #[.string ⟨#[111,112,116,105,109,97,108]⟩,.slice none 0 0] 78)).heap.size:=Nat.le_trans hs1 hx.size
 replace c0:=kept_c hx c0
 clear hx hb0
 obtain ⟨la,lc,hlv⟩:∃ la lc,(Value.slice (some ⟨w1.heap.size,0,none⟩) 1 1) = .slice la 1 lc:=⟨_,_,rfl⟩
 go_wp2_with fail
 generalize w1.heap.size = h1 at *
 generalize w1.alloc (.cells #[.string ⟨#[111,112,116,105,109,97,108]⟩,.slice none 0 0] 78) = U1 at *
 refine (valueLineQ C 1 U1).mono ?_
 rintro e w2 ⟨c,rfl,hVL,hk2⟩
 obtain ⟨sv,nv,ec,hsv,hpv⟩:=id hVL
 obtain ⟨na,nc,rfl,_⟩:=SL.form hpv
 obtain rfl:c = #[.string sv,.slice na 1 nc]:=by
  obtain ⟨l⟩:=c
  exact congrArg Array.mk ec
 have hw2:=hk2.size
 have hLV:=ls_one (F:=B) (c:=#[.string sv,.slice na 1 nc]) ⟨sv,_,rfl,hsv,SL.mono hpv (by omega)⟩ (by omega)
 have hx:=bel_d0 w2 (.cells #[.string sv,.slice na 1 nc] 78)
 have hx2:=bel_tr hk2 hx
 replace hL1:=hL1.below hx2
 replace RB:=RB.below hx2
 replace RC:=RC.below hx2
 replace c0:=kept_c hx2 c0
 replace hbU:=hbU.trans (hx2.mono hBU)
 replace hBU:=Nat.le_trans hBU hx2.size
 clear hx hx2 hk2 hVL hpv ec hsv hw2
 go_wp2_with (refine wpList_appL _ rfl _ _ rfl (F:=B) (n:=1) (q:=1) rfl rfl hL1 hLV (by decide) (by decide) hBU ?_)
 intro lv2 w3 hL2 kA
 have hbV:=hbU.trans kA.below
 have RBv:=RB.kb kA (by decide)
 have RCv:=RC.kb kA (by decide)
 have hBV:=Nat.le_trans hBU kA.size
 clear hL1 hLV kA RB RC hbU c0
 obtain ⟨l2a,l2c,rfl⟩:=hL2.form
 go_wp2_with fail
 have hbU:=hbV
 have hLU:=hL2
 have RB:=RBv
 have RC:=RCv
 have hBU:=hBV
 clear hbV hL2 RBv RCv hBV
 have HBX:∀ w',Kb B [78] w3 w'→w'.cell? ⟨B,5,none⟩ = some (.slice P.va P.vn P.vc)∧w'.cell? ⟨C,4,none⟩ = some (.slice (some ⟨gx,0,none⟩) P.vn xc):=fun w' k=>⟨((RB.kb k (by decide)).cell 5).trans rfl,((RC.kb k (by decide)).cell 4).trans rfl⟩
 have hD0:=bel_d1 w3
 refine wp_region_noPanic (wp_region_guard (Till 10 10 (fun w'=>w'.cell? ⟨B,5,none⟩ = some (.slice P.va P.vn P.vc)∧w'.cell? ⟨C,4,none⟩ = some (.slice (some ⟨gx,0,none⟩) P.vn xc)) (fun _=>True)) (by as_aux_lemma=>kernel_rfl) ?_)
 have hc0:Kb B [78] w3 w3.drew:=(Kb.refl B [78] w3).drew
 generalize w3.drew = z0 at *
 refine wpAnyG.tT 0 (v:=.slice l2a 2 l2c) (by decide) 10 (by as_aux_lemma=>kernel_rfl) (by rfl) ?y0 (HBX _ hc0) ?_
 case y0 =>
  rintro w' ⟨q0,q1⟩
  simp only [lgA,lgZ]
  go_simp
 simp only [lgA,lgZ,Act.put,lsA,lsZ,lsS]
 refine wpAnyG.tT 1 (v:=.pointer (some ⟨B,5,none⟩)) (by decide) 10 (by as_aux_lemma=>kernel_rfl) (by rfl) ?y1 (HBX _ hc0) ?_
 case y1 =>
  rintro w' ⟨q0,q1⟩
  simp only [lgA,lgZ,lgS]
  go_simp
 simp only [lgA,lgZ,lgS,Act.put,lsA,lsZ,lsS]
 refine wpAnyG.tT 2 (v:=.slice P.va P.vn P.vc) (by decide) 10 (by as_aux_lemma=>kernel_rfl) (by rfl) ?y2 (HBX _ hc0) ?_
 case y2 =>
  rintro w' ⟨q0,q1⟩
  simp only [lgA,lgZ,lgS]
  go_simp
 simp only [lgA,lgZ,lgS,Act.put,lsA,lsZ,lsS]
 refine wpAnyG.tT 3 (v:=.pointer (some ⟨C,0,none⟩)) (by decide) 10 (by as_aux_lemma=>kernel_rfl) (by rfl) ?y3 (HBX _ hc0) ?_
 case y3 =>
  rintro w' ⟨q0,q1⟩
  simp only [lgA,lgZ,lgS]
  go_simp
 simp only [lgA,lgZ,lgS,Act.put,lsA,lsZ,lsS]
 refine wpAnyG.tT 4 (v:=.pointer (some ⟨C,0,none⟩)) (by decide) 10 (by as_aux_lemma=>kernel_rfl) (by rfl) ?y4 (HBX _ hc0) ?_
 case y4 =>
  rintro w' ⟨q0,q1⟩
  simp only [lgA,lgZ,lgS]
  go_simp
 simp only [lgA,lgZ,lgS,Act.put,lsA,lsZ,lsS]
 refine wpAnyG.tT 5 (v:=.pointer (some ⟨C,4,none⟩)) (by decide) 10 (by as_aux_lemma=>kernel_rfl) (by rfl) ?y5 (HBX _ hc0) ?_
 case y5 =>
  rintro w' ⟨q0,q1⟩
  simp only [lgA,lgZ,lgS]
  go_simp
 simp only [lgA,lgZ,lgS,Act.put,lsA,lsZ,lsS]
 refine wpAnyG.tT 6 (v:=.slice (some ⟨gx,0,none⟩) P.vn xc) (by decide) 10 (by as_aux_lemma=>kernel_rfl) (by rfl) ?y6 (HBX _ hc0) ?_
 case y6 =>
  rintro w' ⟨q0,q1⟩
  simp only [lgA,lgZ,lgS]
  go_simp
 simp only [lgA,lgZ,lgS,Act.put,lsA,lsZ,lsS]
 refine wpAnyG.one 7 (by as_aux_lemma=>kernel_rfl) (by decide) (by rfl) (fun K hK=>?_)
 simp only [lgA,lgZ,lgS]
 go_simp
 have hy:=bel_d0 z0 (.cells #[.slice (some ⟨gx,0,none⟩) P.vn xc] 33)
 have BX:=box_new z0 #[.slice (some ⟨gx,0,none⟩) P.vn xc] 33
 have hc1:Kb B [78] w3 (z0.alloc (.cells #[.slice (some ⟨gx,0,none⟩) P.vn xc] 33)):=hc0.bel hy hBU
 obtain ⟨hz,hHz⟩:∃ hz,z0.heap.size = hz:=⟨_,rfl⟩
 rw [hHz] at BX ⊢
 generalize z0.alloc (.cells #[.slice (some ⟨gx,0,none⟩) P.vn xc] 33) = z1 at *
 refine hK _ _ ⟨fun _=>HBX _ hc1,fun _=>trivial⟩ ?_
 clear hK K
 refine wpAnyG.one 8 (by as_aux_lemma=>kernel_rfl) (by decide) (by rfl) (fun K hK=>?_)
 simp only [lgA,lgZ,lgS]
 go_simp
 refine (varLinesQ P (q:=1) (gl:=hz) (vc:=xc) (G:=(fun _=>gx)) z1 (HPW.out.below (by rw [HBW.out];exact (hbU.trans hc1.below))) hK0 (by decide) (fun k hk=>by obtain rfl:k = 0:=(by omega);exact BX 0 _ rfl)).mono ?_
 rintro e z2 ⟨g2,rfl,hV2,hk2⟩
 have hc2:Kb B [78] w3 z2:=hc1.bel hk2 hBU
 dsimp only
 refine hK _ _ ⟨fun _=>HBX _ hc2,fun _=>trivial⟩ ?_
 clear hK K
 refine wpAnyG.one 9 (by as_aux_lemma=>kernel_rfl) (by decide) (by rfl) (fun K hK=>?_)
 simp only [lgA,lgZ,lgS]
 refine wp_appL z2 _ _ rfl (F:=B) (n:=2) (q:=P.vn) (v:=.slice l2a 2 l2c) rfl rfl (hLU.below (bel_tr (bel_tr hD0 hy) hk2)) (hV2.mono (by have:=hc1.size;omega)) (by omega) (by omega) (by have:=hc2.size;omega) ?_
 intro lv3 w8 hL3 kA
 have hc3:Kb B [78] w3 w8:=hc2.trans kA
 refine hK _ _ ⟨fun _=>HBX _ hc3,fun _=>trivial⟩ ?_
 clear hK K
 refine wpAnyG.one 10 (by as_aux_lemma=>kernel_rfl) (by decide) (by rfl) (fun K hK=>?_)
 simp only [lgA,lgZ,lgS]
 go_simp
 refine hK _ _ ⟨fun h=>absurd h (by decide),fun _=>trivial⟩ ?_
 clear hK K
 refine wpAnyG.done (by as_aux_lemma=>kernel_rfl) (NoPanic.normal ?_)
 have hbN:=hbU.trans hc3.below
 have RBn:=RB.kb hc3 (by decide)
 have RCn:=RC.kb hc3 (by decide)
 have hBN:=Nat.le_trans hBU hc3.size
 clear HBX hc0 hc1 hc2 hc3 hk2 kA hV2 RB RC hbU hLU BX hy
 obtain ⟨l3a,l3c,rfl⟩:=hL3.form
 go_wp2_with fail
 have hbU:=hbN
 have RB:=RBn
 have RC:=RCn
 have hBU:=hBN
 have hLU:=hL3
 clear hbN RBn RCn hBN hL3
 have HBX:∀ w',Kb B [78] w8 w'→w'.cell? ⟨B,6,none⟩ = some (.slice P.ra P.rn P.rc)∧w'.cell? ⟨C,5,none⟩ = some (.slice (some ⟨gy,0,none⟩) P.rn yc):=fun w' k=>⟨((RB.kb k (by decide)).cell 6).trans rfl,((RC.kb k (by decide)).cell 5).trans rfl⟩
 have hD0:=bel_d1 w8
 refine wp_region_noPanic (wp_region_guard (Till 9 9 (fun w'=>w'.cell? ⟨B,6,none⟩ = some (.slice P.ra P.rn P.rc)∧w'.cell? ⟨C,5,none⟩ = some (.slice (some ⟨gy,0,none⟩) P.rn yc)) (fun _=>True)) (by as_aux_lemma=>kernel_rfl) ?_)
 have hc0:Kb B [78] w8 w8.drew:=(Kb.refl B [78] w8).drew
 generalize w8.drew = z0 at *
 refine wpAnyG.tT 0 (v:=.slice l3a (2 + P.vn) l3c) (by decide) 9 (by as_aux_lemma=>kernel_rfl) (by rfl) ?y0 (HBX _ hc0) ?_
 case y0 =>
  rintro w' ⟨q0,q1⟩
  simp only [lgA,lgZ]
  go_simp
 simp only [lgA,lgZ,Act.put,lsA,lsZ,lsS]
 refine wpAnyG.tT 1 (v:=.pointer (some ⟨B,6,none⟩)) (by decide) 9 (by as_aux_lemma=>kernel_rfl) (by rfl) ?y1 (HBX _ hc0) ?_
 case y1 =>
  rintro w' ⟨q0,q1⟩
  simp only [lgA,lgZ,lgS]
  go_simp
 simp only [lgA,lgZ,lgS,Act.put,lsA,lsZ,lsS]
 refine wpAnyG.tT 2 (v:=.slice P.ra P.rn P.rc) (by decide) 9 (by as_aux_lemma=>kernel_rfl) (by rfl) ?y2 (HBX _ hc0) ?_
 case y2 =>
  rintro w' ⟨q0,q1⟩
  simp only [lgA,lgZ,lgS]
  go_simp
 simp only [lgA,lgZ,lgS,Act.put,lsA,lsZ,lsS]
 refine wpAnyG.tT 3 (v:=.pointer (some ⟨C,0,none⟩)) (by decide) 9 (by as_aux_lemma=>kernel_rfl) (by rfl) ?y3 (HBX _ hc0) ?_
 case y3 =>
  rintro w' ⟨q0,q1⟩
  simp only [lgA,lgZ,lgS]
  go_simp
 simp only [lgA,lgZ,lgS,Act.put,lsA,lsZ,lsS]
 refine wpAnyG.tT 4 (v:=.pointer (some ⟨C,0,none⟩)) (by decide) 9 (by as_aux_lemma=>kernel_rfl) (by rfl) ?y4 (HBX _ hc0) ?_
 case y4 =>
  rintro w' ⟨q0,q1⟩
  simp only [lgA,lgZ,lgS]
  go_simp
 simp only [lgA,lgZ,lgS,Act.put,lsA,lsZ,lsS]
 refine wpAnyG.tT 5 (v:=.pointer (some ⟨C,5,none⟩)) (by decide) 9 (by as_aux_lemma=>kernel_rfl) (by rfl) ?y5 (HBX _ hc0) ?_
 case y5 =>
  rintro w' ⟨q0,q1⟩
  simp only [lgA,lgZ,lgS]
  go_simp
 simp only [lgA,lgZ,lgS,Act.put,lsA,lsZ,lsS]
 refine wpAnyG.tT 6 (v:=.slice (some ⟨gy,0,none⟩) P.rn yc) (by decide) 9 (by as_aux_lemma=>kernel_rfl) (by rfl) ?y6 (HBX _ hc0) ?_
 case y6 =>
  rintro w' ⟨q0,q1⟩
  simp only [lgA,lgZ,lgS]
  go_simp
 simp only [lgA,lgZ,lgS,Act.put,lsA,lsZ,lsS]
 refine wpAnyG.one 7 (by as_aux_lemma=>kernel_rfl) (by decide) (by rfl) (fun K hK=>?_)
 simp only [lgA,lgZ,lgS]
 go_simp
 refine (rowLinesQ P (gy:=gy) (yc:=yc) z0 (HPW.out.below (by rw [HBW.out];exact (hbU.trans hc0.below))) hK0).mono ?_
 rintro e z2 ⟨g2,rfl,hV2,hk2⟩
 have hc2:Kb B [78] w8 z2:=hc0.bel hk2 hBU
 dsimp only
 refine hK _ _ ⟨fun _=>HBX _ hc2,fun _=>trivial⟩ ?_
 clear hK K
 refine wpAnyG.one 8 (by as_aux_lemma=>kernel_rfl) (by decide) (by rfl) (fun K hK=>?_)
 simp only [lgA,lgZ,lgS]
 refine wp_appL z2 _ _ rfl (F:=B) (n:=2 + P.vn) (q:=P.rn) (v:=.slice l3a (2 + P.vn) l3c) rfl rfl (hLU.below (bel_tr hD0 hk2)) (hV2.mono (by have:=hc0.size;omega)) (by omega) (by omega) (by have:=hc2.size;omega) ?_
 intro lv3 w9 hL3 kA
 have hc3:Kb B [78] w8 w9:=hc2.trans kA
 refine hK _ _ ⟨fun _=>HBX _ hc3,fun _=>trivial⟩ ?_
 clear hK K
 refine wpAnyG.one 9 (by as_aux_lemma=>kernel_rfl) (by decide) (by rfl) (fun K hK=>?_)
 simp only [lgA,lgZ,lgS]
 go_simp
 refine hK _ _ ⟨fun h=>absurd h (by decide),fun _=>trivial⟩ ?_
 clear hK K
 refine wpAnyG.done (by as_aux_lemma=>kernel_rfl) (NoPanic.normal ?_)
 have hbN:=hbU.trans hc3.below
 have hBN:=Nat.le_trans hBU hc3.size
 clear HBX hc0  hc2 hc3 hk2 kA hV2 RB RC hbU hLU
 obtain ⟨l4a,l4c,rfl⟩:=hL3.form
 have hLE:LsQ (w9.alloc (.cells #[.string ⟨#[101,110,100]⟩,.slice none 0 0] 78)) B (.slice (some ⟨w9.heap.size,0,none⟩) 1 1) 1 (fun _=>wEnd) (fun _=>0) (fun _ _=>(0,0)):=ls_one (c:=#[.string ⟨#[101,110,100]⟩,.slice none 0 0]) ⟨_,_,rfl,rfl,SL.nil _ _ _ _ _⟩ hBN
 have hx:=bel_d0 w9 (.cells #[.string ⟨#[101,110,100]⟩,.slice none 0 0] 78)
 replace hL3:=hL3.below hx
 replace hbN:=hbN.trans (hx.mono hBN)
 replace hBN:=Nat.le_trans hBN hx.size
 clear hx
 go_wp2_with (refine wpList_appL _ rfl _ _ rfl (F:=B) (q:=1) rfl rfl hL3 hLE (by omega) (by decide) hBN ?_)
 intro lv5 w10 hL5 kE
 obtain ⟨l5a,l5c,rfl⟩:=hL5.form
 go_wp2
 go_ret
 have hn:lnsN 1 P.vn P.rn = 2 + P.vn + P.rn + 1:=by unfold lnsN hdV nvV nrV;simp
 refine ⟨l5a,l5c,by rw [hn];rfl,?_,by rw [HBW.out];exact hbN.trans kE.below⟩
 rw [HBW.out,hn]
 refine hL5.congr fun t ht=>?_
 exact lines1 P C gx gy gz t (by omega)
set_option maxRecDepth 100000 in
set_option maxHeartbeats 16000000 in
theorem certL2 (P:Prob) {C gx gy gz yc:Nat} (w:World) (hP:PQ w P) (hK0:P.K≤1048576) (RC:Rw 35 w C #[.int .i64 2,.bool false,.slice none 0 0,.slice none 0 0,.slice none 0 0,.slice (some ⟨gy,0,none⟩) P.rn yc,.slice none 0 0]) :
  Calls Tryz.prog 20 #[P.val,.pointer (some ⟨C,0,none⟩)] w fun e w'=>CertR P 2 C gx gy gz w e w':=by
 have hvn:P.vn≤1048576:=by have:=hP.all;have:=tot_len P.ZV P.vn;omega
 have hrn:P.rn≤1048576:=by have:=hP.all;have:=tot_len P.ZR P.rn;omega
 have HPW:Hid (PQ w P):=hP
 clear hP
 unfold Prob.val
 have hb0:=bel_d0 w (.cells #[.bool P.mx,.string P.nm,.bool P.p,.slice P.a P.na P.ca,.slice P.d P.nd P.cd,.slice P.va P.vn P.vc,.slice P.ra P.rn P.rc] 31)
 have RB:=Rw.new 31 w #[.bool P.mx,.string P.nm,.bool P.p,.slice P.a P.na P.ca,.slice P.d P.nd P.cd,.slice P.va P.vn P.vc,.slice P.ra P.rn P.rc]
 replace RC:=RC.below hb0
 have c0:=(RC.cell 0).trans (show _ = some (Value.int .i64 2) from rfl)
 obtain ⟨B,hBw⟩:∃ B,w.heap.size = B:=⟨_,rfl⟩
 have HBW:Hid (w.heap.size = B):=hBw
 rw [hBw] at RB hb0
 go_enter Tryz.func20,Tryz.ntmps20
 go_wp2_with fail
 clear hBw
 have hs1:B≤(w.alloc (.cells #[.bool P.mx,.string P.nm,.bool P.p,.slice P.a P.na P.ca,.slice P.d P.nd P.cd,.slice P.va P.vn P.vc,.slice P.ra P.rn P.rc] 31)).heap.size:=by rw [← HBW.out];simp
 generalize w.alloc (.cells #[.bool P.mx,.string P.nm,.bool P.p,.slice P.a P.na P.ca,.slice P.d P.nd P.cd,.slice P.va P.vn P.vc,.slice P.ra P.rn P.rc] 31) = W1 at *
 refine (wordOf2 W1).mono ?_
 rintro e w1 ⟨rfl,rfl⟩
 have hL1:LsQ (w1.alloc (.cells #[.string ⟨#[105,110,102,101,97,115,105,98,108,101]⟩,.slice none 0 0] 78)) B (.slice (some ⟨w1.heap.size,0,none⟩) 1 1) 1 (fun _=>wdV 2) (fun _=>0) (fun _ _=>(0,0)):=ls_one (c:=#[.string ⟨#[105,110,102,101,97,115,105,98,108,101]⟩,.slice none 0 0]) ⟨_,_,rfl,rfl,SL.nil _ _ _ _ _⟩ hs1
 have hx:=bel_d0 w1 (.cells #[.string ⟨#[105,110,102,101,97,115,105,98,108,101]⟩,.slice none 0 0] 78)
 replace RB:=RB.below hx
 replace RC:=RC.below hx
 have hbU:Below B w (w1.alloc (.cells #[.string ⟨#[105,110,102,101,97,115,105,98,108,101]⟩,.slice none 0 0] 78)):=hb0.trans (hx.mono hs1)
 have hBU:B≤(w1.alloc (.cells #[.string ⟨#[105,110,102,101,97,115,105,98,108,101]⟩,.slice none 0 0] 78)).heap.size:=Nat.le_trans hs1 hx.size
 replace c0:=kept_c hx c0
 clear hx hb0
 obtain ⟨la,lc,hlv⟩:∃ la lc,(Value.slice (some ⟨w1.heap.size,0,none⟩) 1 1) = .slice la 1 lc:=⟨_,_,rfl⟩
 go_wp2_with fail
 generalize w1.heap.size = h1 at *
 generalize w1.alloc (.cells #[.string ⟨#[105,110,102,101,97,115,105,98,108,101]⟩,.slice none 0 0] 78) = U1 at *
 have hLU:=hL1
 clear hL1 c0
 have HBX:∀ w',Kb B [78] U1 w'→w'.cell? ⟨B,6,none⟩ = some (.slice P.ra P.rn P.rc)∧w'.cell? ⟨C,5,none⟩ = some (.slice (some ⟨gy,0,none⟩) P.rn yc):=fun w' k=>⟨((RB.kb k (by decide)).cell 6).trans rfl,((RC.kb k (by decide)).cell 5).trans rfl⟩
 have hD0:=bel_d1 U1
 refine wp_region_noPanic (wp_region_guard (Till 9 9 (fun w'=>w'.cell? ⟨B,6,none⟩ = some (.slice P.ra P.rn P.rc)∧w'.cell? ⟨C,5,none⟩ = some (.slice (some ⟨gy,0,none⟩) P.rn yc)) (fun _=>True)) (by as_aux_lemma=>kernel_rfl) ?_)
 have hc0:Kb B [78] U1 U1.drew:=(Kb.refl B [78] U1).drew
 generalize U1.drew = z0 at *
 refine wpAnyG.tT 0 (v:=.slice (some ⟨h1,0,none⟩) 1 1) (by decide) 9 (by as_aux_lemma=>kernel_rfl) (by rfl) ?y0 (HBX _ hc0) ?_
 case y0 =>
  rintro w' ⟨q0,q1⟩
  simp only [lgA,lgZ]
  go_simp
 simp only [lgA,lgZ,Act.put,lsA,lsZ,lsS]
 refine wpAnyG.tT 1 (v:=.pointer (some ⟨B,6,none⟩)) (by decide) 9 (by as_aux_lemma=>kernel_rfl) (by rfl) ?y1 (HBX _ hc0) ?_
 case y1 =>
  rintro w' ⟨q0,q1⟩
  simp only [lgA,lgZ,lgS]
  go_simp
 simp only [lgA,lgZ,lgS,Act.put,lsA,lsZ,lsS]
 refine wpAnyG.tT 2 (v:=.slice P.ra P.rn P.rc) (by decide) 9 (by as_aux_lemma=>kernel_rfl) (by rfl) ?y2 (HBX _ hc0) ?_
 case y2 =>
  rintro w' ⟨q0,q1⟩
  simp only [lgA,lgZ,lgS]
  go_simp
 simp only [lgA,lgZ,lgS,Act.put,lsA,lsZ,lsS]
 refine wpAnyG.tT 3 (v:=.pointer (some ⟨C,0,none⟩)) (by decide) 9 (by as_aux_lemma=>kernel_rfl) (by rfl) ?y3 (HBX _ hc0) ?_
 case y3 =>
  rintro w' ⟨q0,q1⟩
  simp only [lgA,lgZ,lgS]
  go_simp
 simp only [lgA,lgZ,lgS,Act.put,lsA,lsZ,lsS]
 refine wpAnyG.tT 4 (v:=.pointer (some ⟨C,0,none⟩)) (by decide) 9 (by as_aux_lemma=>kernel_rfl) (by rfl) ?y4 (HBX _ hc0) ?_
 case y4 =>
  rintro w' ⟨q0,q1⟩
  simp only [lgA,lgZ,lgS]
  go_simp
 simp only [lgA,lgZ,lgS,Act.put,lsA,lsZ,lsS]
 refine wpAnyG.tT 5 (v:=.pointer (some ⟨C,5,none⟩)) (by decide) 9 (by as_aux_lemma=>kernel_rfl) (by rfl) ?y5 (HBX _ hc0) ?_
 case y5 =>
  rintro w' ⟨q0,q1⟩
  simp only [lgA,lgZ,lgS]
  go_simp
 simp only [lgA,lgZ,lgS,Act.put,lsA,lsZ,lsS]
 refine wpAnyG.tT 6 (v:=.slice (some ⟨gy,0,none⟩) P.rn yc) (by decide) 9 (by as_aux_lemma=>kernel_rfl) (by rfl) ?y6 (HBX _ hc0) ?_
 case y6 =>
  rintro w' ⟨q0,q1⟩
  simp only [lgA,lgZ,lgS]
  go_simp
 simp only [lgA,lgZ,lgS,Act.put,lsA,lsZ,lsS]
 refine wpAnyG.one 7 (by as_aux_lemma=>kernel_rfl) (by decide) (by rfl) (fun K hK=>?_)
 simp only [lgA,lgZ,lgS]
 go_simp
 refine (rowLinesQ P (gy:=gy) (yc:=yc) z0 (HPW.out.below (by rw [HBW.out];exact (hbU.trans hc0.below))) hK0).mono ?_
 rintro e z2 ⟨g2,rfl,hV2,hk2⟩
 have hc2:Kb B [78] U1 z2:=hc0.bel hk2 hBU
 dsimp only
 refine hK _ _ ⟨fun _=>HBX _ hc2,fun _=>trivial⟩ ?_
 clear hK K
 refine wpAnyG.one 8 (by as_aux_lemma=>kernel_rfl) (by decide) (by rfl) (fun K hK=>?_)
 simp only [lgA,lgZ,lgS]
 refine wp_appL z2 _ _ rfl (F:=B) (n:=1) (q:=P.rn) (v:=.slice (some ⟨h1,0,none⟩) 1 1) rfl rfl (hLU.below (bel_tr hD0 hk2)) (hV2.mono (by have:=hc0.size;omega)) (by omega) (by omega) (by have:=hc2.size;omega) ?_
 intro lv3 w8 hL3 kA
 have hc3:Kb B [78] U1 w8:=hc2.trans kA
 refine hK _ _ ⟨fun _=>HBX _ hc3,fun _=>trivial⟩ ?_
 clear hK K
 refine wpAnyG.one 9 (by as_aux_lemma=>kernel_rfl) (by decide) (by rfl) (fun K hK=>?_)
 simp only [lgA,lgZ,lgS]
 go_simp
 refine hK _ _ ⟨fun h=>absurd h (by decide),fun _=>trivial⟩ ?_
 clear hK K
 refine wpAnyG.done (by as_aux_lemma=>kernel_rfl) (NoPanic.normal ?_)
 have hbN:=hbU.trans hc3.below
 have hBN:=Nat.le_trans hBU hc3.size
 clear HBX hc0  hc2 hc3 hk2 kA hV2 RB RC hbU hLU
 obtain ⟨l4a,l4c,rfl⟩:=hL3.form
 have hLE:LsQ (w8.alloc (.cells #[.string ⟨#[101,110,100]⟩,.slice none 0 0] 78)) B (.slice (some ⟨w8.heap.size,0,none⟩) 1 1) 1 (fun _=>wEnd) (fun _=>0) (fun _ _=>(0,0)):=ls_one (c:=#[.string ⟨#[101,110,100]⟩,.slice none 0 0]) ⟨_,_,rfl,rfl,SL.nil _ _ _ _ _⟩ hBN
 have hx:=bel_d0 w8 (.cells #[.string ⟨#[101,110,100]⟩,.slice none 0 0] 78)
 replace hL3:=hL3.below hx
 replace hbN:=hbN.trans (hx.mono hBN)
 replace hBN:=Nat.le_trans hBN hx.size
 clear hx
 go_wp2_with (refine wpList_appL _ rfl _ _ rfl (F:=B) (q:=1) rfl rfl hL3 hLE (by omega) (by decide) hBN ?_)
 intro lv5 w10 hL5 kE
 obtain ⟨l5a,l5c,rfl⟩:=hL5.form
 go_wp2
 go_ret
 have hn:lnsN 2 P.vn P.rn = 1 + P.rn + 1:=by unfold lnsN hdV nvV nrV;simp
 refine ⟨l5a,l5c,by rw [hn];rfl,?_,by rw [HBW.out];exact hbN.trans kE.below⟩
 rw [HBW.out,hn]
 refine hL5.congr fun t ht=>?_
 exact lines2 P C gx gy gz t (by omega)
end Go.Proofs.YtnkpbjmfdfjeiaaGreatDoor

import Derived.Test.YtceigfafmalfgaaGreatDoorPsDAll
import Derived.Test.YtceigfafmalfgaaGreatDoorMbH
import Derived.Test.YtceigfafmalfgaaGreatDoorPsE
import Derived.Test.YtceigfafmalfgaaGreatDoorPuH
import Derived.Test.YtceigfafmalfgaaGreatDoorPrF
import Derived.Test.YtceigfafmalfgaaGreatDoorGuardSAll
namespace Go.Proofs.YtceigfafmalfgaaGreatDoor
open Go.RowKit Go.Maps
set_option maxRecDepth 100000 in
set_option maxHeartbeats 16000000 in
theorem back_walk7 (P:Prob) (w:World) (hP:PQ w P) (hK7:P.K≤1048576) (hT:TB w)
  (HA:∀ w1,Below w.heap.size w w1→Calls Tryz.prog 5 #[] w1 fun e w'=>e = .returned (.bool true)∧Below w1.heap.size w1 w') :
  Calls Tryz.prog 3 #[P.val] w fun e w'=>e = .returned (.bool true)∧Below w.heap.size w w':=by
 have Pb:=box_new w #[.bool P.mx,.string P.nm,.bool P.p,.slice P.a P.na P.ca,.slice P.d P.nd P.cd,.slice P.va P.vn P.vc,.slice P.ra P.rn P.rc] 31
 have hb:=bel_d0 w (.cells #[.bool P.mx,.string P.nm,.bool P.p,.slice P.a P.na P.ca,.slice P.d P.nd P.cd,.slice P.va P.vn P.vc,.slice P.ra P.rn P.rc] 31)
 unfold Prob.val
 have p0:=Pb 0 _ rfl
 have p1:=Pb 1 _ rfl
 have p2:=Pb 2 _ rfl
 have p3:=Pb 3 _ rfl
 have p4:=Pb 4 _ rfl
 have p5:=Pb 5 _ rfl
 have p6:=Pb 6 _ rfl
 go_enter Tryz.func3,Tryz.ntmps3
 go_wp2_with fail
 generalize w.alloc (.cells #[.bool P.mx,.string P.nm,.bool P.p,.slice P.a P.na P.ca,.slice P.d P.nd P.cd,.slice P.va P.vn P.vc,.slice P.ra P.rn P.rc] 31)=W at *
 refine (beyondQ P W (hP.below hb) hK7).mono ?_
 clear p0 p1 p2 p3 p4 p5 p6
 rintro e w1 ⟨bb,rfl,h1⟩
 replace Pb:=Pb.below h1
 replace hb:=bel_tr hb h1
 clear h1
 cases bb
 rotate_left
 ·go_wp2
  go_ret
  exact ⟨rfl,hb⟩
 go_wp2_with fail
 refine (HA w1 hb).mono ?_
 rintro e w2 ⟨rfl,h1⟩
 replace Pb:=Pb.below h1
 replace hb:=bel_tr hb h1
 clear h1 HA
 have p0:=Pb 0 _ rfl
 have p1:=Pb 1 _ rfl
 have p2:=Pb 2 _ rfl
 have p3:=Pb 3 _ rfl
 have p4:=Pb 4 _ rfl
 have p5:=Pb 5 _ rfl
 have p6:=Pb 6 _ rfl
 go_wp2_with fail
 refine (unlikeQ P w2 (hP.below hb) hK7).mono ?_
 clear p0 p1 p2 p3 p4 p5 p6
 rintro e w3 ⟨bb,rfl,hU,h1⟩
 replace Pb:=Pb.below h1
 replace hb:=bel_tr hb h1
 clear h1
 cases bb
 ·go_wp2
  go_ret
  exact ⟨rfl,hb⟩
 have HU:=hU rfl
 clear hU
 have p0:=Pb 0 _ rfl
 have p1:=Pb 1 _ rfl
 have p2:=Pb 2 _ rfl
 have p3:=Pb 3 _ rfl
 have p4:=Pb 4 _ rfl
 have p5:=Pb 5 _ rfl
 have p6:=Pb 6 _ rfl
 go_wp2_with fail
 refine (textQ P w3 (hP.below hb) hK7).mono ?_
 clear p0 p1 p2 p3 p4 p5 p6
 rintro e w4 ⟨ia,ic,ca,cc,la,lc,wa,wc,rfl,hX,h1⟩
 replace Pb:=Pb.below h1
 replace hb:=bel_tr hb h1
 clear h1
 have HBd:=buildP P ia ic ca cc la lc wa wc w4 hX (hP.below hb) HU hK7 (hT.below hb)
 go_wp2_with fail
 refine HBd.mono ?_
 clear HBd hX
 rintro e w5 ⟨Q,v,wq,rfl,hM,hQ,hTO,h1⟩
 have hQvn:Q.vn≤1048576:=by rw [hM.vn];have:=hP.all;have:=tot_len P.ZV P.vn;omega
 obtain ⟨S,rfl,hS,hTid,hC⟩:=hTO.probn hQ hQvn
 replace Pb:=Pb.below h1
 replace hb:=bel_tr hb h1
 clear h1 hTO hQ
 have e0:S.val = .agg #[.bool S.mx,.string S.nm,.bool S.p,.slice S.a S.na S.ca,.slice S.d S.nd S.cd,.slice S.va S.vn S.vc,.slice S.ra S.rn S.rc]:=rfl
 rw [e0]
 clear e0
 have Qb:=box_new w5 #[.bool S.mx,.string S.nm,.bool S.p,.slice S.a S.na S.ca,.slice S.d S.nd S.cd,.slice S.va S.vn S.vc,.slice S.ra S.rn S.rc] 31
 have x1:=bel_d0 w5 (.cells #[.bool S.mx,.string S.nm,.bool S.p,.slice S.a S.na S.ca,.slice S.d S.nd S.cd,.slice S.va S.vn S.vc,.slice S.ra S.rn S.rc] 31)
 obtain ⟨RQ,hRQ⟩:∃ RQ,RQ=w5.heap.size:=⟨_,rfl⟩
 rw [← hRQ] at Qb
 replace Pb:=Pb.below x1
 replace hb:=bel_tr hb x1
 replace hC:=hC.below x1
 clear hS
 go_wp2_with fail
 rw [← hRQ]
 clear hRQ x1
 generalize w5.alloc (.cells #[.bool S.mx,.string S.nm,.bool S.p,.slice S.a S.na S.ca,.slice S.d S.nd S.cd,.slice S.va S.vn S.vc,.slice S.ra S.rn S.rc] 31)=W5 at *
 have HBX:∀ w',Below W5.heap.size W5 w'→(w'.cell? ⟨RQ,0,none⟩=some (.bool S.mx)∧w'.cell? ⟨RQ,1,none⟩=some (.string S.nm)∧w'.cell? ⟨RQ,2,none⟩=some (.bool S.p)∧w'.cell? ⟨RQ,3,none⟩=some (.slice S.a S.na S.ca)∧w'.cell? ⟨RQ,4,none⟩=some (.slice S.d S.nd S.cd)∧w'.cell? ⟨RQ,5,none⟩=some (.slice S.va S.vn S.vc)∧w'.cell? ⟨RQ,6,none⟩=some (.slice S.ra S.rn S.rc)∧w'.cell? ⟨w.heap.size,0,none⟩=some (.bool P.mx)∧w'.cell? ⟨w.heap.size,1,none⟩=some (.string P.nm)∧w'.cell? ⟨w.heap.size,2,none⟩=some (.bool P.p)∧w'.cell? ⟨w.heap.size,3,none⟩=some (.slice P.a P.na P.ca)∧w'.cell? ⟨w.heap.size,4,none⟩=some (.slice P.d P.nd P.cd)∧w'.cell? ⟨w.heap.size,5,none⟩=some (.slice P.va P.vn P.vc)∧w'.cell? ⟨w.heap.size,6,none⟩=some (.slice P.ra P.rn P.rc)):=fun w' hh=>⟨(Qb.below hh) 0 _ rfl,(Qb.below hh) 1 _ rfl,(Qb.below hh) 2 _ rfl,(Qb.below hh) 3 _ rfl,(Qb.below hh) 4 _ rfl,(Qb.below hh) 5 _ rfl,(Qb.below hh) 6 _ rfl,(Pb.below hh) 0 _ rfl,(Pb.below hh) 1 _ rfl,(Pb.below hh) 2 _ rfl,(Pb.below hh) 3 _ rfl,(Pb.below hh) 4 _ rfl,(Pb.below hh) 5 _ rfl,(Pb.below hh) 6 _ rfl⟩
 refine wp_region_noPanic (wp_region_guard (fun _ w'=>(w'.cell? ⟨RQ,0,none⟩=some (.bool S.mx)∧w'.cell? ⟨RQ,1,none⟩=some (.string S.nm)∧w'.cell? ⟨RQ,2,none⟩=some (.bool S.p)∧w'.cell? ⟨RQ,3,none⟩=some (.slice S.a S.na S.ca)∧w'.cell? ⟨RQ,4,none⟩=some (.slice S.d S.nd S.cd)∧w'.cell? ⟨RQ,5,none⟩=some (.slice S.va S.vn S.vc)∧w'.cell? ⟨RQ,6,none⟩=some (.slice S.ra S.rn S.rc)∧w'.cell? ⟨w.heap.size,0,none⟩=some (.bool P.mx)∧w'.cell? ⟨w.heap.size,1,none⟩=some (.string P.nm)∧w'.cell? ⟨w.heap.size,2,none⟩=some (.bool P.p)∧w'.cell? ⟨w.heap.size,3,none⟩=some (.slice P.a P.na P.ca)∧w'.cell? ⟨w.heap.size,4,none⟩=some (.slice P.d P.nd P.cd)∧w'.cell? ⟨w.heap.size,5,none⟩=some (.slice P.va P.vn P.vc)∧w'.cell? ⟨w.heap.size,6,none⟩=some (.slice P.ra P.rn P.rc))) (by as_aux_lemma=>kernel_rfl) ?_)
 have hc0:Below W5.heap.size W5 W5.drew:=bel_d1 _
 generalize W5.drew=z0 at *
 refine wpAnyG.tA 0 (v:=.agg #[.bool S.mx,.string S.nm,.bool S.p,.slice S.a S.na S.ca,.slice S.d S.nd S.cd,.slice S.va S.vn S.vc,.slice S.ra S.rn S.rc]) (by decide) 4 (by as_aux_lemma=>kernel_rfl) (by rfl) ?y0 (HBX _ hc0) ?_
 case y0 =>
  rintro w' ⟨q0,q1,q2,q3,q4,q5,q6,q7,q8,q9,q10,q11,q12,q13⟩
  simp only [lgA,lgZ]
  go_simp
 simp only [lgA,lgZ,Act.put,lsA,lsZ,lsS]
 refine wpAnyG.tA 1 (v:=.agg #[.bool P.mx,.string P.nm,.bool P.p,.slice P.a P.na P.ca,.slice P.d P.nd P.cd,.slice P.va P.vn P.vc,.slice P.ra P.rn P.rc]) (by decide) 4 (by as_aux_lemma=>kernel_rfl) (by rfl) ?y1 (HBX _ hc0) ?_
 case y1 =>
  rintro w' ⟨q0,q1,q2,q3,q4,q5,q6,q7,q8,q9,q10,q11,q12,q13⟩
  simp only [lgA,lgZ,lgS]
  go_simp
 simp only [lgA,lgZ,lgS,Act.put,lsA,lsZ,lsS]
 refine wpAnyG.one 2 (by as_aux_lemma=>kernel_rfl) (by decide) (by rfl) (fun K hK=>?_)
 simp only [lgA,lgZ,lgS]
 go_simp
 refine (tidyQ P z0 (hP.below (bel_tr hb hc0)) hK7 (hT.below (bel_tr hb hc0))).mono ?_
 rintro e z1 ⟨vt,rfl,hTO2,hk1⟩
 have hc1:Below W5.heap.size W5 z1:=bel_tr hc0 hk1
 obtain ⟨R,rfl,hR,hTid2,hC2⟩:=hTO2.probn hP (by have:=hP.all;have:=tot_len P.ZV P.vn;omega)
 dsimp only
 refine hK _ _ (HBX _ hc1) ?_
 clear hK K
 refine wpAnyG.one 3 (by as_aux_lemma=>kernel_rfl) (by decide) (by rfl) (fun K hK=>?_)
 simp only [lgA,lgZ,lgS]
 go_simp
 refine (sameQ7 S R z1 ((hC.below hc1).mt hC2 hTid hTid2 hM hP hK7)).mono ?_
 rintro e z2 ⟨rfl,hk2⟩
 have hc2:Below W5.heap.size W5 z2:=bel_tr hc1 hk2
 dsimp only
 refine hK _ _ (HBX _ hc2) ?_
 clear hK K
 refine wpAnyG.one 4 (by as_aux_lemma=>kernel_rfl) (by decide) (by rfl) (fun K hK=>?_)
 simp only [lgA,lgZ,lgS]
 go_simp
 refine hK _ _ (HBX _ hc2) ?_
 clear hK K
 refine wpAnyG.done (by as_aux_lemma=>kernel_rfl) (NoPanic.normal ?_)
 have hbz:=bel_tr hb hc2
 clear HBX hc0 hc1 hc2 Pb Qb hC
 go_wp2
 go_ret
 exact ⟨rfl,hbz⟩
end Go.Proofs.YtceigfafmalfgaaGreatDoor

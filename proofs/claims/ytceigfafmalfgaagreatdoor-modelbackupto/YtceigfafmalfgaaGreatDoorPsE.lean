import Derived.Test.YtceigfafmalfgaaGreatDoorQ3OAll
import Derived.Test.YtceigfafmalfgaaGreatDoorGuardSAll
namespace Go.Proofs.YtceigfafmalfgaaGreatDoor
open Go.RowKit
set_option maxRecDepth 100000 in
set_option maxHeartbeats 16000000 in
theorem sameQ7 (P Q:Prob) (w:World) (h:SamP w P Q):Calls Tryz.prog 9 #[P.val,Q.val] w fun e w'=>e = .returned (.bool true)∧Below w.heap.size w w':=by
 have eQ:Q.val = .agg #[.bool P.mx,.string P.nm,.bool Q.p,.slice Q.a Q.na Q.ca,.slice Q.d Q.nd Q.cd,.slice Q.va P.vn Q.vc,.slice Q.ra P.rn Q.rc]:=by unfold Prob.val;rw [h.mx,h.nm,h.vn,h.rn]
 rw [eQ]
 obtain ⟨_,_,_,_,hvs,hrs,HK,HV,HR⟩:=h
 obtain ⟨PA,PB,hb,hs⟩:=boxc2 w #[.bool P.mx,.string P.nm,.bool P.p,.slice P.a P.na P.ca,.slice P.d P.nd P.cd,.slice P.va P.vn P.vc,.slice P.ra P.rn P.rc] 31 #[.bool P.mx,.string P.nm,.bool Q.p,.slice Q.a Q.na Q.ca,.slice Q.d Q.nd Q.cd,.slice Q.va P.vn Q.vc,.slice Q.ra P.rn Q.rc] 31
 clear eQ hs
 unfold Prob.val
 have a2:=PA 2 _ rfl
 have a3:=PA 3 _ rfl
 have a4:=PA 4 _ rfl
 have b2:=PB 2 _ rfl
 have b3:=PB 3 _ rfl
 have b4:=PB 4 _ rfl
 go_enter Tryz.func9,Tryz.ntmps9
 go_wp2_with fail
 generalize (w.alloc (.cells #[.bool P.mx,.string P.nm,.bool P.p,.slice P.a P.na P.ca,.slice P.d P.nd P.cd,.slice P.va P.vn P.vc,.slice P.ra P.rn P.rc] 31)).alloc (.cells #[.bool P.mx,.string P.nm,.bool Q.p,.slice Q.a Q.na Q.ca,.slice Q.d Q.nd Q.cd,.slice Q.va P.vn Q.vc,.slice Q.ra P.rn Q.rc] 31)=W at *
 refine (HK W hb).mono ?_
 rintro e w1 ⟨rfl,h1⟩
 replace PA:=PA.below h1
 replace PB:=PB.below h1
 replace hb:=bel_tr hb h1
 clear a2 a3 a4 b2 b3 b4 h1 HK
 have a0:=PA 0 _ rfl
 have a1:=PA 1 _ rfl
 have a5:=PA 5 _ rfl
 have a6:=PA 6 _ rfl
 have b0:=PB 0 _ rfl
 have b1:=PB 1 _ rfl
 have b5:=PB 5 _ rfl
 have b6:=PB 6 _ rfl
 go_wp2
 clear a0 a1 a5 a6 b0 b1 b5 b6
 go_loopw [6] (fun s6 wr=>∃ (i:Nat),i≤P.vn∧s6 = .int .i64 i∧Below w1.heap.size w1 wr) (fun s6 _=>P.vn-(intOf s6).toNat)
 case atStart=>exact ⟨0,Nat.zero_le _,rfl,Below.refl _ _⟩
 case round =>
  obtain ⟨i,hi,rfl,hbr⟩:=hrel
  have hbW:=bel_tr hb hbr
  have qa:=(PA.below hbr) 5 _ rfl
  have qb:=(PB.below hbr) 5 _ rfl
  by_cases hlt:i<P.vn
  ·have hkI:(i:Int)<(P.vn:Int):=by omega
   rcases HV with h0|⟨b,o,b',o',e1,e2,hv⟩
   ·omega
   have V:=(hv i hlt).below hbW
   have hkI2:(i:Int)*13=((i*13:Nat):Int):=by omega
   rw [e1] at qa
   rw [e2] at qb
   clear e1 e2 hv HR
   go_wp2_with fail
   obtain ⟨p,a,na,ca,d,nd,cd,p',a',na',ca',d',nd',cd',⟨cx0,cx1,cx2⟩,⟨cy0,cy1,cy2⟩,HS⟩:=V.obj
   have HBX:∀ w',Below wr.heap.size wr w'→(w'.cell? ⟨w.heap.size,5,none⟩=some (.slice (some ⟨b,o,none⟩) P.vn P.vc)∧w'.cell? ⟨b,o+i*13+1,none⟩=some (.bool p)∧w'.cell? ⟨b,o+i*13+1+1,none⟩=some (.slice a na ca)∧w'.cell? ⟨b,o+i*13+1+2,none⟩=some (.slice d nd cd)∧w'.cell? ⟨(w.heap.size+1),5,none⟩=some (.slice (some ⟨b',o',none⟩) P.vn Q.vc)∧w'.cell? ⟨b',o'+i*13+1,none⟩=some (.bool p')∧w'.cell? ⟨b',o'+i*13+1+1,none⟩=some (.slice a' na' ca')∧w'.cell? ⟨b',o'+i*13+1+2,none⟩=some (.slice d' nd' cd')):=fun w' h=>⟨kept_c h qa,kept_c h cx0,kept_c h cx1,kept_c h cx2,kept_c h qb,kept_c h cy0,kept_c h cy1,kept_c h cy2⟩
   refine wp_region_noPanic (wp_region_guardB HBX (by as_aux_lemma=>kernel_rfl) ?_)
   have hc0:Below wr.heap.size wr wr.drew:=bel_d1 _
   generalize wr.drew=z0 at *
   refine wpAnyG.tA 0 (v:=.pointer (some ⟨w.heap.size,5,none⟩)) (by decide) 1 (by as_aux_lemma=>kernel_rfl) (by rfl) ?y0 (HBX _ hc0) ?_
   case y0 =>
    rintro w' ⟨f0,f1,f2,f3,f4,f5,f6,f7⟩
    simp only [lgA,lgZ]
    go_simp
   simp only [lgA,lgZ,Act.put,lsA,lsZ,lsS]
   refine wpAnyG.tA 1 (v:=.slice (some ⟨b,o,none⟩) P.vn P.vc) (by decide) 3 (by as_aux_lemma=>kernel_rfl) (by rfl) ?y1 (HBX _ hc0) ?_
   case y1 =>
    rintro w' ⟨f0,f1,f2,f3,f4,f5,f6,f7⟩
    simp only [lgA,lgZ,lgS]
    go_simp
   simp only [lgA,lgZ,lgS,Act.put,lsA,lsZ,lsS]
   refine wpAnyG.tA 2 (v:=.int .i64 (i:Int)) (by decide) 3 (by as_aux_lemma=>kernel_rfl) (by rfl) ?y2 (HBX _ hc0) ?_
   case y2 =>
    rintro w' ⟨f0,f1,f2,f3,f4,f5,f6,f7⟩
    simp only [lgA,lgZ,lgS]
    go_simp
   simp only [lgA,lgZ,lgS,Act.put,lsA,lsZ,lsS]
   refine wpAnyG.tA 3 (v:=.pointer (some ⟨b,o+i*13,none⟩)) (by decide) 4 (by as_aux_lemma=>kernel_rfl) (by rfl) ?y3 (HBX _ hc0) ?_
   case y3 =>
    rintro w' ⟨f0,f1,f2,f3,f4,f5,f6,f7⟩
    simp only [lgA,lgZ,lgS]
    go_simp
   simp only [lgA,lgZ,lgS,Act.put,lsA,lsZ,lsS]
   refine wpAnyG.tA 4 (v:=.pointer (some ⟨b,o+i*13+1,none⟩)) (by decide) 5 (by as_aux_lemma=>kernel_rfl) (by rfl) ?y4 (HBX _ hc0) ?_
   case y4 =>
    rintro w' ⟨f0,f1,f2,f3,f4,f5,f6,f7⟩
    simp only [lgA,lgZ,lgS]
    go_simp
   simp only [lgA,lgZ,lgS,Act.put,lsA,lsZ,lsS]
   refine wpAnyG.tA 5 (v:=.agg #[.bool p,.slice a na ca,.slice d nd cd]) (by decide) 12 (by as_aux_lemma=>kernel_rfl) (by rfl) ?y5 (HBX _ hc0) ?_
   case y5 =>
    rintro w' ⟨f0,f1,f2,f3,f4,f5,f6,f7⟩
    simp only [lgA,lgZ,lgS]
    go_simp
   simp only [lgA,lgZ,lgS,Act.put,lsA,lsZ,lsS]
   refine wpAnyG.tA 6 (v:=.pointer (some ⟨(w.heap.size+1),5,none⟩)) (by decide) 7 (by as_aux_lemma=>kernel_rfl) (by rfl) ?y6 (HBX _ hc0) ?_
   case y6 =>
    rintro w' ⟨f0,f1,f2,f3,f4,f5,f6,f7⟩
    simp only [lgA,lgZ,lgS]
    go_simp
   simp only [lgA,lgZ,lgS,Act.put,lsA,lsZ,lsS]
   refine wpAnyG.tA 7 (v:=.slice (some ⟨b',o',none⟩) P.vn Q.vc) (by decide) 9 (by as_aux_lemma=>kernel_rfl) (by rfl) ?y7 (HBX _ hc0) ?_
   case y7 =>
    rintro w' ⟨f0,f1,f2,f3,f4,f5,f6,f7⟩
    simp only [lgA,lgZ,lgS]
    go_simp
   simp only [lgA,lgZ,lgS,Act.put,lsA,lsZ,lsS]
   refine wpAnyG.tA 8 (v:=.int .i64 (i:Int)) (by decide) 9 (by as_aux_lemma=>kernel_rfl) (by rfl) ?y8 (HBX _ hc0) ?_
   case y8 =>
    rintro w' ⟨f0,f1,f2,f3,f4,f5,f6,f7⟩
    simp only [lgA,lgZ,lgS]
    go_simp
   simp only [lgA,lgZ,lgS,Act.put,lsA,lsZ,lsS]
   refine wpAnyG.tA 9 (v:=.pointer (some ⟨b',o'+i*13,none⟩)) (by decide) 10 (by as_aux_lemma=>kernel_rfl) (by rfl) ?y9 (HBX _ hc0) ?_
   case y9 =>
    rintro w' ⟨f0,f1,f2,f3,f4,f5,f6,f7⟩
    simp only [lgA,lgZ,lgS]
    go_simp
   simp only [lgA,lgZ,lgS,Act.put,lsA,lsZ,lsS]
   refine wpAnyG.tA 10 (v:=.pointer (some ⟨b',o'+i*13+1,none⟩)) (by decide) 11 (by as_aux_lemma=>kernel_rfl) (by rfl) ?y10 (HBX _ hc0) ?_
   case y10 =>
    rintro w' ⟨f0,f1,f2,f3,f4,f5,f6,f7⟩
    simp only [lgA,lgZ,lgS]
    go_simp
   simp only [lgA,lgZ,lgS,Act.put,lsA,lsZ,lsS]
   refine wpAnyG.tA 11 (v:=.agg #[.bool p',.slice a' na' ca',.slice d' nd' cd']) (by decide) 12 (by as_aux_lemma=>kernel_rfl) (by rfl) ?y11 (HBX _ hc0) ?_
   case y11 =>
    rintro w' ⟨f0,f1,f2,f3,f4,f5,f6,f7⟩
    simp only [lgA,lgZ,lgS]
    go_simp
   simp only [lgA,lgZ,lgS,Act.put,lsA,lsZ,lsS]
   refine wpAnyG.one 12 (by as_aux_lemma=>kernel_rfl) (by decide) (by rfl) (fun K hK=>?_)
   simp only [lgA,lgZ,lgS]
   go_simp
   refine (HS z0 hc0).mono ?_
   rintro e z1 ⟨rfl,hk1⟩
   have hc1:Below wr.heap.size wr z1:=bel_tr hc0 hk1
   dsimp only
   refine hK _ _ (HBX _ hc1) ?_
   clear hK K
   refine wpAnyG.one 13 (by as_aux_lemma=>kernel_rfl) (by decide) (by rfl) (fun K hK=>?_)
   simp only [lgA,lgZ,lgS]
   go_simp
   refine hK _ _ (HBX _ hc1) ?_
   clear hK K
   refine wpAnyG.done (by as_aux_lemma=>kernel_rfl) (NoPanic.normal ?_)
   replace hbW:=bel_tr hbW hc1
   replace hbr:=bel_tr hbr hc1
   replace qa:=kept_c hc1 qa
   replace qb:=kept_c hc1 qb
   replace V:=V.below hc1
   clear HBX HS hk1 hc0 hc1 cx0 cx1 cx2 cy0 cy1 cy2
   go_wp2_with fail
   obtain ⟨h,p,a,na,ca,d,nd,cd,p',a',na',ca',d',nd',cd',⟨cx0,cx1,cx2,cx3⟩,⟨cy0,cy1,cy2,cy3⟩,HS⟩:=V.lo
   have HBX:∀ w',Below z1.heap.size z1 w'→(w'.cell? ⟨w.heap.size,5,none⟩=some (.slice (some ⟨b,o,none⟩) P.vn P.vc)∧w'.cell? ⟨b,o+i*13+4,none⟩=some (.bool h)∧w'.cell? ⟨b,o+i*13+4+1,none⟩=some (.bool p)∧w'.cell? ⟨b,o+i*13+4+2,none⟩=some (.slice a na ca)∧w'.cell? ⟨b,o+i*13+4+3,none⟩=some (.slice d nd cd)∧w'.cell? ⟨(w.heap.size+1),5,none⟩=some (.slice (some ⟨b',o',none⟩) P.vn Q.vc)∧w'.cell? ⟨b',o'+i*13+4,none⟩=some (.bool h)∧w'.cell? ⟨b',o'+i*13+4+1,none⟩=some (.bool p')∧w'.cell? ⟨b',o'+i*13+4+2,none⟩=some (.slice a' na' ca')∧w'.cell? ⟨b',o'+i*13+4+3,none⟩=some (.slice d' nd' cd')):=fun w' h=>⟨kept_c h qa,kept_c h cx0,kept_c h cx1,kept_c h cx2,kept_c h cx3,kept_c h qb,kept_c h cy0,kept_c h cy1,kept_c h cy2,kept_c h cy3⟩
   refine wp_region_noPanic (wp_region_guardB HBX (by as_aux_lemma=>kernel_rfl) ?_)
   have hc0:Below z1.heap.size z1 z1.drew:=bel_d1 _
   generalize z1.drew=y0 at *
   refine wpAnyG.tA 0 (v:=.pointer (some ⟨w.heap.size,5,none⟩)) (by decide) 1 (by as_aux_lemma=>kernel_rfl) (by rfl) ?y0 (HBX _ hc0) ?_
   case y0 =>
    rintro w' ⟨f0,f1,f2,f3,f4,f5,f6,f7,f8,f9⟩
    simp only [lgA,lgZ]
    go_simp
   simp only [lgA,lgZ,Act.put,lsA,lsZ,lsS]
   refine wpAnyG.tA 1 (v:=.slice (some ⟨b,o,none⟩) P.vn P.vc) (by decide) 3 (by as_aux_lemma=>kernel_rfl) (by rfl) ?y1 (HBX _ hc0) ?_
   case y1 =>
    rintro w' ⟨f0,f1,f2,f3,f4,f5,f6,f7,f8,f9⟩
    simp only [lgA,lgZ,lgS]
    go_simp
   simp only [lgA,lgZ,lgS,Act.put,lsA,lsZ,lsS]
   refine wpAnyG.tA 2 (v:=.int .i64 (i:Int)) (by decide) 3 (by as_aux_lemma=>kernel_rfl) (by rfl) ?y2 (HBX _ hc0) ?_
   case y2 =>
    rintro w' ⟨f0,f1,f2,f3,f4,f5,f6,f7,f8,f9⟩
    simp only [lgA,lgZ,lgS]
    go_simp
   simp only [lgA,lgZ,lgS,Act.put,lsA,lsZ,lsS]
   refine wpAnyG.tA 3 (v:=.pointer (some ⟨b,o+i*13,none⟩)) (by decide) 4 (by as_aux_lemma=>kernel_rfl) (by rfl) ?y3 (HBX _ hc0) ?_
   case y3 =>
    rintro w' ⟨f0,f1,f2,f3,f4,f5,f6,f7,f8,f9⟩
    simp only [lgA,lgZ,lgS]
    go_simp
   simp only [lgA,lgZ,lgS,Act.put,lsA,lsZ,lsS]
   refine wpAnyG.tA 4 (v:=.pointer (some ⟨b,o+i*13+4,none⟩)) (by decide) 5 (by as_aux_lemma=>kernel_rfl) (by rfl) ?y4 (HBX _ hc0) ?_
   case y4 =>
    rintro w' ⟨f0,f1,f2,f3,f4,f5,f6,f7,f8,f9⟩
    simp only [lgA,lgZ,lgS]
    go_simp
   simp only [lgA,lgZ,lgS,Act.put,lsA,lsZ,lsS]
   refine wpAnyG.tA 5 (v:=.agg #[.bool h,.bool p,.slice a na ca,.slice d nd cd]) (by decide) 12 (by as_aux_lemma=>kernel_rfl) (by rfl) ?y5 (HBX _ hc0) ?_
   case y5 =>
    rintro w' ⟨f0,f1,f2,f3,f4,f5,f6,f7,f8,f9⟩
    simp only [lgA,lgZ,lgS]
    go_simp
   simp only [lgA,lgZ,lgS,Act.put,lsA,lsZ,lsS]
   refine wpAnyG.tA 6 (v:=.pointer (some ⟨(w.heap.size+1),5,none⟩)) (by decide) 7 (by as_aux_lemma=>kernel_rfl) (by rfl) ?y6 (HBX _ hc0) ?_
   case y6 =>
    rintro w' ⟨f0,f1,f2,f3,f4,f5,f6,f7,f8,f9⟩
    simp only [lgA,lgZ,lgS]
    go_simp
   simp only [lgA,lgZ,lgS,Act.put,lsA,lsZ,lsS]
   refine wpAnyG.tA 7 (v:=.slice (some ⟨b',o',none⟩) P.vn Q.vc) (by decide) 9 (by as_aux_lemma=>kernel_rfl) (by rfl) ?y7 (HBX _ hc0) ?_
   case y7 =>
    rintro w' ⟨f0,f1,f2,f3,f4,f5,f6,f7,f8,f9⟩
    simp only [lgA,lgZ,lgS]
    go_simp
   simp only [lgA,lgZ,lgS,Act.put,lsA,lsZ,lsS]
   refine wpAnyG.tA 8 (v:=.int .i64 (i:Int)) (by decide) 9 (by as_aux_lemma=>kernel_rfl) (by rfl) ?y8 (HBX _ hc0) ?_
   case y8 =>
    rintro w' ⟨f0,f1,f2,f3,f4,f5,f6,f7,f8,f9⟩
    simp only [lgA,lgZ,lgS]
    go_simp
   simp only [lgA,lgZ,lgS,Act.put,lsA,lsZ,lsS]
   refine wpAnyG.tA 9 (v:=.pointer (some ⟨b',o'+i*13,none⟩)) (by decide) 10 (by as_aux_lemma=>kernel_rfl) (by rfl) ?y9 (HBX _ hc0) ?_
   case y9 =>
    rintro w' ⟨f0,f1,f2,f3,f4,f5,f6,f7,f8,f9⟩
    simp only [lgA,lgZ,lgS]
    go_simp
   simp only [lgA,lgZ,lgS,Act.put,lsA,lsZ,lsS]
   refine wpAnyG.tA 10 (v:=.pointer (some ⟨b',o'+i*13+4,none⟩)) (by decide) 11 (by as_aux_lemma=>kernel_rfl) (by rfl) ?y10 (HBX _ hc0) ?_
   case y10 =>
    rintro w' ⟨f0,f1,f2,f3,f4,f5,f6,f7,f8,f9⟩
    simp only [lgA,lgZ,lgS]
    go_simp
   simp only [lgA,lgZ,lgS,Act.put,lsA,lsZ,lsS]
   refine wpAnyG.tA 11 (v:=.agg #[.bool h,.bool p',.slice a' na' ca',.slice d' nd' cd']) (by decide) 12 (by as_aux_lemma=>kernel_rfl) (by rfl) ?y11 (HBX _ hc0) ?_
   case y11 =>
    rintro w' ⟨f0,f1,f2,f3,f4,f5,f6,f7,f8,f9⟩
    simp only [lgA,lgZ,lgS]
    go_simp
   simp only [lgA,lgZ,lgS,Act.put,lsA,lsZ,lsS]
   refine wpAnyG.one 12 (by as_aux_lemma=>kernel_rfl) (by decide) (by rfl) (fun K hK=>?_)
   simp only [lgA,lgZ,lgS]
   go_simp
   refine (HS y0 hc0).mono ?_
   rintro e y1 ⟨rfl,hk1⟩
   have hc1:Below z1.heap.size z1 y1:=bel_tr hc0 hk1
   dsimp only
   refine hK _ _ (HBX _ hc1) ?_
   clear hK K
   refine wpAnyG.one 13 (by as_aux_lemma=>kernel_rfl) (by decide) (by rfl) (fun K hK=>?_)
   simp only [lgA,lgZ,lgS]
   go_simp
   refine hK _ _ (HBX _ hc1) ?_
   clear hK K
   refine wpAnyG.done (by as_aux_lemma=>kernel_rfl) (NoPanic.normal ?_)
   replace hbW:=bel_tr hbW hc1
   replace hbr:=bel_tr hbr hc1
   replace qa:=kept_c hc1 qa
   replace qb:=kept_c hc1 qb
   replace V:=V.below hc1
   clear HBX HS hk1 hc0 hc1 cx0 cx1 cx2 cx3 cy0 cy1 cy2 cy3
   go_wp2_with fail
   obtain ⟨h,p,a,na,ca,d,nd,cd,p',a',na',ca',d',nd',cd',⟨cx0,cx1,cx2,cx3⟩,⟨cy0,cy1,cy2,cy3⟩,HS⟩:=V.hi
   have HBX:∀ w',Below y1.heap.size y1 w'→(w'.cell? ⟨w.heap.size,5,none⟩=some (.slice (some ⟨b,o,none⟩) P.vn P.vc)∧w'.cell? ⟨b,o+i*13+8,none⟩=some (.bool h)∧w'.cell? ⟨b,o+i*13+8+1,none⟩=some (.bool p)∧w'.cell? ⟨b,o+i*13+8+2,none⟩=some (.slice a na ca)∧w'.cell? ⟨b,o+i*13+8+3,none⟩=some (.slice d nd cd)∧w'.cell? ⟨(w.heap.size+1),5,none⟩=some (.slice (some ⟨b',o',none⟩) P.vn Q.vc)∧w'.cell? ⟨b',o'+i*13+8,none⟩=some (.bool h)∧w'.cell? ⟨b',o'+i*13+8+1,none⟩=some (.bool p')∧w'.cell? ⟨b',o'+i*13+8+2,none⟩=some (.slice a' na' ca')∧w'.cell? ⟨b',o'+i*13+8+3,none⟩=some (.slice d' nd' cd')):=fun w' h=>⟨kept_c h qa,kept_c h cx0,kept_c h cx1,kept_c h cx2,kept_c h cx3,kept_c h qb,kept_c h cy0,kept_c h cy1,kept_c h cy2,kept_c h cy3⟩
   refine wp_region_noPanic (wp_region_guardB HBX (by as_aux_lemma=>kernel_rfl) ?_)
   have hc0:Below y1.heap.size y1 y1.drew:=bel_d1 _
   generalize y1.drew=u0 at *
   refine wpAnyG.tA 0 (v:=.pointer (some ⟨w.heap.size,5,none⟩)) (by decide) 1 (by as_aux_lemma=>kernel_rfl) (by rfl) ?y0 (HBX _ hc0) ?_
   case y0 =>
    rintro w' ⟨f0,f1,f2,f3,f4,f5,f6,f7,f8,f9⟩
    simp only [lgA,lgZ]
    go_simp
   simp only [lgA,lgZ,Act.put,lsA,lsZ,lsS]
   refine wpAnyG.tA 1 (v:=.slice (some ⟨b,o,none⟩) P.vn P.vc) (by decide) 3 (by as_aux_lemma=>kernel_rfl) (by rfl) ?y1 (HBX _ hc0) ?_
   case y1 =>
    rintro w' ⟨f0,f1,f2,f3,f4,f5,f6,f7,f8,f9⟩
    simp only [lgA,lgZ,lgS]
    go_simp
   simp only [lgA,lgZ,lgS,Act.put,lsA,lsZ,lsS]
   refine wpAnyG.tA 2 (v:=.int .i64 (i:Int)) (by decide) 3 (by as_aux_lemma=>kernel_rfl) (by rfl) ?y2 (HBX _ hc0) ?_
   case y2 =>
    rintro w' ⟨f0,f1,f2,f3,f4,f5,f6,f7,f8,f9⟩
    simp only [lgA,lgZ,lgS]
    go_simp
   simp only [lgA,lgZ,lgS,Act.put,lsA,lsZ,lsS]
   refine wpAnyG.tA 3 (v:=.pointer (some ⟨b,o+i*13,none⟩)) (by decide) 4 (by as_aux_lemma=>kernel_rfl) (by rfl) ?y3 (HBX _ hc0) ?_
   case y3 =>
    rintro w' ⟨f0,f1,f2,f3,f4,f5,f6,f7,f8,f9⟩
    simp only [lgA,lgZ,lgS]
    go_simp
   simp only [lgA,lgZ,lgS,Act.put,lsA,lsZ,lsS]
   refine wpAnyG.tA 4 (v:=.pointer (some ⟨b,o+i*13+8,none⟩)) (by decide) 5 (by as_aux_lemma=>kernel_rfl) (by rfl) ?y4 (HBX _ hc0) ?_
   case y4 =>
    rintro w' ⟨f0,f1,f2,f3,f4,f5,f6,f7,f8,f9⟩
    simp only [lgA,lgZ,lgS]
    go_simp
   simp only [lgA,lgZ,lgS,Act.put,lsA,lsZ,lsS]
   refine wpAnyG.tA 5 (v:=.agg #[.bool h,.bool p,.slice a na ca,.slice d nd cd]) (by decide) 12 (by as_aux_lemma=>kernel_rfl) (by rfl) ?y5 (HBX _ hc0) ?_
   case y5 =>
    rintro w' ⟨f0,f1,f2,f3,f4,f5,f6,f7,f8,f9⟩
    simp only [lgA,lgZ,lgS]
    go_simp
   simp only [lgA,lgZ,lgS,Act.put,lsA,lsZ,lsS]
   refine wpAnyG.tA 6 (v:=.pointer (some ⟨(w.heap.size+1),5,none⟩)) (by decide) 7 (by as_aux_lemma=>kernel_rfl) (by rfl) ?y6 (HBX _ hc0) ?_
   case y6 =>
    rintro w' ⟨f0,f1,f2,f3,f4,f5,f6,f7,f8,f9⟩
    simp only [lgA,lgZ,lgS]
    go_simp
   simp only [lgA,lgZ,lgS,Act.put,lsA,lsZ,lsS]
   refine wpAnyG.tA 7 (v:=.slice (some ⟨b',o',none⟩) P.vn Q.vc) (by decide) 9 (by as_aux_lemma=>kernel_rfl) (by rfl) ?y7 (HBX _ hc0) ?_
   case y7 =>
    rintro w' ⟨f0,f1,f2,f3,f4,f5,f6,f7,f8,f9⟩
    simp only [lgA,lgZ,lgS]
    go_simp
   simp only [lgA,lgZ,lgS,Act.put,lsA,lsZ,lsS]
   refine wpAnyG.tA 8 (v:=.int .i64 (i:Int)) (by decide) 9 (by as_aux_lemma=>kernel_rfl) (by rfl) ?y8 (HBX _ hc0) ?_
   case y8 =>
    rintro w' ⟨f0,f1,f2,f3,f4,f5,f6,f7,f8,f9⟩
    simp only [lgA,lgZ,lgS]
    go_simp
   simp only [lgA,lgZ,lgS,Act.put,lsA,lsZ,lsS]
   refine wpAnyG.tA 9 (v:=.pointer (some ⟨b',o'+i*13,none⟩)) (by decide) 10 (by as_aux_lemma=>kernel_rfl) (by rfl) ?y9 (HBX _ hc0) ?_
   case y9 =>
    rintro w' ⟨f0,f1,f2,f3,f4,f5,f6,f7,f8,f9⟩
    simp only [lgA,lgZ,lgS]
    go_simp
   simp only [lgA,lgZ,lgS,Act.put,lsA,lsZ,lsS]
   refine wpAnyG.tA 10 (v:=.pointer (some ⟨b',o'+i*13+8,none⟩)) (by decide) 11 (by as_aux_lemma=>kernel_rfl) (by rfl) ?y10 (HBX _ hc0) ?_
   case y10 =>
    rintro w' ⟨f0,f1,f2,f3,f4,f5,f6,f7,f8,f9⟩
    simp only [lgA,lgZ,lgS]
    go_simp
   simp only [lgA,lgZ,lgS,Act.put,lsA,lsZ,lsS]
   refine wpAnyG.tA 11 (v:=.agg #[.bool h,.bool p',.slice a' na' ca',.slice d' nd' cd']) (by decide) 12 (by as_aux_lemma=>kernel_rfl) (by rfl) ?y11 (HBX _ hc0) ?_
   case y11 =>
    rintro w' ⟨f0,f1,f2,f3,f4,f5,f6,f7,f8,f9⟩
    simp only [lgA,lgZ,lgS]
    go_simp
   simp only [lgA,lgZ,lgS,Act.put,lsA,lsZ,lsS]
   refine wpAnyG.one 12 (by as_aux_lemma=>kernel_rfl) (by decide) (by rfl) (fun K hK=>?_)
   simp only [lgA,lgZ,lgS]
   go_simp
   refine (HS u0 hc0).mono ?_
   rintro e u1 ⟨rfl,hk1⟩
   have hc1:Below y1.heap.size y1 u1:=bel_tr hc0 hk1
   dsimp only
   refine hK _ _ (HBX _ hc1) ?_
   clear hK K
   refine wpAnyG.one 13 (by as_aux_lemma=>kernel_rfl) (by decide) (by rfl) (fun K hK=>?_)
   simp only [lgA,lgZ,lgS]
   go_simp
   refine hK _ _ (HBX _ hc1) ?_
   clear hK K
   refine wpAnyG.done (by as_aux_lemma=>kernel_rfl) (NoPanic.normal ?_)
   replace hbW:=bel_tr hbW hc1
   replace hbr:=bel_tr hbr hc1
   replace qa:=kept_c hc1 qa
   replace qb:=kept_c hc1 qb
   replace V:=V.below hc1
   clear HBX HS hk1 hc0 hc1 cx0 cx1 cx2 cx3 cy0 cy1 cy2 cy3
   go_wp2_with fail
   obtain ⟨s,cx0,cy0⟩:=V.nm
   obtain ⟨t,cx1,cy1⟩:=V.wh
   have HBX:∀ w',Below u1.heap.size u1 w'→(w'.cell? ⟨w.heap.size,5,none⟩=some (.slice (some ⟨b,o,none⟩) P.vn P.vc)∧w'.cell? ⟨(w.heap.size+1),5,none⟩=some (.slice (some ⟨b',o',none⟩) P.vn Q.vc)∧w'.cell? ⟨b,o+i*13,none⟩=some (.string s)∧w'.cell? ⟨b',o'+i*13,none⟩=some (.string s)∧w'.cell? ⟨b,o+i*13+12,none⟩=some (.bool t)∧w'.cell? ⟨b',o'+i*13+12,none⟩=some (.bool t)):=fun w' h=>⟨kept_c h qa,kept_c h qb,kept_c h cx0,kept_c h cy0,kept_c h cx1,kept_c h cy1⟩
   refine wp_region_noPanic (wp_region_guardB HBX (by as_aux_lemma=>kernel_rfl) ?_)
   have hc0:Below u1.heap.size u1 u1.drew:=bel_d1 _
   generalize u1.drew=v0 at *
   refine wpAnyG.tA 0 (v:=.bool true) (by decide) 1 (by as_aux_lemma=>kernel_rfl) (by rfl) ?y0 (HBX _ hc0) ?_
   case y0 =>
    rintro w' ⟨f0,f1,f2,f3,f4,f5⟩
    simp only [lgA,lgZ]
    go_simp
   simp only [lgA,lgZ,Act.put,lsA,lsZ,lsS]
   refine wpAnyG.tA 1 (v:=.bool false) (by decide) 2 (by as_aux_lemma=>kernel_rfl) (by rfl) ?y1 (HBX _ hc0) ?_
   case y1 =>
    rintro w' ⟨f0,f1,f2,f3,f4,f5⟩
    simp only [lgA,lgZ,lgS]
    go_simp
   simp only [lgA,lgZ,lgS,Act.put,lsA,lsZ,lsS]
   refine wpAnyG.tA 2 (v:=.bool false) (by decide) 6 (by as_aux_lemma=>kernel_rfl) (by rfl) ?y2 (HBX _ hc0) ?_
   case y2 =>
    rintro w' ⟨f0,f1,f2,f3,f4,f5⟩
    simp only [lgA,lgZ,lgS]
    go_simp
   simp only [lgA,lgZ,lgS,Act.put,lsA,lsZ,lsS]
   refine wpAnyG.tA 3 (v:=.bool true) (by decide) 4 (by as_aux_lemma=>kernel_rfl) (by rfl) ?y3 (HBX _ hc0) ?_
   case y3 =>
    rintro w' ⟨f0,f1,f2,f3,f4,f5⟩
    simp only [lgA,lgZ,lgS]
    go_simp
   simp only [lgA,lgZ,lgS,Act.put,lsA,lsZ,lsS]
   refine wpAnyG.tA 4 (v:=.bool false) (by decide) 5 (by as_aux_lemma=>kernel_rfl) (by rfl) ?y4 (HBX _ hc0) ?_
   case y4 =>
    rintro w' ⟨f0,f1,f2,f3,f4,f5⟩
    simp only [lgA,lgZ,lgS]
    go_simp
   simp only [lgA,lgZ,lgS,Act.put,lsA,lsZ,lsS]
   refine wpAnyG.tA 5 (v:=.bool false) (by decide) 6 (by as_aux_lemma=>kernel_rfl) (by rfl) ?y5 (HBX _ hc0) ?_
   case y5 =>
    rintro w' ⟨f0,f1,f2,f3,f4,f5⟩
    simp only [lgA,lgZ,lgS]
    go_simp
   simp only [lgA,lgZ,lgS,Act.put,lsA,lsZ,lsS]
   refine wpAnyG.tA 6 (v:=.bool false) (by decide) 10 (by as_aux_lemma=>kernel_rfl) (by rfl) ?y6 (HBX _ hc0) ?_
   case y6 =>
    rintro w' ⟨f0,f1,f2,f3,f4,f5⟩
    simp only [lgA,lgZ,lgS]
    go_simp
   simp only [lgA,lgZ,lgS,Act.put,lsA,lsZ,lsS]
   refine wpAnyG.tA 7 (v:=.bool true) (by decide) 8 (by as_aux_lemma=>kernel_rfl) (by rfl) ?y7 (HBX _ hc0) ?_
   case y7 =>
    rintro w' ⟨f0,f1,f2,f3,f4,f5⟩
    simp only [lgA,lgZ,lgS]
    go_simp
   simp only [lgA,lgZ,lgS,Act.put,lsA,lsZ,lsS]
   refine wpAnyG.tA 8 (v:=.bool false) (by decide) 9 (by as_aux_lemma=>kernel_rfl) (by rfl) ?y8 (HBX _ hc0) ?_
   case y8 =>
    rintro w' ⟨f0,f1,f2,f3,f4,f5⟩
    simp only [lgA,lgZ,lgS]
    go_simp
   simp only [lgA,lgZ,lgS,Act.put,lsA,lsZ,lsS]
   refine wpAnyG.tA 9 (v:=.bool false) (by decide) 10 (by as_aux_lemma=>kernel_rfl) (by rfl) ?y9 (HBX _ hc0) ?_
   case y9 =>
    rintro w' ⟨f0,f1,f2,f3,f4,f5⟩
    simp only [lgA,lgZ,lgS]
    go_simp
   simp only [lgA,lgZ,lgS,Act.put,lsA,lsZ,lsS]
   refine wpAnyG.tA 10 (v:=.bool false) (by decide) 25 (by as_aux_lemma=>kernel_rfl) (by rfl) ?y10 (HBX _ hc0) ?_
   case y10 =>
    rintro w' ⟨f0,f1,f2,f3,f4,f5⟩
    simp only [lgA,lgZ,lgS]
    go_simp
   simp only [lgA,lgZ,lgS,Act.put,lsA,lsZ,lsS]
   refine wpAnyG.tA 11 (v:=.pointer (some ⟨w.heap.size,5,none⟩)) (by decide) 12 (by as_aux_lemma=>kernel_rfl) (by rfl) ?y11 (HBX _ hc0) ?_
   case y11 =>
    rintro w' ⟨f0,f1,f2,f3,f4,f5⟩
    simp only [lgA,lgZ,lgS]
    go_simp
   simp only [lgA,lgZ,lgS,Act.put,lsA,lsZ,lsS]
   refine wpAnyG.tA 12 (v:=.slice (some ⟨b,o,none⟩) P.vn P.vc) (by decide) 14 (by as_aux_lemma=>kernel_rfl) (by rfl) ?y12 (HBX _ hc0) ?_
   case y12 =>
    rintro w' ⟨f0,f1,f2,f3,f4,f5⟩
    simp only [lgA,lgZ,lgS]
    go_simp
   simp only [lgA,lgZ,lgS,Act.put,lsA,lsZ,lsS]
   refine wpAnyG.tA 13 (v:=.int .i64 (i:Int)) (by decide) 14 (by as_aux_lemma=>kernel_rfl) (by rfl) ?y13 (HBX _ hc0) ?_
   case y13 =>
    rintro w' ⟨f0,f1,f2,f3,f4,f5⟩
    simp only [lgA,lgZ,lgS]
    go_simp
   simp only [lgA,lgZ,lgS,Act.put,lsA,lsZ,lsS]
   refine wpAnyG.tA 14 (v:=.pointer (some ⟨b,o+i*13,none⟩)) (by decide) 15 (by as_aux_lemma=>kernel_rfl) (by rfl) ?y14 (HBX _ hc0) ?_
   case y14 =>
    rintro w' ⟨f0,f1,f2,f3,f4,f5⟩
    simp only [lgA,lgZ,lgS]
    go_simp
   simp only [lgA,lgZ,lgS,Act.put,lsA,lsZ,lsS]
   refine wpAnyG.tA 15 (v:=.pointer (some ⟨b,o+i*13,none⟩)) (by decide) 16 (by as_aux_lemma=>kernel_rfl) (by rfl) ?y15 (HBX _ hc0) ?_
   case y15 =>
    rintro w' ⟨f0,f1,f2,f3,f4,f5⟩
    simp only [lgA,lgZ,lgS]
    go_simp
   simp only [lgA,lgZ,lgS,Act.put,lsA,lsZ,lsS]
   refine wpAnyG.tA 16 (v:=.string s) (by decide) 23 (by as_aux_lemma=>kernel_rfl) (by rfl) ?y16 (HBX _ hc0) ?_
   case y16 =>
    rintro w' ⟨f0,f1,f2,f3,f4,f5⟩
    simp only [lgA,lgZ,lgS]
    go_simp
   simp only [lgA,lgZ,lgS,Act.put,lsA,lsZ,lsS]
   refine wpAnyG.tA 17 (v:=.pointer (some ⟨(w.heap.size+1),5,none⟩)) (by decide) 18 (by as_aux_lemma=>kernel_rfl) (by rfl) ?y17 (HBX _ hc0) ?_
   case y17 =>
    rintro w' ⟨f0,f1,f2,f3,f4,f5⟩
    simp only [lgA,lgZ,lgS]
    go_simp
   simp only [lgA,lgZ,lgS,Act.put,lsA,lsZ,lsS]
   refine wpAnyG.tA 18 (v:=.slice (some ⟨b',o',none⟩) P.vn Q.vc) (by decide) 20 (by as_aux_lemma=>kernel_rfl) (by rfl) ?y18 (HBX _ hc0) ?_
   case y18 =>
    rintro w' ⟨f0,f1,f2,f3,f4,f5⟩
    simp only [lgA,lgZ,lgS]
    go_simp
   simp only [lgA,lgZ,lgS,Act.put,lsA,lsZ,lsS]
   refine wpAnyG.tA 19 (v:=.int .i64 (i:Int)) (by decide) 20 (by as_aux_lemma=>kernel_rfl) (by rfl) ?y19 (HBX _ hc0) ?_
   case y19 =>
    rintro w' ⟨f0,f1,f2,f3,f4,f5⟩
    simp only [lgA,lgZ,lgS]
    go_simp
   simp only [lgA,lgZ,lgS,Act.put,lsA,lsZ,lsS]
   refine wpAnyG.tA 20 (v:=.pointer (some ⟨b',o'+i*13,none⟩)) (by decide) 21 (by as_aux_lemma=>kernel_rfl) (by rfl) ?y20 (HBX _ hc0) ?_
   case y20 =>
    rintro w' ⟨f0,f1,f2,f3,f4,f5⟩
    simp only [lgA,lgZ,lgS]
    go_simp
   simp only [lgA,lgZ,lgS,Act.put,lsA,lsZ,lsS]
   refine wpAnyG.tA 21 (v:=.pointer (some ⟨b',o'+i*13,none⟩)) (by decide) 22 (by as_aux_lemma=>kernel_rfl) (by rfl) ?y21 (HBX _ hc0) ?_
   case y21 =>
    rintro w' ⟨f0,f1,f2,f3,f4,f5⟩
    simp only [lgA,lgZ,lgS]
    go_simp
   simp only [lgA,lgZ,lgS,Act.put,lsA,lsZ,lsS]
   refine wpAnyG.tA 22 (v:=.string s) (by decide) 23 (by as_aux_lemma=>kernel_rfl) (by rfl) ?y22 (HBX _ hc0) ?_
   case y22 =>
    rintro w' ⟨f0,f1,f2,f3,f4,f5⟩
    simp only [lgA,lgZ,lgS]
    go_simp
   simp only [lgA,lgZ,lgS,Act.put,lsA,lsZ,lsS]
   refine wpAnyG.tA 23 (v:=.bool false) (by decide) 24 (by as_aux_lemma=>kernel_rfl) (by rfl) ?y23 (HBX _ hc0) ?_
   case y23 =>
    rintro w' ⟨f0,f1,f2,f3,f4,f5⟩
    simp only [lgA,lgZ,lgS]
    go_simp
   simp only [lgA,lgZ,lgS,Act.put,lsA,lsZ,lsS]
   refine wpAnyG.tA 24 (v:=.bool false) (by decide) 25 (by as_aux_lemma=>kernel_rfl) (by rfl) ?y24 (HBX _ hc0) ?_
   case y24 =>
    rintro w' ⟨f0,f1,f2,f3,f4,f5⟩
    simp only [lgA,lgZ,lgS]
    go_simp
   simp only [lgA,lgZ,lgS,Act.put,lsA,lsZ,lsS]
   refine wpAnyG.tA 25 (v:=.bool false) (by decide) 39 (by as_aux_lemma=>kernel_rfl) (by rfl) ?y25 (HBX _ hc0) ?_
   case y25 =>
    rintro w' ⟨f0,f1,f2,f3,f4,f5⟩
    simp only [lgA,lgZ,lgS]
    go_simp
   simp only [lgA,lgZ,lgS,Act.put,lsA,lsZ,lsS]
   refine wpAnyG.tA 26 (v:=.pointer (some ⟨w.heap.size,5,none⟩)) (by decide) 27 (by as_aux_lemma=>kernel_rfl) (by rfl) ?y26 (HBX _ hc0) ?_
   case y26 =>
    rintro w' ⟨f0,f1,f2,f3,f4,f5⟩
    simp only [lgA,lgZ,lgS]
    go_simp
   simp only [lgA,lgZ,lgS,Act.put,lsA,lsZ,lsS]
   refine wpAnyG.tA 27 (v:=.slice (some ⟨b,o,none⟩) P.vn P.vc) (by decide) 29 (by as_aux_lemma=>kernel_rfl) (by rfl) ?y27 (HBX _ hc0) ?_
   case y27 =>
    rintro w' ⟨f0,f1,f2,f3,f4,f5⟩
    simp only [lgA,lgZ,lgS]
    go_simp
   simp only [lgA,lgZ,lgS,Act.put,lsA,lsZ,lsS]
   refine wpAnyG.tA 28 (v:=.int .i64 (i:Int)) (by decide) 29 (by as_aux_lemma=>kernel_rfl) (by rfl) ?y28 (HBX _ hc0) ?_
   case y28 =>
    rintro w' ⟨f0,f1,f2,f3,f4,f5⟩
    simp only [lgA,lgZ,lgS]
    go_simp
   simp only [lgA,lgZ,lgS,Act.put,lsA,lsZ,lsS]
   refine wpAnyG.tA 29 (v:=.pointer (some ⟨b,o+i*13,none⟩)) (by decide) 30 (by as_aux_lemma=>kernel_rfl) (by rfl) ?y29 (HBX _ hc0) ?_
   case y29 =>
    rintro w' ⟨f0,f1,f2,f3,f4,f5⟩
    simp only [lgA,lgZ,lgS]
    go_simp
   simp only [lgA,lgZ,lgS,Act.put,lsA,lsZ,lsS]
   refine wpAnyG.tA 30 (v:=.pointer (some ⟨b,o+i*13+12,none⟩)) (by decide) 31 (by as_aux_lemma=>kernel_rfl) (by rfl) ?y30 (HBX _ hc0) ?_
   case y30 =>
    rintro w' ⟨f0,f1,f2,f3,f4,f5⟩
    simp only [lgA,lgZ,lgS]
    go_simp
   simp only [lgA,lgZ,lgS,Act.put,lsA,lsZ,lsS]
   refine wpAnyG.tA 31 (v:=.bool t) (by decide) 38 (by as_aux_lemma=>kernel_rfl) (by rfl) ?y31 (HBX _ hc0) ?_
   case y31 =>
    rintro w' ⟨f0,f1,f2,f3,f4,f5⟩
    simp only [lgA,lgZ,lgS]
    go_simp
   simp only [lgA,lgZ,lgS,Act.put,lsA,lsZ,lsS]
   refine wpAnyG.tA 32 (v:=.pointer (some ⟨(w.heap.size+1),5,none⟩)) (by decide) 33 (by as_aux_lemma=>kernel_rfl) (by rfl) ?y32 (HBX _ hc0) ?_
   case y32 =>
    rintro w' ⟨f0,f1,f2,f3,f4,f5⟩
    simp only [lgA,lgZ,lgS]
    go_simp
   simp only [lgA,lgZ,lgS,Act.put,lsA,lsZ,lsS]
   refine wpAnyG.tA 33 (v:=.slice (some ⟨b',o',none⟩) P.vn Q.vc) (by decide) 35 (by as_aux_lemma=>kernel_rfl) (by rfl) ?y33 (HBX _ hc0) ?_
   case y33 =>
    rintro w' ⟨f0,f1,f2,f3,f4,f5⟩
    simp only [lgA,lgZ,lgS]
    go_simp
   simp only [lgA,lgZ,lgS,Act.put,lsA,lsZ,lsS]
   refine wpAnyG.tA 34 (v:=.int .i64 (i:Int)) (by decide) 35 (by as_aux_lemma=>kernel_rfl) (by rfl) ?y34 (HBX _ hc0) ?_
   case y34 =>
    rintro w' ⟨f0,f1,f2,f3,f4,f5⟩
    simp only [lgA,lgZ,lgS]
    go_simp
   simp only [lgA,lgZ,lgS,Act.put,lsA,lsZ,lsS]
   refine wpAnyG.tA 35 (v:=.pointer (some ⟨b',o'+i*13,none⟩)) (by decide) 36 (by as_aux_lemma=>kernel_rfl) (by rfl) ?y35 (HBX _ hc0) ?_
   case y35 =>
    rintro w' ⟨f0,f1,f2,f3,f4,f5⟩
    simp only [lgA,lgZ,lgS]
    go_simp
   simp only [lgA,lgZ,lgS,Act.put,lsA,lsZ,lsS]
   refine wpAnyG.tA 36 (v:=.pointer (some ⟨b',o'+i*13+12,none⟩)) (by decide) 37 (by as_aux_lemma=>kernel_rfl) (by rfl) ?y36 (HBX _ hc0) ?_
   case y36 =>
    rintro w' ⟨f0,f1,f2,f3,f4,f5⟩
    simp only [lgA,lgZ,lgS]
    go_simp
   simp only [lgA,lgZ,lgS,Act.put,lsA,lsZ,lsS]
   refine wpAnyG.tA 37 (v:=.bool t) (by decide) 38 (by as_aux_lemma=>kernel_rfl) (by rfl) ?y37 (HBX _ hc0) ?_
   case y37 =>
    rintro w' ⟨f0,f1,f2,f3,f4,f5⟩
    simp only [lgA,lgZ,lgS]
    go_simp
   simp only [lgA,lgZ,lgS,Act.put,lsA,lsZ,lsS]
   refine wpAnyG.tA 38 (v:=.bool false) (by decide) 39 (by as_aux_lemma=>kernel_rfl) (by rfl) ?y38 (HBX _ hc0) ?_
   case y38 =>
    rintro w' ⟨f0,f1,f2,f3,f4,f5⟩
    simp only [lgA,lgZ,lgS]
    go_simp
   simp only [lgA,lgZ,lgS,Act.put,lsA,lsZ,lsS]
   refine wpAnyG.one 39 (by as_aux_lemma=>kernel_rfl) (by decide) (by rfl) (fun K hK=>?_)
   simp only [lgA,lgZ,lgS]
   go_simp
   refine hK _ _ (HBX _ hc0) ?_
   clear hK K
   refine wpAnyG.done (by as_aux_lemma=>kernel_rfl) (NoPanic.normal ?_)
   replace hbr:=bel_tr hbr hc0
   clear HBX cx0 cy0 cx1 cy1 qa qb V
   go_wp2
   go_roundw
   case rel=>first|exact ⟨i+1,by omega,by go_num,hbr⟩|((repeat apply Exists.intro);refine ⟨?_,rfl⟩;exact ⟨i+1,by omega,by go_num,hbr⟩)
   case measure=>simp [intOf];omega
  ·have hkI:¬ (i:Int)<(P.vn:Int):=by omega
   clear HV
   replace PA:=PA.below hbr
   replace PB:=PB.below hbr
   clear hb qa qb hbr
   have a6:=PA 6 _ rfl
   have b6:=PB 6 _ rfl
   have a5:=PA 5 _ rfl
   go_wp2
   clear a5 a6 b6
   generalize wr=wA at *
   go_loopw [10] (fun s10 wr=>∃ (i:Nat),i≤P.rn∧s10 = .int .i64 i∧Below wA.heap.size wA wr) (fun s10 _=>P.rn-(intOf s10).toNat)
   case atStart=>exact ⟨0,Nat.zero_le _,rfl,Below.refl _ _⟩
   case round =>
    obtain ⟨j,hj,rfl,hbr⟩:=hrel
    replace hbW:=bel_tr hbW hbr
    have qa:=(PA.below hbr) 6 _ rfl
    have qb:=(PB.below hbr) 6 _ rfl
    by_cases hlt2:j<P.rn
    ·have hkI3:(j:Int)<(P.rn:Int):=by omega
     rcases HR with h0|⟨b,o,b',o',e1,e2,hv⟩
     ·omega
     have V:=(hv j hlt2).below hbW
     have hkI2:(j:Int)*10=((j*10:Nat):Int):=by omega
     rw [e1] at qa
     rw [e2] at qb
     clear e1 e2 hv
     go_wp2_with fail
     obtain ⟨h,p,a,na,ca,d,nd,cd,p',a',na',ca',d',nd',cd',⟨cx0,cx1,cx2,cx3⟩,⟨cy0,cy1,cy2,cy3⟩,HS⟩:=V.lo
     have HBX:∀ w',Below wr.heap.size wr w'→(w'.cell? ⟨w.heap.size,6,none⟩=some (.slice (some ⟨b,o,none⟩) P.rn P.rc)∧w'.cell? ⟨b,o+j*10+2,none⟩=some (.bool h)∧w'.cell? ⟨b,o+j*10+2+1,none⟩=some (.bool p)∧w'.cell? ⟨b,o+j*10+2+2,none⟩=some (.slice a na ca)∧w'.cell? ⟨b,o+j*10+2+3,none⟩=some (.slice d nd cd)∧w'.cell? ⟨(w.heap.size+1),6,none⟩=some (.slice (some ⟨b',o',none⟩) P.rn Q.rc)∧w'.cell? ⟨b',o'+j*10+2,none⟩=some (.bool h)∧w'.cell? ⟨b',o'+j*10+2+1,none⟩=some (.bool p')∧w'.cell? ⟨b',o'+j*10+2+2,none⟩=some (.slice a' na' ca')∧w'.cell? ⟨b',o'+j*10+2+3,none⟩=some (.slice d' nd' cd')):=fun w' h=>⟨kept_c h qa,kept_c h cx0,kept_c h cx1,kept_c h cx2,kept_c h cx3,kept_c h qb,kept_c h cy0,kept_c h cy1,kept_c h cy2,kept_c h cy3⟩
     refine wp_region_noPanic (wp_region_guardB HBX (by as_aux_lemma=>kernel_rfl) ?_)
     have hc0:Below wr.heap.size wr wr.drew:=bel_d1 _
     generalize wr.drew=z0 at *
     refine wpAnyG.tA 0 (v:=.pointer (some ⟨w.heap.size,6,none⟩)) (by decide) 1 (by as_aux_lemma=>kernel_rfl) (by rfl) ?y0 (HBX _ hc0) ?_
     case y0 =>
      rintro w' ⟨f0,f1,f2,f3,f4,f5,f6,f7,f8,f9⟩
      simp only [lgA,lgZ]
      go_simp
     simp only [lgA,lgZ,Act.put,lsA,lsZ,lsS]
     refine wpAnyG.tA 1 (v:=.slice (some ⟨b,o,none⟩) P.rn P.rc) (by decide) 3 (by as_aux_lemma=>kernel_rfl) (by rfl) ?y1 (HBX _ hc0) ?_
     case y1 =>
      rintro w' ⟨f0,f1,f2,f3,f4,f5,f6,f7,f8,f9⟩
      simp only [lgA,lgZ,lgS]
      go_simp
     simp only [lgA,lgZ,lgS,Act.put,lsA,lsZ,lsS]
     refine wpAnyG.tA 2 (v:=.int .i64 (j:Int)) (by decide) 3 (by as_aux_lemma=>kernel_rfl) (by rfl) ?y2 (HBX _ hc0) ?_
     case y2 =>
      rintro w' ⟨f0,f1,f2,f3,f4,f5,f6,f7,f8,f9⟩
      simp only [lgA,lgZ,lgS]
      go_simp
     simp only [lgA,lgZ,lgS,Act.put,lsA,lsZ,lsS]
     refine wpAnyG.tA 3 (v:=.pointer (some ⟨b,o+j*10,none⟩)) (by decide) 4 (by as_aux_lemma=>kernel_rfl) (by rfl) ?y3 (HBX _ hc0) ?_
     case y3 =>
      rintro w' ⟨f0,f1,f2,f3,f4,f5,f6,f7,f8,f9⟩
      simp only [lgA,lgZ,lgS]
      go_simp
     simp only [lgA,lgZ,lgS,Act.put,lsA,lsZ,lsS]
     refine wpAnyG.tA 4 (v:=.pointer (some ⟨b,o+j*10+2,none⟩)) (by decide) 5 (by as_aux_lemma=>kernel_rfl) (by rfl) ?y4 (HBX _ hc0) ?_
     case y4 =>
      rintro w' ⟨f0,f1,f2,f3,f4,f5,f6,f7,f8,f9⟩
      simp only [lgA,lgZ,lgS]
      go_simp
     simp only [lgA,lgZ,lgS,Act.put,lsA,lsZ,lsS]
     refine wpAnyG.tA 5 (v:=.agg #[.bool h,.bool p,.slice a na ca,.slice d nd cd]) (by decide) 12 (by as_aux_lemma=>kernel_rfl) (by rfl) ?y5 (HBX _ hc0) ?_
     case y5 =>
      rintro w' ⟨f0,f1,f2,f3,f4,f5,f6,f7,f8,f9⟩
      simp only [lgA,lgZ,lgS]
      go_simp
     simp only [lgA,lgZ,lgS,Act.put,lsA,lsZ,lsS]
     refine wpAnyG.tA 6 (v:=.pointer (some ⟨(w.heap.size+1),6,none⟩)) (by decide) 7 (by as_aux_lemma=>kernel_rfl) (by rfl) ?y6 (HBX _ hc0) ?_
     case y6 =>
      rintro w' ⟨f0,f1,f2,f3,f4,f5,f6,f7,f8,f9⟩
      simp only [lgA,lgZ,lgS]
      go_simp
     simp only [lgA,lgZ,lgS,Act.put,lsA,lsZ,lsS]
     refine wpAnyG.tA 7 (v:=.slice (some ⟨b',o',none⟩) P.rn Q.rc) (by decide) 9 (by as_aux_lemma=>kernel_rfl) (by rfl) ?y7 (HBX _ hc0) ?_
     case y7 =>
      rintro w' ⟨f0,f1,f2,f3,f4,f5,f6,f7,f8,f9⟩
      simp only [lgA,lgZ,lgS]
      go_simp
     simp only [lgA,lgZ,lgS,Act.put,lsA,lsZ,lsS]
     refine wpAnyG.tA 8 (v:=.int .i64 (j:Int)) (by decide) 9 (by as_aux_lemma=>kernel_rfl) (by rfl) ?y8 (HBX _ hc0) ?_
     case y8 =>
      rintro w' ⟨f0,f1,f2,f3,f4,f5,f6,f7,f8,f9⟩
      simp only [lgA,lgZ,lgS]
      go_simp
     simp only [lgA,lgZ,lgS,Act.put,lsA,lsZ,lsS]
     refine wpAnyG.tA 9 (v:=.pointer (some ⟨b',o'+j*10,none⟩)) (by decide) 10 (by as_aux_lemma=>kernel_rfl) (by rfl) ?y9 (HBX _ hc0) ?_
     case y9 =>
      rintro w' ⟨f0,f1,f2,f3,f4,f5,f6,f7,f8,f9⟩
      simp only [lgA,lgZ,lgS]
      go_simp
     simp only [lgA,lgZ,lgS,Act.put,lsA,lsZ,lsS]
     refine wpAnyG.tA 10 (v:=.pointer (some ⟨b',o'+j*10+2,none⟩)) (by decide) 11 (by as_aux_lemma=>kernel_rfl) (by rfl) ?y10 (HBX _ hc0) ?_
     case y10 =>
      rintro w' ⟨f0,f1,f2,f3,f4,f5,f6,f7,f8,f9⟩
      simp only [lgA,lgZ,lgS]
      go_simp
     simp only [lgA,lgZ,lgS,Act.put,lsA,lsZ,lsS]
     refine wpAnyG.tA 11 (v:=.agg #[.bool h,.bool p',.slice a' na' ca',.slice d' nd' cd']) (by decide) 12 (by as_aux_lemma=>kernel_rfl) (by rfl) ?y11 (HBX _ hc0) ?_
     case y11 =>
      rintro w' ⟨f0,f1,f2,f3,f4,f5,f6,f7,f8,f9⟩
      simp only [lgA,lgZ,lgS]
      go_simp
     simp only [lgA,lgZ,lgS,Act.put,lsA,lsZ,lsS]
     refine wpAnyG.one 12 (by as_aux_lemma=>kernel_rfl) (by decide) (by rfl) (fun K hK=>?_)
     simp only [lgA,lgZ,lgS]
     go_simp
     refine (HS z0 hc0).mono ?_
     rintro e z1 ⟨rfl,hk1⟩
     have hc1:Below wr.heap.size wr z1:=bel_tr hc0 hk1
     dsimp only
     refine hK _ _ (HBX _ hc1) ?_
     clear hK K
     refine wpAnyG.one 13 (by as_aux_lemma=>kernel_rfl) (by decide) (by rfl) (fun K hK=>?_)
     simp only [lgA,lgZ,lgS]
     go_simp
     refine hK _ _ (HBX _ hc1) ?_
     clear hK K
     refine wpAnyG.done (by as_aux_lemma=>kernel_rfl) (NoPanic.normal ?_)
     replace hbW:=bel_tr hbW hc1
     replace hbr:=bel_tr hbr hc1
     replace qa:=kept_c hc1 qa
     replace qb:=kept_c hc1 qb
     replace V:=V.below hc1
     clear HBX HS hk1 hc0 hc1 cx0 cx1 cx2 cx3 cy0 cy1 cy2 cy3
     go_wp2_with fail
     obtain ⟨h,p,a,na,ca,d,nd,cd,p',a',na',ca',d',nd',cd',⟨cx0,cx1,cx2,cx3⟩,⟨cy0,cy1,cy2,cy3⟩,HS⟩:=V.hi
     have HBX:∀ w',Below z1.heap.size z1 w'→(w'.cell? ⟨w.heap.size,6,none⟩=some (.slice (some ⟨b,o,none⟩) P.rn P.rc)∧w'.cell? ⟨b,o+j*10+6,none⟩=some (.bool h)∧w'.cell? ⟨b,o+j*10+6+1,none⟩=some (.bool p)∧w'.cell? ⟨b,o+j*10+6+2,none⟩=some (.slice a na ca)∧w'.cell? ⟨b,o+j*10+6+3,none⟩=some (.slice d nd cd)∧w'.cell? ⟨(w.heap.size+1),6,none⟩=some (.slice (some ⟨b',o',none⟩) P.rn Q.rc)∧w'.cell? ⟨b',o'+j*10+6,none⟩=some (.bool h)∧w'.cell? ⟨b',o'+j*10+6+1,none⟩=some (.bool p')∧w'.cell? ⟨b',o'+j*10+6+2,none⟩=some (.slice a' na' ca')∧w'.cell? ⟨b',o'+j*10+6+3,none⟩=some (.slice d' nd' cd')):=fun w' h=>⟨kept_c h qa,kept_c h cx0,kept_c h cx1,kept_c h cx2,kept_c h cx3,kept_c h qb,kept_c h cy0,kept_c h cy1,kept_c h cy2,kept_c h cy3⟩
     refine wp_region_noPanic (wp_region_guardB HBX (by as_aux_lemma=>kernel_rfl) ?_)
     have hc0:Below z1.heap.size z1 z1.drew:=bel_d1 _
     generalize z1.drew=y0 at *
     refine wpAnyG.tA 0 (v:=.pointer (some ⟨w.heap.size,6,none⟩)) (by decide) 1 (by as_aux_lemma=>kernel_rfl) (by rfl) ?y0 (HBX _ hc0) ?_
     case y0 =>
      rintro w' ⟨f0,f1,f2,f3,f4,f5,f6,f7,f8,f9⟩
      simp only [lgA,lgZ]
      go_simp
     simp only [lgA,lgZ,Act.put,lsA,lsZ,lsS]
     refine wpAnyG.tA 1 (v:=.slice (some ⟨b,o,none⟩) P.rn P.rc) (by decide) 3 (by as_aux_lemma=>kernel_rfl) (by rfl) ?y1 (HBX _ hc0) ?_
     case y1 =>
      rintro w' ⟨f0,f1,f2,f3,f4,f5,f6,f7,f8,f9⟩
      simp only [lgA,lgZ,lgS]
      go_simp
     simp only [lgA,lgZ,lgS,Act.put,lsA,lsZ,lsS]
     refine wpAnyG.tA 2 (v:=.int .i64 (j:Int)) (by decide) 3 (by as_aux_lemma=>kernel_rfl) (by rfl) ?y2 (HBX _ hc0) ?_
     case y2 =>
      rintro w' ⟨f0,f1,f2,f3,f4,f5,f6,f7,f8,f9⟩
      simp only [lgA,lgZ,lgS]
      go_simp
     simp only [lgA,lgZ,lgS,Act.put,lsA,lsZ,lsS]
     refine wpAnyG.tA 3 (v:=.pointer (some ⟨b,o+j*10,none⟩)) (by decide) 4 (by as_aux_lemma=>kernel_rfl) (by rfl) ?y3 (HBX _ hc0) ?_
     case y3 =>
      rintro w' ⟨f0,f1,f2,f3,f4,f5,f6,f7,f8,f9⟩
      simp only [lgA,lgZ,lgS]
      go_simp
     simp only [lgA,lgZ,lgS,Act.put,lsA,lsZ,lsS]
     refine wpAnyG.tA 4 (v:=.pointer (some ⟨b,o+j*10+6,none⟩)) (by decide) 5 (by as_aux_lemma=>kernel_rfl) (by rfl) ?y4 (HBX _ hc0) ?_
     case y4 =>
      rintro w' ⟨f0,f1,f2,f3,f4,f5,f6,f7,f8,f9⟩
      simp only [lgA,lgZ,lgS]
      go_simp
     simp only [lgA,lgZ,lgS,Act.put,lsA,lsZ,lsS]
     refine wpAnyG.tA 5 (v:=.agg #[.bool h,.bool p,.slice a na ca,.slice d nd cd]) (by decide) 12 (by as_aux_lemma=>kernel_rfl) (by rfl) ?y5 (HBX _ hc0) ?_
     case y5 =>
      rintro w' ⟨f0,f1,f2,f3,f4,f5,f6,f7,f8,f9⟩
      simp only [lgA,lgZ,lgS]
      go_simp
     simp only [lgA,lgZ,lgS,Act.put,lsA,lsZ,lsS]
     refine wpAnyG.tA 6 (v:=.pointer (some ⟨(w.heap.size+1),6,none⟩)) (by decide) 7 (by as_aux_lemma=>kernel_rfl) (by rfl) ?y6 (HBX _ hc0) ?_
     case y6 =>
      rintro w' ⟨f0,f1,f2,f3,f4,f5,f6,f7,f8,f9⟩
      simp only [lgA,lgZ,lgS]
      go_simp
     simp only [lgA,lgZ,lgS,Act.put,lsA,lsZ,lsS]
     refine wpAnyG.tA 7 (v:=.slice (some ⟨b',o',none⟩) P.rn Q.rc) (by decide) 9 (by as_aux_lemma=>kernel_rfl) (by rfl) ?y7 (HBX _ hc0) ?_
     case y7 =>
      rintro w' ⟨f0,f1,f2,f3,f4,f5,f6,f7,f8,f9⟩
      simp only [lgA,lgZ,lgS]
      go_simp
     simp only [lgA,lgZ,lgS,Act.put,lsA,lsZ,lsS]
     refine wpAnyG.tA 8 (v:=.int .i64 (j:Int)) (by decide) 9 (by as_aux_lemma=>kernel_rfl) (by rfl) ?y8 (HBX _ hc0) ?_
     case y8 =>
      rintro w' ⟨f0,f1,f2,f3,f4,f5,f6,f7,f8,f9⟩
      simp only [lgA,lgZ,lgS]
      go_simp
     simp only [lgA,lgZ,lgS,Act.put,lsA,lsZ,lsS]
     refine wpAnyG.tA 9 (v:=.pointer (some ⟨b',o'+j*10,none⟩)) (by decide) 10 (by as_aux_lemma=>kernel_rfl) (by rfl) ?y9 (HBX _ hc0) ?_
     case y9 =>
      rintro w' ⟨f0,f1,f2,f3,f4,f5,f6,f7,f8,f9⟩
      simp only [lgA,lgZ,lgS]
      go_simp
     simp only [lgA,lgZ,lgS,Act.put,lsA,lsZ,lsS]
     refine wpAnyG.tA 10 (v:=.pointer (some ⟨b',o'+j*10+6,none⟩)) (by decide) 11 (by as_aux_lemma=>kernel_rfl) (by rfl) ?y10 (HBX _ hc0) ?_
     case y10 =>
      rintro w' ⟨f0,f1,f2,f3,f4,f5,f6,f7,f8,f9⟩
      simp only [lgA,lgZ,lgS]
      go_simp
     simp only [lgA,lgZ,lgS,Act.put,lsA,lsZ,lsS]
     refine wpAnyG.tA 11 (v:=.agg #[.bool h,.bool p',.slice a' na' ca',.slice d' nd' cd']) (by decide) 12 (by as_aux_lemma=>kernel_rfl) (by rfl) ?y11 (HBX _ hc0) ?_
     case y11 =>
      rintro w' ⟨f0,f1,f2,f3,f4,f5,f6,f7,f8,f9⟩
      simp only [lgA,lgZ,lgS]
      go_simp
     simp only [lgA,lgZ,lgS,Act.put,lsA,lsZ,lsS]
     refine wpAnyG.one 12 (by as_aux_lemma=>kernel_rfl) (by decide) (by rfl) (fun K hK=>?_)
     simp only [lgA,lgZ,lgS]
     go_simp
     refine (HS y0 hc0).mono ?_
     rintro e y1 ⟨rfl,hk1⟩
     have hc1:Below z1.heap.size z1 y1:=bel_tr hc0 hk1
     dsimp only
     refine hK _ _ (HBX _ hc1) ?_
     clear hK K
     refine wpAnyG.one 13 (by as_aux_lemma=>kernel_rfl) (by decide) (by rfl) (fun K hK=>?_)
     simp only [lgA,lgZ,lgS]
     go_simp
     refine hK _ _ (HBX _ hc1) ?_
     clear hK K
     refine wpAnyG.done (by as_aux_lemma=>kernel_rfl) (NoPanic.normal ?_)
     replace hbW:=bel_tr hbW hc1
     replace hbr:=bel_tr hbr hc1
     replace qa:=kept_c hc1 qa
     replace qb:=kept_c hc1 qb
     replace V:=V.below hc1
     clear HBX HS hk1 hc0 hc1 cx0 cx1 cx2 cx3 cy0 cy1 cy2 cy3
     go_wp2_with fail
     obtain ⟨s,cx0,cy0⟩:=V.nm
     obtain ⟨ta,c,ta',c2,m,cx1,cy1,HLT,hm⟩:=V.t
     have HBX:∀ w',Below y1.heap.size y1 w'→(w'.cell? ⟨w.heap.size,6,none⟩=some (.slice (some ⟨b,o,none⟩) P.rn P.rc)∧w'.cell? ⟨(w.heap.size+1),6,none⟩=some (.slice (some ⟨b',o',none⟩) P.rn Q.rc)∧w'.cell? ⟨b,o+j*10,none⟩=some (.string s)∧w'.cell? ⟨b',o'+j*10,none⟩=some (.string s)∧w'.cell? ⟨b,o+j*10+1,none⟩=some (.slice ta m c)∧w'.cell? ⟨b',o'+j*10+1,none⟩=some (.slice ta' m c2)):=fun w' h=>⟨kept_c h qa,kept_c h qb,kept_c h cx0,kept_c h cy0,kept_c h cx1,kept_c h cy1⟩
     refine wp_region_noPanic (wp_region_guardB HBX (by as_aux_lemma=>kernel_rfl) ?_)
     have hc0:Below y1.heap.size y1 y1.drew:=bel_d1 _
     generalize y1.drew=v0 at *
     refine wpAnyG.tA 0 (v:=.bool true) (by decide) 1 (by as_aux_lemma=>kernel_rfl) (by rfl) ?y0 (HBX _ hc0) ?_
     case y0 =>
      rintro w' ⟨f0,f1,f2,f3,f4,f5⟩
      simp only [lgA,lgZ]
      go_simp
     simp only [lgA,lgZ,Act.put,lsA,lsZ,lsS]
     refine wpAnyG.tA 1 (v:=.bool false) (by decide) 2 (by as_aux_lemma=>kernel_rfl) (by rfl) ?y1 (HBX _ hc0) ?_
     case y1 =>
      rintro w' ⟨f0,f1,f2,f3,f4,f5⟩
      simp only [lgA,lgZ,lgS]
      go_simp
     simp only [lgA,lgZ,lgS,Act.put,lsA,lsZ,lsS]
     refine wpAnyG.tA 2 (v:=.bool false) (by decide) 6 (by as_aux_lemma=>kernel_rfl) (by rfl) ?y2 (HBX _ hc0) ?_
     case y2 =>
      rintro w' ⟨f0,f1,f2,f3,f4,f5⟩
      simp only [lgA,lgZ,lgS]
      go_simp
     simp only [lgA,lgZ,lgS,Act.put,lsA,lsZ,lsS]
     refine wpAnyG.tA 3 (v:=.bool true) (by decide) 4 (by as_aux_lemma=>kernel_rfl) (by rfl) ?y3 (HBX _ hc0) ?_
     case y3 =>
      rintro w' ⟨f0,f1,f2,f3,f4,f5⟩
      simp only [lgA,lgZ,lgS]
      go_simp
     simp only [lgA,lgZ,lgS,Act.put,lsA,lsZ,lsS]
     refine wpAnyG.tA 4 (v:=.bool false) (by decide) 5 (by as_aux_lemma=>kernel_rfl) (by rfl) ?y4 (HBX _ hc0) ?_
     case y4 =>
      rintro w' ⟨f0,f1,f2,f3,f4,f5⟩
      simp only [lgA,lgZ,lgS]
      go_simp
     simp only [lgA,lgZ,lgS,Act.put,lsA,lsZ,lsS]
     refine wpAnyG.tA 5 (v:=.bool false) (by decide) 6 (by as_aux_lemma=>kernel_rfl) (by rfl) ?y5 (HBX _ hc0) ?_
     case y5 =>
      rintro w' ⟨f0,f1,f2,f3,f4,f5⟩
      simp only [lgA,lgZ,lgS]
      go_simp
     simp only [lgA,lgZ,lgS,Act.put,lsA,lsZ,lsS]
     refine wpAnyG.tA 6 (v:=.bool false) (by decide) 21 (by as_aux_lemma=>kernel_rfl) (by rfl) ?y6 (HBX _ hc0) ?_
     case y6 =>
      rintro w' ⟨f0,f1,f2,f3,f4,f5⟩
      simp only [lgA,lgZ,lgS]
      go_simp
     simp only [lgA,lgZ,lgS,Act.put,lsA,lsZ,lsS]
     refine wpAnyG.tA 7 (v:=.pointer (some ⟨w.heap.size,6,none⟩)) (by decide) 8 (by as_aux_lemma=>kernel_rfl) (by rfl) ?y7 (HBX _ hc0) ?_
     case y7 =>
      rintro w' ⟨f0,f1,f2,f3,f4,f5⟩
      simp only [lgA,lgZ,lgS]
      go_simp
     simp only [lgA,lgZ,lgS,Act.put,lsA,lsZ,lsS]
     refine wpAnyG.tA 8 (v:=.slice (some ⟨b,o,none⟩) P.rn P.rc) (by decide) 10 (by as_aux_lemma=>kernel_rfl) (by rfl) ?y8 (HBX _ hc0) ?_
     case y8 =>
      rintro w' ⟨f0,f1,f2,f3,f4,f5⟩
      simp only [lgA,lgZ,lgS]
      go_simp
     simp only [lgA,lgZ,lgS,Act.put,lsA,lsZ,lsS]
     refine wpAnyG.tA 9 (v:=.int .i64 (j:Int)) (by decide) 10 (by as_aux_lemma=>kernel_rfl) (by rfl) ?y9 (HBX _ hc0) ?_
     case y9 =>
      rintro w' ⟨f0,f1,f2,f3,f4,f5⟩
      simp only [lgA,lgZ,lgS]
      go_simp
     simp only [lgA,lgZ,lgS,Act.put,lsA,lsZ,lsS]
     refine wpAnyG.tA 10 (v:=.pointer (some ⟨b,o+j*10,none⟩)) (by decide) 11 (by as_aux_lemma=>kernel_rfl) (by rfl) ?y10 (HBX _ hc0) ?_
     case y10 =>
      rintro w' ⟨f0,f1,f2,f3,f4,f5⟩
      simp only [lgA,lgZ,lgS]
      go_simp
     simp only [lgA,lgZ,lgS,Act.put,lsA,lsZ,lsS]
     refine wpAnyG.tA 11 (v:=.pointer (some ⟨b,o+j*10,none⟩)) (by decide) 12 (by as_aux_lemma=>kernel_rfl) (by rfl) ?y11 (HBX _ hc0) ?_
     case y11 =>
      rintro w' ⟨f0,f1,f2,f3,f4,f5⟩
      simp only [lgA,lgZ,lgS]
      go_simp
     simp only [lgA,lgZ,lgS,Act.put,lsA,lsZ,lsS]
     refine wpAnyG.tA 12 (v:=.string s) (by decide) 19 (by as_aux_lemma=>kernel_rfl) (by rfl) ?y12 (HBX _ hc0) ?_
     case y12 =>
      rintro w' ⟨f0,f1,f2,f3,f4,f5⟩
      simp only [lgA,lgZ,lgS]
      go_simp
     simp only [lgA,lgZ,lgS,Act.put,lsA,lsZ,lsS]
     refine wpAnyG.tA 13 (v:=.pointer (some ⟨(w.heap.size+1),6,none⟩)) (by decide) 14 (by as_aux_lemma=>kernel_rfl) (by rfl) ?y13 (HBX _ hc0) ?_
     case y13 =>
      rintro w' ⟨f0,f1,f2,f3,f4,f5⟩
      simp only [lgA,lgZ,lgS]
      go_simp
     simp only [lgA,lgZ,lgS,Act.put,lsA,lsZ,lsS]
     refine wpAnyG.tA 14 (v:=.slice (some ⟨b',o',none⟩) P.rn Q.rc) (by decide) 16 (by as_aux_lemma=>kernel_rfl) (by rfl) ?y14 (HBX _ hc0) ?_
     case y14 =>
      rintro w' ⟨f0,f1,f2,f3,f4,f5⟩
      simp only [lgA,lgZ,lgS]
      go_simp
     simp only [lgA,lgZ,lgS,Act.put,lsA,lsZ,lsS]
     refine wpAnyG.tA 15 (v:=.int .i64 (j:Int)) (by decide) 16 (by as_aux_lemma=>kernel_rfl) (by rfl) ?y15 (HBX _ hc0) ?_
     case y15 =>
      rintro w' ⟨f0,f1,f2,f3,f4,f5⟩
      simp only [lgA,lgZ,lgS]
      go_simp
     simp only [lgA,lgZ,lgS,Act.put,lsA,lsZ,lsS]
     refine wpAnyG.tA 16 (v:=.pointer (some ⟨b',o'+j*10,none⟩)) (by decide) 17 (by as_aux_lemma=>kernel_rfl) (by rfl) ?y16 (HBX _ hc0) ?_
     case y16 =>
      rintro w' ⟨f0,f1,f2,f3,f4,f5⟩
      simp only [lgA,lgZ,lgS]
      go_simp
     simp only [lgA,lgZ,lgS,Act.put,lsA,lsZ,lsS]
     refine wpAnyG.tA 17 (v:=.pointer (some ⟨b',o'+j*10,none⟩)) (by decide) 18 (by as_aux_lemma=>kernel_rfl) (by rfl) ?y17 (HBX _ hc0) ?_
     case y17 =>
      rintro w' ⟨f0,f1,f2,f3,f4,f5⟩
      simp only [lgA,lgZ,lgS]
      go_simp
     simp only [lgA,lgZ,lgS,Act.put,lsA,lsZ,lsS]
     refine wpAnyG.tA 18 (v:=.string s) (by decide) 19 (by as_aux_lemma=>kernel_rfl) (by rfl) ?y18 (HBX _ hc0) ?_
     case y18 =>
      rintro w' ⟨f0,f1,f2,f3,f4,f5⟩
      simp only [lgA,lgZ,lgS]
      go_simp
     simp only [lgA,lgZ,lgS,Act.put,lsA,lsZ,lsS]
     refine wpAnyG.tA 19 (v:=.bool false) (by decide) 20 (by as_aux_lemma=>kernel_rfl) (by rfl) ?y19 (HBX _ hc0) ?_
     case y19 =>
      rintro w' ⟨f0,f1,f2,f3,f4,f5⟩
      simp only [lgA,lgZ,lgS]
      go_simp
     simp only [lgA,lgZ,lgS,Act.put,lsA,lsZ,lsS]
     refine wpAnyG.tA 20 (v:=.bool false) (by decide) 21 (by as_aux_lemma=>kernel_rfl) (by rfl) ?y20 (HBX _ hc0) ?_
     case y20 =>
      rintro w' ⟨f0,f1,f2,f3,f4,f5⟩
      simp only [lgA,lgZ,lgS]
      go_simp
     simp only [lgA,lgZ,lgS,Act.put,lsA,lsZ,lsS]
     refine wpAnyG.tA 21 (v:=.bool false) (by decide) 37 (by as_aux_lemma=>kernel_rfl) (by rfl) ?y21 (HBX _ hc0) ?_
     case y21 =>
      rintro w' ⟨f0,f1,f2,f3,f4,f5⟩
      simp only [lgA,lgZ,lgS]
      go_simp
     simp only [lgA,lgZ,lgS,Act.put,lsA,lsZ,lsS]
     refine wpAnyG.tA 22 (v:=.pointer (some ⟨w.heap.size,6,none⟩)) (by decide) 23 (by as_aux_lemma=>kernel_rfl) (by rfl) ?y22 (HBX _ hc0) ?_
     case y22 =>
      rintro w' ⟨f0,f1,f2,f3,f4,f5⟩
      simp only [lgA,lgZ,lgS]
      go_simp
     simp only [lgA,lgZ,lgS,Act.put,lsA,lsZ,lsS]
     refine wpAnyG.tA 23 (v:=.slice (some ⟨b,o,none⟩) P.rn P.rc) (by decide) 25 (by as_aux_lemma=>kernel_rfl) (by rfl) ?y23 (HBX _ hc0) ?_
     case y23 =>
      rintro w' ⟨f0,f1,f2,f3,f4,f5⟩
      simp only [lgA,lgZ,lgS]
      go_simp
     simp only [lgA,lgZ,lgS,Act.put,lsA,lsZ,lsS]
     refine wpAnyG.tA 24 (v:=.int .i64 (j:Int)) (by decide) 25 (by as_aux_lemma=>kernel_rfl) (by rfl) ?y24 (HBX _ hc0) ?_
     case y24 =>
      rintro w' ⟨f0,f1,f2,f3,f4,f5⟩
      simp only [lgA,lgZ,lgS]
      go_simp
     simp only [lgA,lgZ,lgS,Act.put,lsA,lsZ,lsS]
     refine wpAnyG.tA 25 (v:=.pointer (some ⟨b,o+j*10,none⟩)) (by decide) 26 (by as_aux_lemma=>kernel_rfl) (by rfl) ?y25 (HBX _ hc0) ?_
     case y25 =>
      rintro w' ⟨f0,f1,f2,f3,f4,f5⟩
      simp only [lgA,lgZ,lgS]
      go_simp
     simp only [lgA,lgZ,lgS,Act.put,lsA,lsZ,lsS]
     refine wpAnyG.tA 26 (v:=.pointer (some ⟨b,o+j*10+1,none⟩)) (by decide) 27 (by as_aux_lemma=>kernel_rfl) (by rfl) ?y26 (HBX _ hc0) ?_
     case y26 =>
      rintro w' ⟨f0,f1,f2,f3,f4,f5⟩
      simp only [lgA,lgZ,lgS]
      go_simp
     simp only [lgA,lgZ,lgS,Act.put,lsA,lsZ,lsS]
     refine wpAnyG.tA 27 (v:=.slice ta m c) (by decide) 28 (by as_aux_lemma=>kernel_rfl) (by rfl) ?y27 (HBX _ hc0) ?_
     case y27 =>
      rintro w' ⟨f0,f1,f2,f3,f4,f5⟩
      simp only [lgA,lgZ,lgS]
      go_simp
     simp only [lgA,lgZ,lgS,Act.put,lsA,lsZ,lsS]
     refine wpAnyG.tA 28 (v:=.int .i64 (m:Int)) (by decide) 36 (by as_aux_lemma=>kernel_rfl) (by rfl) ?y28 (HBX _ hc0) ?_
     case y28 =>
      rintro w' ⟨f0,f1,f2,f3,f4,f5⟩
      simp only [lgA,lgZ,lgS]
      go_simp
     simp only [lgA,lgZ,lgS,Act.put,lsA,lsZ,lsS]
     refine wpAnyG.tA 29 (v:=.pointer (some ⟨(w.heap.size+1),6,none⟩)) (by decide) 30 (by as_aux_lemma=>kernel_rfl) (by rfl) ?y29 (HBX _ hc0) ?_
     case y29 =>
      rintro w' ⟨f0,f1,f2,f3,f4,f5⟩
      simp only [lgA,lgZ,lgS]
      go_simp
     simp only [lgA,lgZ,lgS,Act.put,lsA,lsZ,lsS]
     refine wpAnyG.tA 30 (v:=.slice (some ⟨b',o',none⟩) P.rn Q.rc) (by decide) 32 (by as_aux_lemma=>kernel_rfl) (by rfl) ?y30 (HBX _ hc0) ?_
     case y30 =>
      rintro w' ⟨f0,f1,f2,f3,f4,f5⟩
      simp only [lgA,lgZ,lgS]
      go_simp
     simp only [lgA,lgZ,lgS,Act.put,lsA,lsZ,lsS]
     refine wpAnyG.tA 31 (v:=.int .i64 (j:Int)) (by decide) 32 (by as_aux_lemma=>kernel_rfl) (by rfl) ?y31 (HBX _ hc0) ?_
     case y31 =>
      rintro w' ⟨f0,f1,f2,f3,f4,f5⟩
      simp only [lgA,lgZ,lgS]
      go_simp
     simp only [lgA,lgZ,lgS,Act.put,lsA,lsZ,lsS]
     refine wpAnyG.tA 32 (v:=.pointer (some ⟨b',o'+j*10,none⟩)) (by decide) 33 (by as_aux_lemma=>kernel_rfl) (by rfl) ?y32 (HBX _ hc0) ?_
     case y32 =>
      rintro w' ⟨f0,f1,f2,f3,f4,f5⟩
      simp only [lgA,lgZ,lgS]
      go_simp
     simp only [lgA,lgZ,lgS,Act.put,lsA,lsZ,lsS]
     refine wpAnyG.tA 33 (v:=.pointer (some ⟨b',o'+j*10+1,none⟩)) (by decide) 34 (by as_aux_lemma=>kernel_rfl) (by rfl) ?y33 (HBX _ hc0) ?_
     case y33 =>
      rintro w' ⟨f0,f1,f2,f3,f4,f5⟩
      simp only [lgA,lgZ,lgS]
      go_simp
     simp only [lgA,lgZ,lgS,Act.put,lsA,lsZ,lsS]
     refine wpAnyG.tA 34 (v:=.slice ta' m c2) (by decide) 35 (by as_aux_lemma=>kernel_rfl) (by rfl) ?y34 (HBX _ hc0) ?_
     case y34 =>
      rintro w' ⟨f0,f1,f2,f3,f4,f5⟩
      simp only [lgA,lgZ,lgS]
      go_simp
     simp only [lgA,lgZ,lgS,Act.put,lsA,lsZ,lsS]
     refine wpAnyG.tA 35 (v:=.int .i64 (m:Int)) (by decide) 36 (by as_aux_lemma=>kernel_rfl) (by rfl) ?y35 (HBX _ hc0) ?_
     case y35 =>
      rintro w' ⟨f0,f1,f2,f3,f4,f5⟩
      simp only [lgA,lgZ,lgS]
      go_simp
     simp only [lgA,lgZ,lgS,Act.put,lsA,lsZ,lsS]
     refine wpAnyG.tA 36 (v:=.bool false) (by decide) 37 (by as_aux_lemma=>kernel_rfl) (by rfl) ?y36 (HBX _ hc0) ?_
     case y36 =>
      rintro w' ⟨f0,f1,f2,f3,f4,f5⟩
      simp only [lgA,lgZ,lgS]
      go_simp
     simp only [lgA,lgZ,lgS,Act.put,lsA,lsZ,lsS]
     refine wpAnyG.one 37 (by as_aux_lemma=>kernel_rfl) (by decide) (by rfl) (fun K hK=>?_)
     simp only [lgA,lgZ,lgS]
     go_simp
     refine hK _ _ (HBX _ hc0) ?_
     clear hK K
     refine wpAnyG.done (by as_aux_lemma=>kernel_rfl) (NoPanic.normal ?_)
     replace hbW:=bel_tr hbW hc0
     replace hbr:=bel_tr hbr hc0
     replace qa:=kept_c hc0 qa
     replace qb:=kept_c hc0 qb
     replace cx1:=kept_c hc0 cx1
     replace cy1:=kept_c hc0 cy1
     replace HLT:=HLT.below hc0
     clear HBX cx0 cy0 V hc0
     go_wp2
     go_loopw [13] (fun s13 wr=>∃ (k:Nat),k≤m∧s13 = .int .i64 k∧Below v0.heap.size v0 wr) (fun s13 _=>m-(intOf s13).toNat)
     case atStart=>exact ⟨0,Nat.zero_le _,rfl,Below.refl _ _⟩
     case round =>
      obtain ⟨k,hk,rfl,hbk⟩:=hrel
      replace qa:=kept_c hbk qa
      replace qb:=kept_c hbk qb
      have tA:=kept_c hbk cx1
      have tB:=kept_c hbk cy1
      by_cases hlt3:k<m
      ·have hkI4:(k:Int)<(m:Int):=by omega
       rcases HLT with h0|⟨tb,to,tb',to',e1,e2,hv⟩
       ·omega
       have V:=(hv k hlt3).below hbk
       have hkI5:(k:Int)*4=((k*4:Nat):Int):=by omega
       subst e1 e2
       clear hv cx1 cy1
       go_wp2_with fail
       obtain ⟨p,a,na,ca,d,nd,cd,p',a',na',ca',d',nd',cd',⟨cx0,cx1,cx2⟩,⟨cy0,cy1,cy2⟩,HS⟩:=V.2
       have HBX:∀ w',Below wr.heap.size wr w'→(w'.cell? ⟨w.heap.size,6,none⟩=some (.slice (some ⟨b,o,none⟩) P.rn P.rc)∧w'.cell? ⟨b,o+j*10+1,none⟩=some (.slice (some ⟨tb,to,none⟩) m c)∧w'.cell? ⟨tb,to+k*4+1,none⟩=some (.bool p)∧w'.cell? ⟨tb,to+k*4+1+1,none⟩=some (.slice a na ca)∧w'.cell? ⟨tb,to+k*4+1+2,none⟩=some (.slice d nd cd)∧w'.cell? ⟨(w.heap.size+1),6,none⟩=some (.slice (some ⟨b',o',none⟩) P.rn Q.rc)∧w'.cell? ⟨b',o'+j*10+1,none⟩=some (.slice (some ⟨tb',to',none⟩) m c2)∧w'.cell? ⟨tb',to'+k*4+1,none⟩=some (.bool p')∧w'.cell? ⟨tb',to'+k*4+1+1,none⟩=some (.slice a' na' ca')∧w'.cell? ⟨tb',to'+k*4+1+2,none⟩=some (.slice d' nd' cd')):=fun w' h=>⟨kept_c h qa,kept_c h tA,kept_c h cx0,kept_c h cx1,kept_c h cx2,kept_c h qb,kept_c h tB,kept_c h cy0,kept_c h cy1,kept_c h cy2⟩
       refine wp_region_noPanic (wp_region_guardB HBX (by as_aux_lemma=>kernel_rfl) ?_)
       have hc0:Below wr.heap.size wr wr.drew:=bel_d1 _
       generalize wr.drew=g0 at *
       refine wpAnyG.tA 0 (v:=.pointer (some ⟨w.heap.size,6,none⟩)) (by decide) 1 (by as_aux_lemma=>kernel_rfl) (by rfl) ?y0 (HBX _ hc0) ?_
       case y0 =>
        rintro w' ⟨f0,f1,f2,f3,f4,f5,f6,f7,f8,f9⟩
        simp only [lgA,lgZ]
        go_simp
       simp only [lgA,lgZ,Act.put,lsA,lsZ,lsS]
       refine wpAnyG.tA 1 (v:=.slice (some ⟨b,o,none⟩) P.rn P.rc) (by decide) 3 (by as_aux_lemma=>kernel_rfl) (by rfl) ?y1 (HBX _ hc0) ?_
       case y1 =>
        rintro w' ⟨f0,f1,f2,f3,f4,f5,f6,f7,f8,f9⟩
        simp only [lgA,lgZ,lgS]
        go_simp
       simp only [lgA,lgZ,lgS,Act.put,lsA,lsZ,lsS]
       refine wpAnyG.tA 2 (v:=.int .i64 (j:Int)) (by decide) 3 (by as_aux_lemma=>kernel_rfl) (by rfl) ?y2 (HBX _ hc0) ?_
       case y2 =>
        rintro w' ⟨f0,f1,f2,f3,f4,f5,f6,f7,f8,f9⟩
        simp only [lgA,lgZ,lgS]
        go_simp
       simp only [lgA,lgZ,lgS,Act.put,lsA,lsZ,lsS]
       refine wpAnyG.tA 3 (v:=.pointer (some ⟨b,o+j*10,none⟩)) (by decide) 4 (by as_aux_lemma=>kernel_rfl) (by rfl) ?y3 (HBX _ hc0) ?_
       case y3 =>
        rintro w' ⟨f0,f1,f2,f3,f4,f5,f6,f7,f8,f9⟩
        simp only [lgA,lgZ,lgS]
        go_simp
       simp only [lgA,lgZ,lgS,Act.put,lsA,lsZ,lsS]
       refine wpAnyG.tA 4 (v:=.pointer (some ⟨b,o+j*10+1,none⟩)) (by decide) 5 (by as_aux_lemma=>kernel_rfl) (by rfl) ?y4 (HBX _ hc0) ?_
       case y4 =>
        rintro w' ⟨f0,f1,f2,f3,f4,f5,f6,f7,f8,f9⟩
        simp only [lgA,lgZ,lgS]
        go_simp
       simp only [lgA,lgZ,lgS,Act.put,lsA,lsZ,lsS]
       refine wpAnyG.tA 5 (v:=.slice (some ⟨tb,to,none⟩) m c) (by decide) 7 (by as_aux_lemma=>kernel_rfl) (by rfl) ?y5 (HBX _ hc0) ?_
       case y5 =>
        rintro w' ⟨f0,f1,f2,f3,f4,f5,f6,f7,f8,f9⟩
        simp only [lgA,lgZ,lgS]
        go_simp
       simp only [lgA,lgZ,lgS,Act.put,lsA,lsZ,lsS]
       refine wpAnyG.tA 6 (v:=.int .i64 (k:Int)) (by decide) 7 (by as_aux_lemma=>kernel_rfl) (by rfl) ?y6 (HBX _ hc0) ?_
       case y6 =>
        rintro w' ⟨f0,f1,f2,f3,f4,f5,f6,f7,f8,f9⟩
        simp only [lgA,lgZ,lgS]
        go_simp
       simp only [lgA,lgZ,lgS,Act.put,lsA,lsZ,lsS]
       refine wpAnyG.tA 7 (v:=.pointer (some ⟨tb,to+k*4,none⟩)) (by decide) 8 (by as_aux_lemma=>kernel_rfl) (by rfl) ?y7 (HBX _ hc0) ?_
       case y7 =>
        rintro w' ⟨f0,f1,f2,f3,f4,f5,f6,f7,f8,f9⟩
        simp only [lgA,lgZ,lgS]
        go_simp
       simp only [lgA,lgZ,lgS,Act.put,lsA,lsZ,lsS]
       refine wpAnyG.tA 8 (v:=.pointer (some ⟨tb,to+k*4+1,none⟩)) (by decide) 9 (by as_aux_lemma=>kernel_rfl) (by rfl) ?y8 (HBX _ hc0) ?_
       case y8 =>
        rintro w' ⟨f0,f1,f2,f3,f4,f5,f6,f7,f8,f9⟩
        simp only [lgA,lgZ,lgS]
        go_simp
       simp only [lgA,lgZ,lgS,Act.put,lsA,lsZ,lsS]
       refine wpAnyG.tA 9 (v:=.agg #[.bool p,.slice a na ca,.slice d nd cd]) (by decide) 20 (by as_aux_lemma=>kernel_rfl) (by rfl) ?y9 (HBX _ hc0) ?_
       case y9 =>
        rintro w' ⟨f0,f1,f2,f3,f4,f5,f6,f7,f8,f9⟩
        simp only [lgA,lgZ,lgS]
        go_simp
       simp only [lgA,lgZ,lgS,Act.put,lsA,lsZ,lsS]
       refine wpAnyG.tA 10 (v:=.pointer (some ⟨(w.heap.size+1),6,none⟩)) (by decide) 11 (by as_aux_lemma=>kernel_rfl) (by rfl) ?y10 (HBX _ hc0) ?_
       case y10 =>
        rintro w' ⟨f0,f1,f2,f3,f4,f5,f6,f7,f8,f9⟩
        simp only [lgA,lgZ,lgS]
        go_simp
       simp only [lgA,lgZ,lgS,Act.put,lsA,lsZ,lsS]
       refine wpAnyG.tA 11 (v:=.slice (some ⟨b',o',none⟩) P.rn Q.rc) (by decide) 13 (by as_aux_lemma=>kernel_rfl) (by rfl) ?y11 (HBX _ hc0) ?_
       case y11 =>
        rintro w' ⟨f0,f1,f2,f3,f4,f5,f6,f7,f8,f9⟩
        simp only [lgA,lgZ,lgS]
        go_simp
       simp only [lgA,lgZ,lgS,Act.put,lsA,lsZ,lsS]
       refine wpAnyG.tA 12 (v:=.int .i64 (j:Int)) (by decide) 13 (by as_aux_lemma=>kernel_rfl) (by rfl) ?y12 (HBX _ hc0) ?_
       case y12 =>
        rintro w' ⟨f0,f1,f2,f3,f4,f5,f6,f7,f8,f9⟩
        simp only [lgA,lgZ,lgS]
        go_simp
       simp only [lgA,lgZ,lgS,Act.put,lsA,lsZ,lsS]
       refine wpAnyG.tA 13 (v:=.pointer (some ⟨b',o'+j*10,none⟩)) (by decide) 14 (by as_aux_lemma=>kernel_rfl) (by rfl) ?y13 (HBX _ hc0) ?_
       case y13 =>
        rintro w' ⟨f0,f1,f2,f3,f4,f5,f6,f7,f8,f9⟩
        simp only [lgA,lgZ,lgS]
        go_simp
       simp only [lgA,lgZ,lgS,Act.put,lsA,lsZ,lsS]
       refine wpAnyG.tA 14 (v:=.pointer (some ⟨b',o'+j*10+1,none⟩)) (by decide) 15 (by as_aux_lemma=>kernel_rfl) (by rfl) ?y14 (HBX _ hc0) ?_
       case y14 =>
        rintro w' ⟨f0,f1,f2,f3,f4,f5,f6,f7,f8,f9⟩
        simp only [lgA,lgZ,lgS]
        go_simp
       simp only [lgA,lgZ,lgS,Act.put,lsA,lsZ,lsS]
       refine wpAnyG.tA 15 (v:=.slice (some ⟨tb',to',none⟩) m c2) (by decide) 17 (by as_aux_lemma=>kernel_rfl) (by rfl) ?y15 (HBX _ hc0) ?_
       case y15 =>
        rintro w' ⟨f0,f1,f2,f3,f4,f5,f6,f7,f8,f9⟩
        simp only [lgA,lgZ,lgS]
        go_simp
       simp only [lgA,lgZ,lgS,Act.put,lsA,lsZ,lsS]
       refine wpAnyG.tA 16 (v:=.int .i64 (k:Int)) (by decide) 17 (by as_aux_lemma=>kernel_rfl) (by rfl) ?y16 (HBX _ hc0) ?_
       case y16 =>
        rintro w' ⟨f0,f1,f2,f3,f4,f5,f6,f7,f8,f9⟩
        simp only [lgA,lgZ,lgS]
        go_simp
       simp only [lgA,lgZ,lgS,Act.put,lsA,lsZ,lsS]
       refine wpAnyG.tA 17 (v:=.pointer (some ⟨tb',to'+k*4,none⟩)) (by decide) 18 (by as_aux_lemma=>kernel_rfl) (by rfl) ?y17 (HBX _ hc0) ?_
       case y17 =>
        rintro w' ⟨f0,f1,f2,f3,f4,f5,f6,f7,f8,f9⟩
        simp only [lgA,lgZ,lgS]
        go_simp
       simp only [lgA,lgZ,lgS,Act.put,lsA,lsZ,lsS]
       refine wpAnyG.tA 18 (v:=.pointer (some ⟨tb',to'+k*4+1,none⟩)) (by decide) 19 (by as_aux_lemma=>kernel_rfl) (by rfl) ?y18 (HBX _ hc0) ?_
       case y18 =>
        rintro w' ⟨f0,f1,f2,f3,f4,f5,f6,f7,f8,f9⟩
        simp only [lgA,lgZ,lgS]
        go_simp
       simp only [lgA,lgZ,lgS,Act.put,lsA,lsZ,lsS]
       refine wpAnyG.tA 19 (v:=.agg #[.bool p',.slice a' na' ca',.slice d' nd' cd']) (by decide) 20 (by as_aux_lemma=>kernel_rfl) (by rfl) ?y19 (HBX _ hc0) ?_
       case y19 =>
        rintro w' ⟨f0,f1,f2,f3,f4,f5,f6,f7,f8,f9⟩
        simp only [lgA,lgZ,lgS]
        go_simp
       simp only [lgA,lgZ,lgS,Act.put,lsA,lsZ,lsS]
       refine wpAnyG.one 20 (by as_aux_lemma=>kernel_rfl) (by decide) (by rfl) (fun K hK=>?_)
       simp only [lgA,lgZ,lgS]
       go_simp
       refine (HS g0 hc0).mono ?_
       rintro e g1 ⟨rfl,hk1⟩
       have hc1:Below wr.heap.size wr g1:=bel_tr hc0 hk1
       dsimp only
       refine hK _ _ (HBX _ hc1) ?_
       clear hK K
       refine wpAnyG.one 21 (by as_aux_lemma=>kernel_rfl) (by decide) (by rfl) (fun K hK=>?_)
       simp only [lgA,lgZ,lgS]
       go_simp
       refine hK _ _ (HBX _ hc1) ?_
       clear hK K
       refine wpAnyG.done (by as_aux_lemma=>kernel_rfl) (NoPanic.normal ?_)
       replace hbk:=bel_tr hbk hc1
       replace qa:=kept_c hc1 qa
       replace qb:=kept_c hc1 qb
       replace tA:=kept_c hc1 tA
       replace tB:=kept_c hc1 tB
       replace V:=V.below hc1
       clear HBX HS hk1 hc0 hc1 cx0 cx1 cx2 cy0 cy1 cy2
       go_wp2_with fail
       obtain ⟨x,cx0,cy0⟩:=V.1
       have HBX:∀ w',Below g1.heap.size g1 w'→(w'.cell? ⟨w.heap.size,6,none⟩=some (.slice (some ⟨b,o,none⟩) P.rn P.rc)∧w'.cell? ⟨(w.heap.size+1),6,none⟩=some (.slice (some ⟨b',o',none⟩) P.rn Q.rc)∧w'.cell? ⟨b,o+j*10+1,none⟩=some (.slice (some ⟨tb,to,none⟩) m c)∧w'.cell? ⟨b',o'+j*10+1,none⟩=some (.slice (some ⟨tb',to',none⟩) m c2)∧w'.cell? ⟨tb,to+k*4,none⟩=some (.int .i64 x)∧w'.cell? ⟨tb',to'+k*4,none⟩=some (.int .i64 x)):=fun w' h=>⟨kept_c h qa,kept_c h qb,kept_c h tA,kept_c h tB,kept_c h cx0,kept_c h cy0⟩
       refine wp_region_noPanic (wp_region_guardB HBX (by as_aux_lemma=>kernel_rfl) ?_)
       have hc0:Below g1.heap.size g1 g1.drew:=bel_d1 _
       generalize g1.drew=g2 at *
       refine wpAnyG.tA 0 (v:=.bool true) (by decide) 1 (by as_aux_lemma=>kernel_rfl) (by rfl) ?y0 (HBX _ hc0) ?_
       case y0 =>
        rintro w' ⟨f0,f1,f2,f3,f4,f5⟩
        simp only [lgA,lgZ]
        go_simp
       simp only [lgA,lgZ,Act.put,lsA,lsZ,lsS]
       refine wpAnyG.tA 1 (v:=.bool false) (by decide) 2 (by as_aux_lemma=>kernel_rfl) (by rfl) ?y1 (HBX _ hc0) ?_
       case y1 =>
        rintro w' ⟨f0,f1,f2,f3,f4,f5⟩
        simp only [lgA,lgZ,lgS]
        go_simp
       simp only [lgA,lgZ,lgS,Act.put,lsA,lsZ,lsS]
       refine wpAnyG.tA 2 (v:=.bool false) (by decide) 24 (by as_aux_lemma=>kernel_rfl) (by rfl) ?y2 (HBX _ hc0) ?_
       case y2 =>
        rintro w' ⟨f0,f1,f2,f3,f4,f5⟩
        simp only [lgA,lgZ,lgS]
        go_simp
       simp only [lgA,lgZ,lgS,Act.put,lsA,lsZ,lsS]
       refine wpAnyG.tA 3 (v:=.pointer (some ⟨w.heap.size,6,none⟩)) (by decide) 4 (by as_aux_lemma=>kernel_rfl) (by rfl) ?y3 (HBX _ hc0) ?_
       case y3 =>
        rintro w' ⟨f0,f1,f2,f3,f4,f5⟩
        simp only [lgA,lgZ,lgS]
        go_simp
       simp only [lgA,lgZ,lgS,Act.put,lsA,lsZ,lsS]
       refine wpAnyG.tA 4 (v:=.slice (some ⟨b,o,none⟩) P.rn P.rc) (by decide) 6 (by as_aux_lemma=>kernel_rfl) (by rfl) ?y4 (HBX _ hc0) ?_
       case y4 =>
        rintro w' ⟨f0,f1,f2,f3,f4,f5⟩
        simp only [lgA,lgZ,lgS]
        go_simp
       simp only [lgA,lgZ,lgS,Act.put,lsA,lsZ,lsS]
       refine wpAnyG.tA 5 (v:=.int .i64 (j:Int)) (by decide) 6 (by as_aux_lemma=>kernel_rfl) (by rfl) ?y5 (HBX _ hc0) ?_
       case y5 =>
        rintro w' ⟨f0,f1,f2,f3,f4,f5⟩
        simp only [lgA,lgZ,lgS]
        go_simp
       simp only [lgA,lgZ,lgS,Act.put,lsA,lsZ,lsS]
       refine wpAnyG.tA 6 (v:=.pointer (some ⟨b,o+j*10,none⟩)) (by decide) 7 (by as_aux_lemma=>kernel_rfl) (by rfl) ?y6 (HBX _ hc0) ?_
       case y6 =>
        rintro w' ⟨f0,f1,f2,f3,f4,f5⟩
        simp only [lgA,lgZ,lgS]
        go_simp
       simp only [lgA,lgZ,lgS,Act.put,lsA,lsZ,lsS]
       refine wpAnyG.tA 7 (v:=.pointer (some ⟨b,o+j*10+1,none⟩)) (by decide) 8 (by as_aux_lemma=>kernel_rfl) (by rfl) ?y7 (HBX _ hc0) ?_
       case y7 =>
        rintro w' ⟨f0,f1,f2,f3,f4,f5⟩
        simp only [lgA,lgZ,lgS]
        go_simp
       simp only [lgA,lgZ,lgS,Act.put,lsA,lsZ,lsS]
       refine wpAnyG.tA 8 (v:=.slice (some ⟨tb,to,none⟩) m c) (by decide) 10 (by as_aux_lemma=>kernel_rfl) (by rfl) ?y8 (HBX _ hc0) ?_
       case y8 =>
        rintro w' ⟨f0,f1,f2,f3,f4,f5⟩
        simp only [lgA,lgZ,lgS]
        go_simp
       simp only [lgA,lgZ,lgS,Act.put,lsA,lsZ,lsS]
       refine wpAnyG.tA 9 (v:=.int .i64 (k:Int)) (by decide) 10 (by as_aux_lemma=>kernel_rfl) (by rfl) ?y9 (HBX _ hc0) ?_
       case y9 =>
        rintro w' ⟨f0,f1,f2,f3,f4,f5⟩
        simp only [lgA,lgZ,lgS]
        go_simp
       simp only [lgA,lgZ,lgS,Act.put,lsA,lsZ,lsS]
       refine wpAnyG.tA 10 (v:=.pointer (some ⟨tb,to+k*4,none⟩)) (by decide) 11 (by as_aux_lemma=>kernel_rfl) (by rfl) ?y10 (HBX _ hc0) ?_
       case y10 =>
        rintro w' ⟨f0,f1,f2,f3,f4,f5⟩
        simp only [lgA,lgZ,lgS]
        go_simp
       simp only [lgA,lgZ,lgS,Act.put,lsA,lsZ,lsS]
       refine wpAnyG.tA 11 (v:=.pointer (some ⟨tb,to+k*4,none⟩)) (by decide) 12 (by as_aux_lemma=>kernel_rfl) (by rfl) ?y11 (HBX _ hc0) ?_
       case y11 =>
        rintro w' ⟨f0,f1,f2,f3,f4,f5⟩
        simp only [lgA,lgZ,lgS]
        go_simp
       simp only [lgA,lgZ,lgS,Act.put,lsA,lsZ,lsS]
       refine wpAnyG.tA 12 (v:=.int .i64 x) (by decide) 23 (by as_aux_lemma=>kernel_rfl) (by rfl) ?y12 (HBX _ hc0) ?_
       case y12 =>
        rintro w' ⟨f0,f1,f2,f3,f4,f5⟩
        simp only [lgA,lgZ,lgS]
        go_simp
       simp only [lgA,lgZ,lgS,Act.put,lsA,lsZ,lsS]
       refine wpAnyG.tA 13 (v:=.pointer (some ⟨(w.heap.size+1),6,none⟩)) (by decide) 14 (by as_aux_lemma=>kernel_rfl) (by rfl) ?y13 (HBX _ hc0) ?_
       case y13 =>
        rintro w' ⟨f0,f1,f2,f3,f4,f5⟩
        simp only [lgA,lgZ,lgS]
        go_simp
       simp only [lgA,lgZ,lgS,Act.put,lsA,lsZ,lsS]
       refine wpAnyG.tA 14 (v:=.slice (some ⟨b',o',none⟩) P.rn Q.rc) (by decide) 16 (by as_aux_lemma=>kernel_rfl) (by rfl) ?y14 (HBX _ hc0) ?_
       case y14 =>
        rintro w' ⟨f0,f1,f2,f3,f4,f5⟩
        simp only [lgA,lgZ,lgS]
        go_simp
       simp only [lgA,lgZ,lgS,Act.put,lsA,lsZ,lsS]
       refine wpAnyG.tA 15 (v:=.int .i64 (j:Int)) (by decide) 16 (by as_aux_lemma=>kernel_rfl) (by rfl) ?y15 (HBX _ hc0) ?_
       case y15 =>
        rintro w' ⟨f0,f1,f2,f3,f4,f5⟩
        simp only [lgA,lgZ,lgS]
        go_simp
       simp only [lgA,lgZ,lgS,Act.put,lsA,lsZ,lsS]
       refine wpAnyG.tA 16 (v:=.pointer (some ⟨b',o'+j*10,none⟩)) (by decide) 17 (by as_aux_lemma=>kernel_rfl) (by rfl) ?y16 (HBX _ hc0) ?_
       case y16 =>
        rintro w' ⟨f0,f1,f2,f3,f4,f5⟩
        simp only [lgA,lgZ,lgS]
        go_simp
       simp only [lgA,lgZ,lgS,Act.put,lsA,lsZ,lsS]
       refine wpAnyG.tA 17 (v:=.pointer (some ⟨b',o'+j*10+1,none⟩)) (by decide) 18 (by as_aux_lemma=>kernel_rfl) (by rfl) ?y17 (HBX _ hc0) ?_
       case y17 =>
        rintro w' ⟨f0,f1,f2,f3,f4,f5⟩
        simp only [lgA,lgZ,lgS]
        go_simp
       simp only [lgA,lgZ,lgS,Act.put,lsA,lsZ,lsS]
       refine wpAnyG.tA 18 (v:=.slice (some ⟨tb',to',none⟩) m c2) (by decide) 20 (by as_aux_lemma=>kernel_rfl) (by rfl) ?y18 (HBX _ hc0) ?_
       case y18 =>
        rintro w' ⟨f0,f1,f2,f3,f4,f5⟩
        simp only [lgA,lgZ,lgS]
        go_simp
       simp only [lgA,lgZ,lgS,Act.put,lsA,lsZ,lsS]
       refine wpAnyG.tA 19 (v:=.int .i64 (k:Int)) (by decide) 20 (by as_aux_lemma=>kernel_rfl) (by rfl) ?y19 (HBX _ hc0) ?_
       case y19 =>
        rintro w' ⟨f0,f1,f2,f3,f4,f5⟩
        simp only [lgA,lgZ,lgS]
        go_simp
       simp only [lgA,lgZ,lgS,Act.put,lsA,lsZ,lsS]
       refine wpAnyG.tA 20 (v:=.pointer (some ⟨tb',to'+k*4,none⟩)) (by decide) 21 (by as_aux_lemma=>kernel_rfl) (by rfl) ?y20 (HBX _ hc0) ?_
       case y20 =>
        rintro w' ⟨f0,f1,f2,f3,f4,f5⟩
        simp only [lgA,lgZ,lgS]
        go_simp
       simp only [lgA,lgZ,lgS,Act.put,lsA,lsZ,lsS]
       refine wpAnyG.tA 21 (v:=.pointer (some ⟨tb',to'+k*4,none⟩)) (by decide) 22 (by as_aux_lemma=>kernel_rfl) (by rfl) ?y21 (HBX _ hc0) ?_
       case y21 =>
        rintro w' ⟨f0,f1,f2,f3,f4,f5⟩
        simp only [lgA,lgZ,lgS]
        go_simp
       simp only [lgA,lgZ,lgS,Act.put,lsA,lsZ,lsS]
       refine wpAnyG.tA 22 (v:=.int .i64 x) (by decide) 23 (by as_aux_lemma=>kernel_rfl) (by rfl) ?y22 (HBX _ hc0) ?_
       case y22 =>
        rintro w' ⟨f0,f1,f2,f3,f4,f5⟩
        simp only [lgA,lgZ,lgS]
        go_simp
       simp only [lgA,lgZ,lgS,Act.put,lsA,lsZ,lsS]
       refine wpAnyG.tA 23 (v:=.bool false) (by decide) 24 (by as_aux_lemma=>kernel_rfl) (by rfl) ?y23 (HBX _ hc0) ?_
       case y23 =>
        rintro w' ⟨f0,f1,f2,f3,f4,f5⟩
        simp only [lgA,lgZ,lgS]
        go_simp
       simp only [lgA,lgZ,lgS,Act.put,lsA,lsZ,lsS]
       refine wpAnyG.one 24 (by as_aux_lemma=>kernel_rfl) (by decide) (by rfl) (fun K hK=>?_)
       simp only [lgA,lgZ,lgS]
       go_simp
       refine hK _ _ (HBX _ hc0) ?_
       clear hK K
       refine wpAnyG.done (by as_aux_lemma=>kernel_rfl) (NoPanic.normal ?_)
       replace hbk:=bel_tr hbk hc0
       clear HBX cx0 cy0 V qa qb tA tB
       go_wp2
       go_roundw
       case rel=>first|exact ⟨k+1,by omega,by go_num,hbk⟩|((repeat apply Exists.intro);refine ⟨?_,rfl⟩;exact ⟨k+1,by omega,by go_num,hbk⟩)
       case measure=>simp [intOf];omega
      ·have hkI4:¬ (k:Int)<(m:Int):=by omega
       replace hbr:=bel_tr hbr hbk
       go_wp2
       go_roundw
       case rel=>first|exact ⟨j+1,by omega,by go_num,hbr⟩|((repeat apply Exists.intro);refine ⟨?_,rfl⟩;exact ⟨j+1,by omega,by go_num,hbr⟩)
       case measure=>simp [intOf];omega
    ·have hkI3:¬ (j:Int)<(P.rn:Int):=by omega
     go_wp2
     go_ret
     exact ⟨rfl,hbW⟩
end Go.Proofs.YtceigfafmalfgaaGreatDoor

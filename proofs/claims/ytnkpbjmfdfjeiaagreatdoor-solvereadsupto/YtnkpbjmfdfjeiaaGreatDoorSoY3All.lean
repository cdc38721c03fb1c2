import Derived.Test.YtnkpbjmfdfjeiaaGreatDoorSoX3All
import Derived.Test.YtnkpbjmfdfjeiaaGreatDoorSoX1All
namespace Go.Proofs.YtnkpbjmfdfjeiaaGreatDoor
open Go.RowKit
set_option maxRecDepth 100000 in
set_option maxHeartbeats 16000000 in
theorem blank3 (P:Prob) (w:World) (hP:PQ w P) (hK:P.K≤1048576):Calls Tryz.prog 18 #[P.val,.int .i64 3] w fun e w'=>BlkR P 3 w e w':=by
 have hvn:P.vn≤1048576:=by have:=hP.all;have:=tot_len P.ZV P.vn;omega
 have hrn:P.rn≤1048576:=by have:=hP.all;have:=tot_len P.ZR P.rn;omega
 clear hP
 unfold Prob.val
 obtain ⟨B0,B1,B2,hb3,hs3⟩:=boxc3 w #[.bool P.mx,.string P.nm,.bool P.p,.slice P.a P.na P.ca,.slice P.d P.nd P.cd,.slice P.va P.vn P.vc,.slice P.ra P.rn P.rc] 31 #[.int .i64 0,.bool false,.slice none 0 0,.slice none 0 0,.slice none 0 0,.slice none 0 0,.slice none 0 0] 35 #[.int .i64 3,.bool false,.slice none 0 0,.slice none 0 0,.slice none 0 0,.slice none 0 0,.slice none 0 0] 35
 have R4:Rw 35 (((w.alloc (.cells #[.bool P.mx,.string P.nm,.bool P.p,.slice P.a P.na P.ca,.slice P.d P.nd P.cd,.slice P.va P.vn P.vc,.slice P.ra P.rn P.rc] 31)).alloc (.cells #[.int .i64 0,.bool false,.slice none 0 0,.slice none 0 0,.slice none 0 0,.slice none 0 0,.slice none 0 0] 35)).alloc (.cells #[.int .i64 3,.bool false,.slice none 0 0,.slice none 0 0,.slice none 0 0,.slice none 0 0,.slice none 0 0] 35)) (w.heap.size + 1) #[.int .i64 0,.bool false,.slice none 0 0,.slice none 0 0,.slice none 0 0,.slice none 0 0,.slice none 0 0]:=by
  have:=(Rw.new 35 (w.alloc (.cells #[.bool P.mx,.string P.nm,.bool P.p,.slice P.a P.na P.ca,.slice P.d P.nd P.cd,.slice P.va P.vn P.vc,.slice P.ra P.rn P.rc] 31)) #[.int .i64 0,.bool false,.slice none 0 0,.slice none 0 0,.slice none 0 0,.slice none 0 0,.slice none 0 0]).below (bel_d0 _ (.cells #[.int .i64 3,.bool false,.slice none 0 0,.slice none 0 0,.slice none 0 0,.slice none 0 0,.slice none 0 0] 35))
  rwa [show (w.alloc (.cells #[.bool P.mx,.string P.nm,.bool P.p,.slice P.a P.na P.ca,.slice P.d P.nd P.cd,.slice P.va P.vn P.vc,.slice P.ra P.rn P.rc] 31)).heap.size = w.heap.size + 1 by simp] at this
 have R5:Rw 35 (((w.alloc (.cells #[.bool P.mx,.string P.nm,.bool P.p,.slice P.a P.na P.ca,.slice P.d P.nd P.cd,.slice P.va P.vn P.vc,.slice P.ra P.rn P.rc] 31)).alloc (.cells #[.int .i64 0,.bool false,.slice none 0 0,.slice none 0 0,.slice none 0 0,.slice none 0 0,.slice none 0 0] 35)).alloc (.cells #[.int .i64 3,.bool false,.slice none 0 0,.slice none 0 0,.slice none 0 0,.slice none 0 0,.slice none 0 0] 35)) (w.heap.size + 2) #[.int .i64 3,.bool false,.slice none 0 0,.slice none 0 0,.slice none 0 0,.slice none 0 0,.slice none 0 0]:=by
  have:=Rw.new 35 ((w.alloc (.cells #[.bool P.mx,.string P.nm,.bool P.p,.slice P.a P.na P.ca,.slice P.d P.nd P.cd,.slice P.va P.vn P.vc,.slice P.ra P.rn P.rc] 31)).alloc (.cells #[.int .i64 0,.bool false,.slice none 0 0,.slice none 0 0,.slice none 0 0,.slice none 0 0,.slice none 0 0] 35)) #[.int .i64 3,.bool false,.slice none 0 0,.slice none 0 0,.slice none 0 0,.slice none 0 0,.slice none 0 0]
  rwa [show ((w.alloc (.cells #[.bool P.mx,.string P.nm,.bool P.p,.slice P.a P.na P.ca,.slice P.d P.nd P.cd,.slice P.va P.vn P.vc,.slice P.ra P.rn P.rc] 31)).alloc (.cells #[.int .i64 0,.bool false,.slice none 0 0,.slice none 0 0,.slice none 0 0,.slice none 0 0,.slice none 0 0] 35)).heap.size = w.heap.size + 2 by simp] at this
 have p5:=B0 5 _ rfl
 have p6:=B0 6 _ rfl
 clear B0 B1 B2
 have HS3:Hid ((((w.alloc (.cells #[.bool P.mx,.string P.nm,.bool P.p,.slice P.a P.na P.ca,.slice P.d P.nd P.cd,.slice P.va P.vn P.vc,.slice P.ra P.rn P.rc] 31)).alloc (.cells #[.int .i64 0,.bool false,.slice none 0 0,.slice none 0 0,.slice none 0 0,.slice none 0 0,.slice none 0 0] 35)).alloc (.cells #[.int .i64 3,.bool false,.slice none 0 0,.slice none 0 0,.slice none 0 0,.slice none 0 0,.slice none 0 0] 35)).heap.size = w.heap.size + 3):=hs3
 clear hs3
 go_enter Tryz.func18,Tryz.ntmps18
 go_wp2_with fail
 clear p5 p6
 have RP:Rw 31 (((w.alloc (.cells #[.bool P.mx,.string P.nm,.bool P.p,.slice P.a P.na P.ca,.slice P.d P.nd P.cd,.slice P.va P.vn P.vc,.slice P.ra P.rn P.rc] 31)).alloc (.cells #[.int .i64 0,.bool false,.slice none 0 0,.slice none 0 0,.slice none 0 0,.slice none 0 0,.slice none 0 0] 35)).alloc (.cells #[.int .i64 3,.bool false,.slice none 0 0,.slice none 0 0,.slice none 0 0,.slice none 0 0,.slice none 0 0] 35)) w.heap.size #[.bool P.mx,.string P.nm,.bool P.p,.slice P.a P.na P.ca,.slice P.d P.nd P.cd,.slice P.va P.vn P.vc,.slice P.ra P.rn P.rc]:=((Rw.new 31 w #[.bool P.mx,.string P.nm,.bool P.p,.slice P.a P.na P.ca,.slice P.d P.nd P.cd,.slice P.va P.vn P.vc,.slice P.ra P.rn P.rc]).below (bel_d0 _ (.cells #[.int .i64 0,.bool false,.slice none 0 0,.slice none 0 0,.slice none 0 0,.slice none 0 0,.slice none 0 0] 35))).below (bel_d0 _ (.cells #[.int .i64 3,.bool false,.slice none 0 0,.slice none 0 0,.slice none 0 0,.slice none 0 0,.slice none 0 0] 35))
 generalize ((w.alloc (.cells #[.bool P.mx,.string P.nm,.bool P.p,.slice P.a P.na P.ca,.slice P.d P.nd P.cd,.slice P.va P.vn P.vc,.slice P.ra P.rn P.rc] 31)).alloc (.cells #[.int .i64 0,.bool false,.slice none 0 0,.slice none 0 0,.slice none 0 0,.slice none 0 0,.slice none 0 0] 35)).alloc (.cells #[.int .i64 3,.bool false,.slice none 0 0,.slice none 0 0,.slice none 0 0,.slice none 0 0,.slice none 0 0] 35) = W3 at *
 have hs3:=HS3.out
 have hFU:w.heap.size≤W3.heap.size:=by omega
 have HBX:∀ w',Kb w.heap.size [35] W3 w'→w'.cell? ⟨w.heap.size,5,none⟩ = some (.slice P.va P.vn P.vc):=fun w' k=>((RP.kb k (by decide)).cell 5).trans rfl
 have hD0:=bel_d1 W3
 refine wp_region_noPanic (wp_region_guard (Till 11 11 (fun w'=>w'.cell? ⟨w.heap.size,5,none⟩ = some (.slice P.va P.vn P.vc)) (fun _=>True)) (by as_aux_lemma=>kernel_rfl) ?_)
 have hc0:Kb w.heap.size [35] W3 W3.drew:=(Kb.refl w.heap.size [35] W3).drew
 generalize W3.drew = z0 at *
 refine wpAnyG.tT 0 (v:=.pointer (some ⟨w.heap.size,5,none⟩)) (by decide) 11 (by as_aux_lemma=>kernel_rfl) (by rfl) ?y0 (HBX _ hc0) ?_
 case y0 =>
  rintro w' q0
  simp only [lgA,lgZ]
  go_simp
 simp only [lgA,lgZ,Act.put,lsA,lsZ,lsS]
 refine wpAnyG.tT 1 (v:=.slice P.va P.vn P.vc) (by decide) 11 (by as_aux_lemma=>kernel_rfl) (by rfl) ?y1 (HBX _ hc0) ?_
 case y1 =>
  rintro w' q0
  simp only [lgA,lgZ,lgS]
  go_simp
 simp only [lgA,lgZ,lgS,Act.put,lsA,lsZ,lsS]
 refine wpAnyG.tT 2 (v:=.int .i64 (P.vn:Int)) (by decide) 11 (by as_aux_lemma=>kernel_rfl) (by rfl) ?y2 (HBX _ hc0) ?_
 case y2 =>
  rintro w' q0
  simp only [lgA,lgZ,lgS]
  go_simp
 simp only [lgA,lgZ,lgS,Act.put,lsA,lsZ,lsS]
 refine wpAnyG.tT 4 (v:=.pointer (some ⟨w.heap.size,5,none⟩)) (by decide) 11 (by as_aux_lemma=>kernel_rfl) (by rfl) ?y4 (HBX _ hc0) ?_
 case y4 =>
  rintro w' q0
  simp only [lgA,lgZ,lgS]
  go_simp
 simp only [lgA,lgZ,lgS,Act.put,lsA,lsZ,lsS]
 refine wpAnyG.tT 5 (v:=.slice P.va P.vn P.vc) (by decide) 11 (by as_aux_lemma=>kernel_rfl) (by rfl) ?y5 (HBX _ hc0) ?_
 case y5 =>
  rintro w' q0
  simp only [lgA,lgZ,lgS]
  go_simp
 simp only [lgA,lgZ,lgS,Act.put,lsA,lsZ,lsS]
 refine wpAnyG.tT 6 (v:=.int .i64 (P.vn:Int)) (by decide) 11 (by as_aux_lemma=>kernel_rfl) (by rfl) ?y6 (HBX _ hc0) ?_
 case y6 =>
  rintro w' q0
  simp only [lgA,lgZ,lgS]
  go_simp
 simp only [lgA,lgZ,lgS,Act.put,lsA,lsZ,lsS]
 refine wpAnyG.two 3 7 (by as_aux_lemma=>kernel_rfl) (by decide) (by decide) (by rfl) (by rfl) (fun K hK=>?_) (fun K hK=>?_)
 ·simp only [lgA,lgZ,lgS]
  refine wp_makeR z0 _ _ rfl P.vn rfl rfl (by omega) ?_
  intro z1 Mgx hbgx hzgx
  obtain ⟨gx,hqgx⟩:∃ gx,z0.heap.size = gx:=⟨_,rfl⟩
  rw [hqgx] at Mgx hzgx ⊢
  have hc1:Kb w.heap.size [35] W3 z1:=hc0.bel hbgx hFU
  refine hK _ _ ⟨fun _=>HBX _ hc1,fun _=>trivial⟩ ?_
  clear hK K
  simp only [Act.put,List.setIfInBounds_toArray,List.set_cons_zero,List.set_cons_succ]
  refine wpAnyG.tT 8 (v:=.pointer (some ⟨w.heap.size + 1 + 1,4,none⟩)) (by decide) 11 (by as_aux_lemma=>kernel_rfl) (by rfl) ?y8 (HBX _ hc1) ?_
  case y8 =>
   rintro w' q0
   simp only [lgA,lgZ,lgS]
   go_simp
  simp only [lgA,lgZ,lgS,Act.put,lsA,lsZ,lsS]
  refine wpAnyG.two 7 9 (by as_aux_lemma=>kernel_rfl) (by decide) (by decide) (by rfl) (by rfl) (fun K hK=>?_) (fun K hK=>?_)
  ·simp only [lgA,lgZ,lgS]
   refine wp_makeR z1 _ _ rfl P.vn rfl rfl (by omega) ?_
   intro z2 Mgz hbgz hzgz
   obtain ⟨gz,hqgz⟩:∃ gz,z1.heap.size = gz:=⟨_,rfl⟩
   rw [hqgz] at Mgz hzgz ⊢
   have hc2:Kb w.heap.size [35] W3 z2:=hc1.bel hbgz hFU
   refine hK _ _ ⟨fun _=>HBX _ hc2,fun _=>trivial⟩ ?_
   clear hK K
   have R5z:=((R5.below hD0).below hbgx).below hbgz
   have R4z:=((R4.below hD0).below hbgx).below hbgz
   have hx4:=(R5z.cell 4).trans (show _ = some (Value.slice none 0 0) from rfl)
   have hf4:=R5z.frozen 4
   have hx6:=(R5z.cell 6).trans (show _ = some (Value.slice none 0 0) from rfl)
   have hf6:=R5z.frozen 6
   obtain ⟨SA,OA⟩:=R5z.setK 4 (.slice (some ⟨gx,0,none⟩) P.vn P.vn)
   have hx6b:=(SA.cell 6).trans (show _ = some (Value.slice none 0 0) from rfl)
   have hf6b:=SA.frozen 6
   have kA:Kb w.heap.size [35] z2 _:=kb_off R5z (by omega) OA
   have hc3:=hc2.trans kA
   refine wpAnyG.one 9 (by as_aux_lemma=>kernel_rfl) (by decide) (by rfl) (fun K hK=>?_)
   simp only [lgA,lgZ,lgS]
   go_simp
   refine hK _ _ ⟨fun _=>HBX _ hc3,fun _=>trivial⟩ ?_
   clear hK K
   refine wpAnyG.one 10 (by as_aux_lemma=>kernel_rfl) (by decide) (by rfl) (fun K hK=>?_)
   simp only [lgA,lgZ,lgS]
   go_simp
   refine hK _ _ ⟨fun _=>HBX _ hc3,fun _=>trivial⟩ ?_
   clear hK K
   refine wpAnyG.one 11 (by as_aux_lemma=>kernel_rfl) (by decide) (by rfl) (fun K hK=>?_)
   simp only [lgA,lgZ,lgS]
   go_simp
   refine hK _ _ ⟨fun h=>absurd h (by decide),fun _=>trivial⟩ ?_
   clear hK K
   refine wpAnyG.done (by as_aux_lemma=>kernel_rfl) (NoPanic.normal ?_)
   obtain ⟨SB,OB⟩:=SA.setK 6 (.slice (some ⟨gz,0,none⟩) P.vn P.vn)
   have O2:=OA.trans OB
   have kB:Kb w.heap.size [35] z2 ((z2.setCell ⟨w.heap.size + 2,4,none⟩ (.slice (some ⟨gx,0,none⟩) P.vn P.vn)).setCell ⟨w.heap.size + 2,6,none⟩ (.slice (some ⟨gz,0,none⟩) P.vn P.vn)):=kb_off R5z (by omega) O2
   have R5f:Rw 35 ((z2.setCell ⟨w.heap.size + 2,4,none⟩ (.slice (some ⟨gx,0,none⟩) P.vn P.vn)).setCell ⟨w.heap.size + 2,6,none⟩ (.slice (some ⟨gz,0,none⟩) P.vn P.vn)) (w.heap.size + 2) #[.int .i64 3,.bool false,.slice none 0 0,.slice none 0 0,.slice (some ⟨gx,0,none⟩) P.vn P.vn,.slice none 0 0,.slice (some ⟨gz,0,none⟩) P.vn P.vn]:=SB
   have R4f:Rw 35 ((z2.setCell ⟨w.heap.size + 2,4,none⟩ (.slice (some ⟨gx,0,none⟩) P.vn P.vn)).setCell ⟨w.heap.size + 2,6,none⟩ (.slice (some ⟨gz,0,none⟩) P.vn P.vn)) (w.heap.size + 1) #[.int .i64 0,.bool false,.slice none 0 0,.slice none 0 0,.slice none 0 0,.slice none 0 0,.slice none 0 0]:=R4z.off O2 (by omega)
   have MX:Rm ((z2.setCell ⟨w.heap.size + 2,4,none⟩ (.slice (some ⟨gx,0,none⟩) P.vn P.vn)).setCell ⟨w.heap.size + 2,6,none⟩ (.slice (some ⟨gz,0,none⟩) P.vn P.vn)) w.heap.size gx P.vn:=((Mgx.below hbgz).kb kB (by decide)).lo (by have:=hc0.size;have:=hc1.size;omega)
   have MZ:Rm ((z2.setCell ⟨w.heap.size + 2,4,none⟩ (.slice (some ⟨gx,0,none⟩) P.vn P.vn)).setCell ⟨w.heap.size + 2,6,none⟩ (.slice (some ⟨gz,0,none⟩) P.vn P.vn)) w.heap.size gz P.vn:=((Mgz).kb kB (by decide)).lo (by have:=hc0.size;have:=hc1.size;omega)
   have hne:gx ≠ gz:=by have:=hzgx;have:=hqgz;omega
   have hbF:Below w.heap.size w ((z2.setCell ⟨w.heap.size + 2,4,none⟩ (.slice (some ⟨gx,0,none⟩) P.vn P.vn)).setCell ⟨w.heap.size + 2,6,none⟩ (.slice (some ⟨gz,0,none⟩) P.vn P.vn)):=hb3.trans (hc2.trans kB).below
   clear SA SB OA OB O2 kA kB R4z R5z hx4 hf4 hx6 hf6 hx6b hf6b hc0 hc1 hc2 hc3 HBX hqgx hqgz hzgx hzgz Mgx Mgz hbgx hbgz hD0 R4 R5
   generalize (z2.setCell ⟨w.heap.size + 2,4,none⟩ (.slice (some ⟨gx,0,none⟩) P.vn P.vn)).setCell ⟨w.heap.size + 2,6,none⟩ (.slice (some ⟨gz,0,none⟩) P.vn P.vn) = Wf at *
   have y0:=(R5f.cell 0).trans (show _ = some (Value.int .i64 3) from rfl)
   have y1:=(R5f.cell 1).trans (show _ = some (Value.bool false) from rfl)
   have y2:=(R5f.cell 2).trans (show _ = some (Value.slice none 0 0) from rfl)
   have y3:=(R5f.cell 3).trans (show _ = some (Value.slice none 0 0) from rfl)
   have y4:=(R5f.cell 4).trans (show _ = some (Value.slice (some ⟨gx,0,none⟩) P.vn P.vn) from rfl)
   have y5:=(R5f.cell 5).trans (show _ = some (Value.slice none 0 0) from rfl)
   have y6:=(R5f.cell 6).trans (show _ = some (Value.slice (some ⟨gz,0,none⟩) P.vn P.vn) from rfl)
   have z0':=(R4f.cell 0).trans (show _ = some (Value.int .i64 0) from rfl)
   have zf0:=R4f.frozen 0
   have z1':=(R4f.cell 1).trans (show _ = some (Value.bool false) from rfl)
   have zf1:=R4f.frozen 1
   have z2':=(R4f.cell 2).trans (show _ = some (Value.slice none 0 0) from rfl)
   have zf2:=R4f.frozen 2
   have z3':=(R4f.cell 3).trans (show _ = some (Value.slice none 0 0) from rfl)
   have zf3:=R4f.frozen 3
   have z4':=(R4f.cell 4).trans (show _ = some (Value.slice none 0 0) from rfl)
   have zf4:=R4f.frozen 4
   have z5':=(R4f.cell 5).trans (show _ = some (Value.slice none 0 0) from rfl)
   have zf5:=R4f.frozen 5
   have z6':=(R4f.cell 6).trans (show _ = some (Value.slice none 0 0) from rfl)
   have zf6:=R4f.frozen 6
   obtain ⟨R9,O9⟩:=Rw.sevK (b0:=.int .i64 3) (b1:=.bool false) (b2:=.slice none 0 0) (b3:=.slice none 0 0) (b4:=.slice (some ⟨gx,0,none⟩) P.vn P.vn) (b5:=.slice none 0 0) (b6:=.slice (some ⟨gz,0,none⟩) P.vn P.vn) R4f
   go_wp2
   have kk:Kb w.heap.size [35] Wf _:=kb_off R4f (by omega) O9
   exact bodyPost_ret (R9.ret1 Tryz.results18 _ rfl Tryz.underlying35 certI2) rfl ⟨gx,0,gz,.inr (MX.kb kk (by decide)),.inl rfl,.inr (MZ.kb kk (by decide)),(fun h=>by cases h),fun _=>hne,hbF.trans (O9.below (by omega)),rfl⟩
  ·have R5z:=(R5.below hD0).below hbgx
   have R4z:=(R4.below hD0).below hbgx
   have hx4:=(R5z.cell 4).trans (show _ = some (Value.slice none 0 0) from rfl)
   have hf4:=R5z.frozen 4
   obtain ⟨SA,OA⟩:=R5z.setK 4 (.slice (some ⟨gx,0,none⟩) P.vn P.vn)
   have kA:Kb w.heap.size [35] z1 (z1.setCell ⟨w.heap.size + 2,4,none⟩ (.slice (some ⟨gx,0,none⟩) P.vn P.vn)):=kb_off R5z (by omega) OA
   have hc2:=hc1.trans kA
   have M2:=Mgx.kb kA (by decide)
   have R4y:=R4z.off OA (by omega)
   simp only [lgA,lgZ,lgS]
   go_simp
   have hzV:(z1.setCell ⟨w.heap.size + 2,4,none⟩ (.slice (some ⟨gx,0,none⟩) P.vn P.vn)).heap.size = gx + 1:=OA.size.trans hzgx
   generalize z1.setCell ⟨w.heap.size + 2,4,none⟩ (.slice (some ⟨gx,0,none⟩) P.vn P.vn) = z1' at *
   refine hK _ _ ⟨fun _=>HBX _ hc2,fun _=>trivial⟩ ?_
   clear hK K
   refine wpAnyG.one 7 (by as_aux_lemma=>kernel_rfl) (by decide) (by rfl) (fun K hK=>?_)
   simp only [lgA,lgZ,lgS]
   refine wp_makeR z1' _ _ rfl P.vn rfl rfl (by omega) ?_
   intro z2 Mgz hbgz hzgz
   obtain ⟨gz,hqgz⟩:∃ gz,z1'.heap.size = gz:=⟨_,rfl⟩
   rw [hqgz] at Mgz hzgz ⊢
   have hc3:Kb w.heap.size [35] W3 z2:=hc2.bel hbgz hFU
   refine hK _ _ ⟨fun _=>HBX _ hc3,fun _=>trivial⟩ ?_
   clear hK K
   refine wpAnyG.one 10 (by as_aux_lemma=>kernel_rfl) (by decide) (by rfl) (fun K hK=>?_)
   simp only [lgA,lgZ,lgS]
   go_simp
   refine hK _ _ ⟨fun _=>HBX _ hc3,fun _=>trivial⟩ ?_
   clear hK K
   have R5y:=Rw.below (w:=z1') SA hbgz
   have hx6:=(R5y.cell 6).trans (show _ = some (Value.slice none 0 0) from rfl)
   have hf6:=R5y.frozen 6
   refine wpAnyG.one 11 (by as_aux_lemma=>kernel_rfl) (by decide) (by rfl) (fun K hK=>?_)
   simp only [lgA,lgZ,lgS]
   go_simp
   refine hK _ _ ⟨fun h=>absurd h (by decide),fun _=>trivial⟩ ?_
   clear hK K
   refine wpAnyG.done (by as_aux_lemma=>kernel_rfl) (NoPanic.normal ?_)
   obtain ⟨SB,OB⟩:=R5y.setK 6 (.slice (some ⟨gz,0,none⟩) P.vn P.vn)
   have kB:Kb w.heap.size [35] z2 (z2.setCell ⟨w.heap.size + 2,6,none⟩ (.slice (some ⟨gz,0,none⟩) P.vn P.vn)):=kb_off R5y (by omega) OB
   have R5f:Rw 35 (z2.setCell ⟨w.heap.size + 2,6,none⟩ (.slice (some ⟨gz,0,none⟩) P.vn P.vn)) (w.heap.size + 2) #[.int .i64 3,.bool false,.slice none 0 0,.slice none 0 0,.slice (some ⟨gx,0,none⟩) P.vn P.vn,.slice none 0 0,.slice (some ⟨gz,0,none⟩) P.vn P.vn]:=SB
   have R4f:Rw 35 (z2.setCell ⟨w.heap.size + 2,6,none⟩ (.slice (some ⟨gz,0,none⟩) P.vn P.vn)) (w.heap.size + 1) #[.int .i64 0,.bool false,.slice none 0 0,.slice none 0 0,.slice none 0 0,.slice none 0 0,.slice none 0 0]:=(R4y.below hbgz).off OB (by omega)
   have MX:Rm (z2.setCell ⟨w.heap.size + 2,6,none⟩ (.slice (some ⟨gz,0,none⟩) P.vn P.vn)) w.heap.size gx P.vn:=((M2.below hbgz).kb kB (by decide)).lo (by have:=hc0.size;omega)
   have MZ:Rm (z2.setCell ⟨w.heap.size + 2,6,none⟩ (.slice (some ⟨gz,0,none⟩) P.vn P.vn)) w.heap.size gz P.vn:=(Mgz.kb kB (by decide)).lo (by have:=hc0.size;have:=hc1.size;omega)
   have hne:gx ≠ gz:=by omega
   have hbF:Below w.heap.size w (z2.setCell ⟨w.heap.size + 2,6,none⟩ (.slice (some ⟨gz,0,none⟩) P.vn P.vn)):=hb3.trans (hc3.trans kB).below
   clear SA SB OB kA kB R4z R5z R4y R5y hx4 hf4 hx6 hf6 hc0 hc1 hc2 hc3 HBX hqgx hqgz hzgx hzgz Mgx Mgz M2 hbgx hbgz hD0 R4 R5
   generalize z2.setCell ⟨w.heap.size + 2,6,none⟩ (.slice (some ⟨gz,0,none⟩) P.vn P.vn) = Wf at *
   have y0:=(R5f.cell 0).trans (show _ = some (Value.int .i64 3) from rfl)
   have y1:=(R5f.cell 1).trans (show _ = some (Value.bool false) from rfl)
   have y2:=(R5f.cell 2).trans (show _ = some (Value.slice none 0 0) from rfl)
   have y3:=(R5f.cell 3).trans (show _ = some (Value.slice none 0 0) from rfl)
   have y4:=(R5f.cell 4).trans (show _ = some (Value.slice (some ⟨gx,0,none⟩) P.vn P.vn) from rfl)
   have y5:=(R5f.cell 5).trans (show _ = some (Value.slice none 0 0) from rfl)
   have y6:=(R5f.cell 6).trans (show _ = some (Value.slice (some ⟨gz,0,none⟩) P.vn P.vn) from rfl)
   have z0':=(R4f.cell 0).trans (show _ = some (Value.int .i64 0) from rfl)
   have zf0:=R4f.frozen 0
   have z1':=(R4f.cell 1).trans (show _ = some (Value.bool false) from rfl)
   have zf1:=R4f.frozen 1
   have z2':=(R4f.cell 2).trans (show _ = some (Value.slice none 0 0) from rfl)
   have zf2:=R4f.frozen 2
   have z3':=(R4f.cell 3).trans (show _ = some (Value.slice none 0 0) from rfl)
   have zf3:=R4f.frozen 3
   have z4':=(R4f.cell 4).trans (show _ = some (Value.slice none 0 0) from rfl)
   have zf4:=R4f.frozen 4
   have z5':=(R4f.cell 5).trans (show _ = some (Value.slice none 0 0) from rfl)
   have zf5:=R4f.frozen 5
   have z6':=(R4f.cell 6).trans (show _ = some (Value.slice none 0 0) from rfl)
   have zf6:=R4f.frozen 6
   obtain ⟨R9,O9⟩:=Rw.sevK (b0:=.int .i64 3) (b1:=.bool false) (b2:=.slice none 0 0) (b3:=.slice none 0 0) (b4:=.slice (some ⟨gx,0,none⟩) P.vn P.vn) (b5:=.slice none 0 0) (b6:=.slice (some ⟨gz,0,none⟩) P.vn P.vn) R4f
   go_wp2
   have kk:Kb w.heap.size [35] Wf _:=kb_off R4f (by omega) O9
   exact bodyPost_ret (R9.ret1 Tryz.results18 _ rfl Tryz.underlying35 certI2) rfl ⟨gx,0,gz,.inr (MX.kb kk (by decide)),.inl rfl,.inr (MZ.kb kk (by decide)),(fun h=>by cases h),fun _=>hne,hbF.trans (O9.below (by omega)),rfl⟩
 ·simp only [lgA,lgZ,lgS]
  refine wp_makeR z0 _ _ rfl P.vn rfl rfl (by omega) ?_
  intro z1 Mgz hbgz hzgz
  obtain ⟨gz,hqgz⟩:∃ gz,z0.heap.size = gz:=⟨_,rfl⟩
  rw [hqgz] at Mgz hzgz ⊢
  have hc1:Kb w.heap.size [35] W3 z1:=hc0.bel hbgz hFU
  refine hK _ _ ⟨fun _=>HBX _ hc1,fun _=>trivial⟩ ?_
  clear hK K
  refine wpAnyG.one 3 (by as_aux_lemma=>kernel_rfl) (by decide) (by rfl) (fun K hK=>?_)
  simp only [lgA,lgZ,lgS]
  refine wp_makeR z1 _ _ rfl P.vn rfl rfl (by omega) ?_
  intro z2 Mgx hbgx hzgx
  obtain ⟨gx,hqgx⟩:∃ gx,z1.heap.size = gx:=⟨_,rfl⟩
  rw [hqgx] at Mgx hzgx ⊢
  have hc2:Kb w.heap.size [35] W3 z2:=hc1.bel hbgx hFU
  refine hK _ _ ⟨fun _=>HBX _ hc2,fun _=>trivial⟩ ?_
  clear hK K
  have R5z:=((R5.below hD0).below hbgz).below hbgx
  have R4z:=((R4.below hD0).below hbgz).below hbgx
  have hx4:=(R5z.cell 4).trans (show _ = some (Value.slice none 0 0) from rfl)
  have hf4:=R5z.frozen 4
  have hx6:=(R5z.cell 6).trans (show _ = some (Value.slice none 0 0) from rfl)
  have hf6:=R5z.frozen 6
  obtain ⟨SA,OA⟩:=R5z.setK 4 (.slice (some ⟨gx,0,none⟩) P.vn P.vn)
  have hx6b:=(SA.cell 6).trans (show _ = some (Value.slice none 0 0) from rfl)
  have hf6b:=SA.frozen 6
  have kA:Kb w.heap.size [35] z2 _:=kb_off R5z (by omega) OA
  have hc3:=hc2.trans kA
  refine wpAnyG.one 8 (by as_aux_lemma=>kernel_rfl) (by decide) (by rfl) (fun K hK=>?_)
  simp only [lgA,lgZ,lgS]
  go_simp
  refine hK _ _ ⟨fun _=>HBX _ hc2,fun _=>trivial⟩ ?_
  clear hK K
  refine wpAnyG.one 9 (by as_aux_lemma=>kernel_rfl) (by decide) (by rfl) (fun K hK=>?_)
  simp only [lgA,lgZ,lgS]
  go_simp
  refine hK _ _ ⟨fun _=>HBX _ hc3,fun _=>trivial⟩ ?_
  clear hK K
  refine wpAnyG.one 10 (by as_aux_lemma=>kernel_rfl) (by decide) (by rfl) (fun K hK=>?_)
  simp only [lgA,lgZ,lgS]
  go_simp
  refine hK _ _ ⟨fun _=>HBX _ hc3,fun _=>trivial⟩ ?_
  clear hK K
  refine wpAnyG.one 11 (by as_aux_lemma=>kernel_rfl) (by decide) (by rfl) (fun K hK=>?_)
  simp only [lgA,lgZ,lgS]
  go_simp
  refine hK _ _ ⟨fun h=>absurd h (by decide),fun _=>trivial⟩ ?_
  clear hK K
  refine wpAnyG.done (by as_aux_lemma=>kernel_rfl) (NoPanic.normal ?_)
  obtain ⟨SB,OB⟩:=SA.setK 6 (.slice (some ⟨gz,0,none⟩) P.vn P.vn)
  have O2:=OA.trans OB
  have kB:Kb w.heap.size [35] z2 ((z2.setCell ⟨w.heap.size + 2,4,none⟩ (.slice (some ⟨gx,0,none⟩) P.vn P.vn)).setCell ⟨w.heap.size + 2,6,none⟩ (.slice (some ⟨gz,0,none⟩) P.vn P.vn)):=kb_off R5z (by omega) O2
  have R5f:Rw 35 ((z2.setCell ⟨w.heap.size + 2,4,none⟩ (.slice (some ⟨gx,0,none⟩) P.vn P.vn)).setCell ⟨w.heap.size + 2,6,none⟩ (.slice (some ⟨gz,0,none⟩) P.vn P.vn)) (w.heap.size + 2) #[.int .i64 3,.bool false,.slice none 0 0,.slice none 0 0,.slice (some ⟨gx,0,none⟩) P.vn P.vn,.slice none 0 0,.slice (some ⟨gz,0,none⟩) P.vn P.vn]:=SB
  have R4f:Rw 35 ((z2.setCell ⟨w.heap.size + 2,4,none⟩ (.slice (some ⟨gx,0,none⟩) P.vn P.vn)).setCell ⟨w.heap.size + 2,6,none⟩ (.slice (some ⟨gz,0,none⟩) P.vn P.vn)) (w.heap.size + 1) #[.int .i64 0,.bool false,.slice none 0 0,.slice none 0 0,.slice none 0 0,.slice none 0 0,.slice none 0 0]:=R4z.off O2 (by omega)
  have MX:Rm ((z2.setCell ⟨w.heap.size + 2,4,none⟩ (.slice (some ⟨gx,0,none⟩) P.vn P.vn)).setCell ⟨w.heap.size + 2,6,none⟩ (.slice (some ⟨gz,0,none⟩) P.vn P.vn)) w.heap.size gx P.vn:=((Mgx).kb kB (by decide)).lo (by have:=hc0.size;have:=hc1.size;omega)
  have MZ:Rm ((z2.setCell ⟨w.heap.size + 2,4,none⟩ (.slice (some ⟨gx,0,none⟩) P.vn P.vn)).setCell ⟨w.heap.size + 2,6,none⟩ (.slice (some ⟨gz,0,none⟩) P.vn P.vn)) w.heap.size gz P.vn:=((Mgz.below hbgx).kb kB (by decide)).lo (by have:=hc0.size;have:=hc1.size;omega)
  have hne:gx ≠ gz:=by have:=hzgz;have:=hqgx;omega
  have hbF:Below w.heap.size w ((z2.setCell ⟨w.heap.size + 2,4,none⟩ (.slice (some ⟨gx,0,none⟩) P.vn P.vn)).setCell ⟨w.heap.size + 2,6,none⟩ (.slice (some ⟨gz,0,none⟩) P.vn P.vn)):=hb3.trans (hc2.trans kB).below
  clear SA SB OA OB O2 kA kB R4z R5z hx4 hf4 hx6 hf6 hx6b hf6b hc0 hc1 hc2 hc3 HBX hqgx hqgz hzgx hzgz Mgx Mgz hbgx hbgz hD0 R4 R5
  generalize (z2.setCell ⟨w.heap.size + 2,4,none⟩ (.slice (some ⟨gx,0,none⟩) P.vn P.vn)).setCell ⟨w.heap.size + 2,6,none⟩ (.slice (some ⟨gz,0,none⟩) P.vn P.vn) = Wf at *
  have y0:=(R5f.cell 0).trans (show _ = some (Value.int .i64 3) from rfl)
  have y1:=(R5f.cell 1).trans (show _ = some (Value.bool false) from rfl)
  have y2:=(R5f.cell 2).trans (show _ = some (Value.slice none 0 0) from rfl)
  have y3:=(R5f.cell 3).trans (show _ = some (Value.slice none 0 0) from rfl)
  have y4:=(R5f.cell 4).trans (show _ = some (Value.slice (some ⟨gx,0,none⟩) P.vn P.vn) from rfl)
  have y5:=(R5f.cell 5).trans (show _ = some (Value.slice none 0 0) from rfl)
  have y6:=(R5f.cell 6).trans (show _ = some (Value.slice (some ⟨gz,0,none⟩) P.vn P.vn) from rfl)
  have z0':=(R4f.cell 0).trans (show _ = some (Value.int .i64 0) from rfl)
  have zf0:=R4f.frozen 0
  have z1':=(R4f.cell 1).trans (show _ = some (Value.bool false) from rfl)
  have zf1:=R4f.frozen 1
  have z2':=(R4f.cell 2).trans (show _ = some (Value.slice none 0 0) from rfl)
  have zf2:=R4f.frozen 2
  have z3':=(R4f.cell 3).trans (show _ = some (Value.slice none 0 0) from rfl)
  have zf3:=R4f.frozen 3
  have z4':=(R4f.cell 4).trans (show _ = some (Value.slice none 0 0) from rfl)
  have zf4:=R4f.frozen 4
  have z5':=(R4f.cell 5).trans (show _ = some (Value.slice none 0 0) from rfl)
  have zf5:=R4f.frozen 5
  have z6':=(R4f.cell 6).trans (show _ = some (Value.slice none 0 0) from rfl)
  have zf6:=R4f.frozen 6
  obtain ⟨R9,O9⟩:=Rw.sevK (b0:=.int .i64 3) (b1:=.bool false) (b2:=.slice none 0 0) (b3:=.slice none 0 0) (b4:=.slice (some ⟨gx,0,none⟩) P.vn P.vn) (b5:=.slice none 0 0) (b6:=.slice (some ⟨gz,0,none⟩) P.vn P.vn) R4f
  go_wp2
  have kk:Kb w.heap.size [35] Wf _:=kb_off R4f (by omega) O9
  exact bodyPost_ret (R9.ret1 Tryz.results18 _ rfl Tryz.underlying35 certI2) rfl ⟨gx,0,gz,.inr (MX.kb kk (by decide)),.inl rfl,.inr (MZ.kb kk (by decide)),(fun h=>by cases h),fun _=>hne,hbF.trans (O9.below (by omega)),rfl⟩
theorem nl_of {w:World} {F g n:Nat} {X:Nat→Rat} {cur:Array Value} (hF:F≤g) (hn:n≤10000000) (hg:w.heap[g]? = some (.cells cur 27 (0,0))) (hs:cur.size = n * 3) (h:∀ j,j < n→Num3 w F g (j * 3) (X j)):NL w F (.slice (some ⟨g,0,none⟩) n n) n X:=by
 have hc:∀ o,w.cell? ⟨g,o,none⟩ = cur[o]?:=fun o=>cell_of_row w g o cur _ (0,0) hg
 refine ⟨fun i=>(cur.toList.drop (i * 3)).take 3,⟨cur.toList,⟨by simpa using hs,.inr ⟨g,n,cur,rfl,hF,hg,Nat.le_refl _,by unfold maxLen;omega,hs,List.take_of_length_le (by simp [hs])⟩⟩,fun i hi j u hu=>?_⟩,fun i hi=>?_⟩
 ·have hj:j < 3:=by
   have:=(List.getElem?_eq_some_iff.1 hu).1
   simp only [List.length_take,List.length_drop] at this
   omega
  refine ⟨hj,?_⟩
  rw [List.getElem?_take,if_pos hj,List.getElem?_drop] at hu
  exact hu
 ·obtain ⟨f,c,m,k,c',m',k',h0,h1,h2,G⟩:=h i hi
  refine ⟨f,c,m,k,c',m',k',?_,G⟩
  rw [hc] at h0 h1 h2
  have l0:i * 3 < cur.toList.length:=by rw [Array.length_toList];omega
  have l1:i * 3 + 1 < cur.toList.length:=by rw [Array.length_toList];omega
  have l2:i * 3 + 2 < cur.toList.length:=by rw [Array.length_toList];omega
  have e0:cur.toList[i * 3] = .bool f:=by have:=Array.getElem?_toList (xs:=cur) (i:=i * 3);rw [h0,List.getElem?_eq_getElem l0] at this;simpa using this
  have e1:cur.toList[i * 3 + 1] = .slice c m k:=by have:=Array.getElem?_toList (xs:=cur) (i:=i * 3 + 1);rw [h1,List.getElem?_eq_getElem l1] at this;simpa using this
  have e2:cur.toList[i * 3 + 2] = .slice c' m' k':=by have:=Array.getElem?_toList (xs:=cur) (i:=i * 3 + 2);rw [h2,List.getElem?_eq_getElem l2] at this;simpa using this
  show (cur.toList.drop (i * 3)).take 3 = _
  rw [List.drop_eq_getElem_cons l0,List.drop_eq_getElem_cons l1,List.drop_eq_getElem_cons l2,e0,e1,e2]
  rfl
theorem wr_all {w:World} {F v vn rn C gx gy gz:Nat} {cc:Array Value} (hC:w.heap[C]? = some (.cells cc 35 (0,0))) (hc7:cc.size = 7) (hCF:F≤C) (hx:v = 2∨Rm w F gx vn) (hy:v = 3∨Rm w F gy rn) (hz:¬ v = 3∨Rm w F gz vn) (hv:1≤v∧v≤3):∀ t,t < lnsN v vn rn→∀ k,k < lnsK v vn rn t→Wr w F (dst v vn C gx gy gz t k):=by
 intro t ht k hk
 have hh:hdV v = 1∨hdV v = 2:=by unfold hdV;split <;> omega
 have hN:nvV v vn = if v = 2 then 0 else vn:=rfl
 have hM:nrV v rn = if v = 3 then 0 else rn:=rfl
 unfold lnsK at hk
 unfold lnsN at ht
 unfold dst
 by_cases a1:t < hdV v
 ·rw [if_pos a1]
  exact ⟨⟨cc,_,hC,.inr rfl,by rw [hc7];omega⟩,hCF⟩
 rw [if_neg a1]
 rw [if_neg (by omega),if_neg a1] at hk
 by_cases a2:t < hdV v + nvV v vn
 ·rw [if_pos a2]
  rw [if_pos a2] at hk
  have h2:¬ v = 2:=fun e=>by rw [e] at a2 a1;rw [show nvV 2 vn = 0 from rfl] at a2;omega
  rw [if_neg h2] at hN
  by_cases a3:k = 0
  ·rw [if_pos a3]
   obtain ⟨h3,cur,h4,h5⟩:=hx.resolve_left h2
   exact ⟨⟨cur,_,h4,.inl rfl,by rw [h5];show (t - hdV v) * 3 + 3≤vn * 3;omega⟩,h3⟩
  ·rw [if_neg a3]
   have h6:v = 3:=by
    rcases (by omega:v = 3∨¬ v = 3) with e | e
    ·exact e
    ·rw [if_neg e] at hk;omega
   obtain ⟨h3,cur,h4,h5⟩:=hz.resolve_left (fun h=>h h6)
   exact ⟨⟨cur,_,h4,.inl rfl,by rw [h5];show (t - hdV v) * 3 + 3≤vn * 3;omega⟩,h3⟩
 ·rw [if_neg a2]
  rw [if_neg a2] at hk
  by_cases a4:t < hdV v + nvV v vn + nrV v rn
  ·have h2:¬ v = 3:=fun e=>by rw [if_pos e] at hM;omega
   rw [if_neg h2] at hM
   obtain ⟨h3,cur,h4,h5⟩:=hy.resolve_left h2
   exact ⟨⟨cur,_,h4,.inl rfl,by rw [h5];show (t - hdV v - nvV v vn) * 3 + 3≤rn * 3;omega⟩,h3⟩
  ·rw [if_neg a4] at hk;omega
theorem Num3.gr {w:World} {F g o:Nat} {r:Rat} (h:Num3 w F g o r):∃ f c n k c' n' k',w.cell? ⟨g,o,none⟩ = some (.bool f)∧w.cell? ⟨g,o + 1,none⟩ = some (.slice c n k)∧w.cell? ⟨g,o + 2,none⟩ = some (.slice c' n' k')∧GR w F f c n k c' n' k' r 5000000:=h
def ReadP (P:Prob) (s:ByteArray) (ev:Value) (w:World) (en:Ending) (w':World):Prop :=
 Below w.heap.size w w'∧((∃ v R cs,1≤v∧v≤3∧¬ Whl19 P∧Ans v P.vn (vnm P) P.rn (unm P) s.data.toList R∧CtQ w' w.heap.size v P.vn P.rn R cs∧en = .returned (.tuple #[.agg cs,.nilIface])) ∨
  ((Whl19 P∨NoAns P.vn (vnm P) P.rn (unm P) s.data.toList)∧en = .returned (.tuple #[.agg #[.int .i64 0,.bool false,.slice none 0 0,.slice none 0 0,.slice none 0 0,.slice none 0 0,.slice none 0 0],ev])))
theorem mall_at {v vn rn C gx gy gz o n:Nat} (h:Mall n (lnsK v vn rn) (dst v vn C gx gy gz) C o) (h1:C ≠ gx) (h2:C ≠ gy) (h3:C ≠ gz):v = 1∧1≤o∧o < 4:=by
 obtain ⟨t,_,k,hk,e1,e2,e3⟩:=h
 unfold dst at e1 e2 e3
 unfold lnsK at hk
 by_cases a1:t < hdV v
 ·rw [if_pos a1] at e2 e3
  refine ⟨?_,e2,e3⟩
  unfold hdV at a1
  by_cases e:v = 1
  ·exact e
  ·rw [if_neg e] at a1
   rw [if_pos (by omega)] at hk
   omega
 ·rw [if_neg a1] at e1
  by_cases a2:t < hdV v + nvV v vn
  ·rw [if_pos a2] at e1
   by_cases a3:k = 0
   ·rw [if_pos a3] at e1;exact absurd e1 h1
   ·rw [if_neg a3] at e1;exact absurd e1 h3
  ·rw [if_neg a2] at e1;exact absurd e1 h2
end Go.Proofs.YtnkpbjmfdfjeiaaGreatDoor

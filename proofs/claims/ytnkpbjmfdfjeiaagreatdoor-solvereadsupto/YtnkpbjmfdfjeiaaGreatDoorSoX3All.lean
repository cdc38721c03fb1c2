import Derived.Test.YtnkpbjmfdfjeiaaGreatDoorSoVAll
import Derived.Test.YtnkpbjmfdfjeiaaGreatDoorRlAll
import Derived.Laws.OwnMore
namespace Go.Proofs.YtnkpbjmfdfjeiaaGreatDoor
open Go.RowKit
set_option maxRecDepth 100000 in
set_option maxHeartbeats 16000000 in
theorem certL3 (P:Prob) {C gx gy gz xc:Nat} (w:World) (hP:PQ w P) (hK0:P.K≤1048576) (RC:Rw 35 w C #[.int .i64 3,.bool false,.slice none 0 0,.slice none 0 0,.slice (some ⟨gx,0,none⟩) P.vn xc,.slice none 0 0,.slice (some ⟨gz,0,none⟩) P.vn xc]) :
  Calls Tryz.prog 20 #[P.val,.pointer (some ⟨C,0,none⟩)] w fun e w'=>CertR P 3 C gx gy gz w e w':=by
 have hvn:P.vn≤1048576:=by have:=hP.all;have:=tot_len P.ZV P.vn;omega
 have hrn:P.rn≤1048576:=by have:=hP.all;have:=tot_len P.ZR P.rn;omega
 have HPW:Hid (PQ w P):=hP
 clear hP
 unfold Prob.val
 have hb0:=bel_d0 w (.cells #[.bool P.mx,.string P.nm,.bool P.p,.slice P.a P.na P.ca,.slice P.d P.nd P.cd,.slice P.va P.vn P.vc,.slice P.ra P.rn P.rc] 31)
 have RB:=Rw.new 31 w #[.bool P.mx,.string P.nm,.bool P.p,.slice P.a P.na P.ca,.slice P.d P.nd P.cd,.slice P.va P.vn P.vc,.slice P.ra P.rn P.rc]
 replace RC:=RC.below hb0
 have c0:=(RC.cell 0).trans (show _ = some (Value.int .i64 3) from rfl)
 obtain ⟨B,hBw⟩:∃ B,w.heap.size = B:=⟨_,rfl⟩
 have HBW:Hid (w.heap.size = B):=hBw
 rw [hBw] at RB hb0
 go_enter Tryz.func20,Tryz.ntmps20
 go_wp2_with fail
 clear hBw
 have hs1:B≤(w.alloc (.cells #[.bool P.mx,.string P.nm,.bool P.p,.slice P.a P.na P.ca,.slice P.d P.nd P.cd,.slice P.va P.vn P.vc,.slice P.ra P.rn P.rc] 31)).heap.size:=by rw [← HBW.out];simp
 generalize w.alloc (.cells #[.bool P.mx,.string P.nm,.bool P.p,.slice P.a P.na P.ca,.slice P.d P.nd P.cd,.slice P.va P.vn P.vc,.slice P.ra P.rn P.rc] 31) = W1 at *
 refine (wordOf3 W1).mono ?_
 rintro e w1 ⟨rfl,rfl⟩
 have hL1:LsQ (w1.alloc (.cells #[.string ⟨#[117,110,98,111,117,110,100,101,100]⟩,.slice none 0 0] 78)) B (.slice (some ⟨w1.heap.size,0,none⟩) 1 1) 1 (fun _=>wdV 3) (fun _=>0) (fun _ _=>(0,0)):=ls_one (c:=#[.string ⟨#[117,110,98,111,117,110,100,101,100]⟩,.slice none 0 0]) ⟨_,_,rfl,rfl,SL.nil _ _ _ _ _⟩ hs1
 have hx:=bel_d0 w1 (.cells #[.string ⟨#[117,110,98,111,117,110,100,101,100]⟩,.slice none 0 0] 78)
 replace RB:=RB.below hx
 replace RC:=RC.below hx
 have hbU:Below B w (w1.alloc (.cells #[.string ⟨#[117,110,98,111,117,110,100,101,100]⟩,.slice none 0 0] 78)):=hb0.trans (hx.mono hs1)
 have hBU:B≤(w1.alloc (.cells #[.string ⟨#[117,110,98,111,117,110,100,101,100]⟩,.slice none 0 0] 78)).heap.size:=Nat.le_trans hs1 hx.size
 replace c0:=kept_c hx c0
 clear hx hb0
 obtain ⟨la,lc,hlv⟩:∃ la lc,(Value.slice (some ⟨w1.heap.size,0,none⟩) 1 1) = .slice la 1 lc:=⟨_,_,rfl⟩
 go_wp2_with fail
 generalize w1.heap.size = h1 at *
 generalize w1.alloc (.cells #[.string ⟨#[117,110,98,111,117,110,100,101,100]⟩,.slice none 0 0] 78) = U1 at *
 have hLU:=hL1
 clear hL1 c0
 have HBX:∀ w',Kb B [78] U1 w'→w'.cell? ⟨B,5,none⟩ = some (.slice P.va P.vn P.vc)∧w'.cell? ⟨C,4,none⟩ = some (.slice (some ⟨gx,0,none⟩) P.vn xc)∧w'.cell? ⟨C,6,none⟩ = some (.slice (some ⟨gz,0,none⟩) P.vn xc):=fun w' k=>⟨((RB.kb k (by decide)).cell 5).trans rfl,((RC.kb k (by decide)).cell 4).trans rfl,((RC.kb k (by decide)).cell 6).trans rfl⟩
 have hD0:=bel_d1 U1
 refine wp_region_noPanic (wp_region_guard (Till 14 14 (fun w'=>w'.cell? ⟨B,5,none⟩ = some (.slice P.va P.vn P.vc)∧w'.cell? ⟨C,4,none⟩ = some (.slice (some ⟨gx,0,none⟩) P.vn xc)∧w'.cell? ⟨C,6,none⟩ = some (.slice (some ⟨gz,0,none⟩) P.vn xc)) (fun _=>True)) (by as_aux_lemma=>kernel_rfl) ?_)
 have hc0:Kb B [78] U1 U1.drew:=(Kb.refl B [78] U1).drew
 generalize U1.drew = z0 at *
 refine wpAnyG.tT 0 (v:=.slice (some ⟨h1,0,none⟩) 1 1) (by decide) 14 (by as_aux_lemma=>kernel_rfl) (by rfl) ?y0 (HBX _ hc0) ?_
 case y0 =>
  rintro w' ⟨q0,q1,q2⟩
  simp only [lgA,lgZ]
  go_simp
 simp only [lgA,lgZ,Act.put,lsA,lsZ,lsS]
 refine wpAnyG.tT 1 (v:=.pointer (some ⟨B,5,none⟩)) (by decide) 14 (by as_aux_lemma=>kernel_rfl) (by rfl) ?y1 (HBX _ hc0) ?_
 case y1 =>
  rintro w' ⟨q0,q1,q2⟩
  simp only [lgA,lgZ,lgS]
  go_simp
 simp only [lgA,lgZ,lgS,Act.put,lsA,lsZ,lsS]
 refine wpAnyG.tT 2 (v:=.slice P.va P.vn P.vc) (by decide) 14 (by as_aux_lemma=>kernel_rfl) (by rfl) ?y2 (HBX _ hc0) ?_
 case y2 =>
  rintro w' ⟨q0,q1,q2⟩
  simp only [lgA,lgZ,lgS]
  go_simp
 simp only [lgA,lgZ,lgS,Act.put,lsA,lsZ,lsS]
 refine wpAnyG.tT 3 (v:=.pointer (some ⟨C,0,none⟩)) (by decide) 14 (by as_aux_lemma=>kernel_rfl) (by rfl) ?y3 (HBX _ hc0) ?_
 case y3 =>
  rintro w' ⟨q0,q1,q2⟩
  simp only [lgA,lgZ,lgS]
  go_simp
 simp only [lgA,lgZ,lgS,Act.put,lsA,lsZ,lsS]
 refine wpAnyG.tT 4 (v:=.pointer (some ⟨C,0,none⟩)) (by decide) 14 (by as_aux_lemma=>kernel_rfl) (by rfl) ?y4 (HBX _ hc0) ?_
 case y4 =>
  rintro w' ⟨q0,q1,q2⟩
  simp only [lgA,lgZ,lgS]
  go_simp
 simp only [lgA,lgZ,lgS,Act.put,lsA,lsZ,lsS]
 refine wpAnyG.tT 5 (v:=.pointer (some ⟨C,4,none⟩)) (by decide) 14 (by as_aux_lemma=>kernel_rfl) (by rfl) ?y5 (HBX _ hc0) ?_
 case y5 =>
  rintro w' ⟨q0,q1,q2⟩
  simp only [lgA,lgZ,lgS]
  go_simp
 simp only [lgA,lgZ,lgS,Act.put,lsA,lsZ,lsS]
 refine wpAnyG.tT 6 (v:=.slice (some ⟨gx,0,none⟩) P.vn xc) (by decide) 14 (by as_aux_lemma=>kernel_rfl) (by rfl) ?y6 (HBX _ hc0) ?_
 case y6 =>
  rintro w' ⟨q0,q1,q2⟩
  simp only [lgA,lgZ,lgS]
  go_simp
 simp only [lgA,lgZ,lgS,Act.put,lsA,lsZ,lsS]
 refine wpAnyG.tT 7 (v:=.pointer (some ⟨C,0,none⟩)) (by decide) 14 (by as_aux_lemma=>kernel_rfl) (by rfl) ?y7 (HBX _ hc0) ?_
 case y7 =>
  rintro w' ⟨q0,q1,q2⟩
  simp only [lgA,lgZ,lgS]
  go_simp
 simp only [lgA,lgZ,lgS,Act.put,lsA,lsZ,lsS]
 refine wpAnyG.tT 8 (v:=.pointer (some ⟨C,0,none⟩)) (by decide) 14 (by as_aux_lemma=>kernel_rfl) (by rfl) ?y8 (HBX _ hc0) ?_
 case y8 =>
  rintro w' ⟨q0,q1,q2⟩
  simp only [lgA,lgZ,lgS]
  go_simp
 simp only [lgA,lgZ,lgS,Act.put,lsA,lsZ,lsS]
 refine wpAnyG.tT 9 (v:=.pointer (some ⟨C,6,none⟩)) (by decide) 14 (by as_aux_lemma=>kernel_rfl) (by rfl) ?y9 (HBX _ hc0) ?_
 case y9 =>
  rintro w' ⟨q0,q1,q2⟩
  simp only [lgA,lgZ,lgS]
  go_simp
 simp only [lgA,lgZ,lgS,Act.put,lsA,lsZ,lsS]
 refine wpAnyG.tT 10 (v:=.slice (some ⟨gz,0,none⟩) P.vn xc) (by decide) 14 (by as_aux_lemma=>kernel_rfl) (by rfl) ?y10 (HBX _ hc0) ?_
 case y10 =>
  rintro w' ⟨q0,q1,q2⟩
  simp only [lgA,lgZ,lgS]
  go_simp
 simp only [lgA,lgZ,lgS,Act.put,lsA,lsZ,lsS]
 refine wpAnyG.one 11 (by as_aux_lemma=>kernel_rfl) (by decide) (by rfl) (fun K hK=>?_)
 simp only [lgA,lgZ,lgS]
 go_simp
 have hy:=bel_d0 z0 (.cells #[.slice (some ⟨gx,0,none⟩) P.vn xc,.slice (some ⟨gz,0,none⟩) P.vn xc] 33)
 have BX:=box_new z0 #[.slice (some ⟨gx,0,none⟩) P.vn xc,.slice (some ⟨gz,0,none⟩) P.vn xc] 33
 have hc1:Kb B [78] U1 (z0.alloc (.cells #[.slice (some ⟨gx,0,none⟩) P.vn xc,.slice (some ⟨gz,0,none⟩) P.vn xc] 33)):=hc0.bel hy hBU
 obtain ⟨hz,hHz⟩:∃ hz,z0.heap.size = hz:=⟨_,rfl⟩
 rw [hHz] at BX ⊢
 generalize z0.alloc (.cells #[.slice (some ⟨gx,0,none⟩) P.vn xc,.slice (some ⟨gz,0,none⟩) P.vn xc] 33) = z1 at *
 refine hK _ _ ⟨fun _=>HBX _ hc1,fun _=>trivial⟩ ?_
 clear hK K
 refine wpAnyG.one 12 (by as_aux_lemma=>kernel_rfl) (by decide) (by rfl) (fun K hK=>?_)
 simp only [lgA,lgZ,lgS]
 go_simp
 refine (varLinesQ P (q:=2) (gl:=hz) (vc:=xc) (G:=(fun k=>if k = 0 then gx else gz)) z1 (HPW.out.below (by rw [HBW.out];exact (hbU.trans hc1.below))) hK0 (by decide) (fun k hk=>by rcases (by omega:k = 0∨k = 1) with rfl | rfl <;> first | exact BX 0 _ rfl | exact BX 1 _ rfl)).mono ?_
 rintro e z2 ⟨g2,rfl,hV2,hk2⟩
 have hc2:Kb B [78] U1 z2:=hc1.bel hk2 hBU
 dsimp only
 refine hK _ _ ⟨fun _=>HBX _ hc2,fun _=>trivial⟩ ?_
 clear hK K
 refine wpAnyG.one 13 (by as_aux_lemma=>kernel_rfl) (by decide) (by rfl) (fun K hK=>?_)
 simp only [lgA,lgZ,lgS]
 refine wp_appL z2 _ _ rfl (F:=B) (n:=1) (q:=P.vn) (v:=.slice (some ⟨h1,0,none⟩) 1 1) rfl rfl (hLU.below (bel_tr (bel_tr hD0 hy) hk2)) (hV2.mono (by have:=hc1.size;omega)) (by omega) (by omega) (by have:=hc2.size;omega) ?_
 intro lv3 w8 hL3 kA
 have hc3:Kb B [78] U1 w8:=hc2.trans kA
 refine hK _ _ ⟨fun _=>HBX _ hc3,fun _=>trivial⟩ ?_
 clear hK K
 refine wpAnyG.one 14 (by as_aux_lemma=>kernel_rfl) (by decide) (by rfl) (fun K hK=>?_)
 simp only [lgA,lgZ,lgS]
 go_simp
 refine hK _ _ ⟨fun h=>absurd h (by decide),fun _=>trivial⟩ ?_
 clear hK K
 refine wpAnyG.done (by as_aux_lemma=>kernel_rfl) (NoPanic.normal ?_)
 have hbN:=hbU.trans hc3.below
 have hBN:=Nat.le_trans hBU hc3.size
 clear HBX hc0 hc1 BX hy hc2 hc3 hk2 kA hV2 RB RC hbU hLU
 obtain ⟨l4a,l4c,rfl⟩:=hL3.form
 have hLE:LsQ (w8.alloc (.cells #[.string ⟨#[101,110,100]⟩,.slice none 0 0] 78)) B (.slice (some ⟨w8.heap.size,0,none⟩) 1 1) 1 (fun _=>wEnd) (fun _=>0) (fun _ _=>(0,0)):=ls_one (c:=#[.string ⟨#[101,110,100]⟩,.slice none 0 0]) ⟨_,_,rfl,rfl,SL.nil _ _ _ _ _⟩ hBN
 have hx:=bel_d0 w8 (.cells #[.string ⟨#[101,110,100]⟩,.slice none 0 0] 78)
 replace hL3:=hL3.below hx
 replace hbN:=hbN.trans (hx.mono hBN)
 replace hBN:=Nat.le_trans hBN hx.size
 clear hx
 go_wp2_with (refine wpList_appL _ rfl _ _ rfl (F:=B) (q:=1) rfl rfl hL3 hLE (by omega) (by decide) hBN ?_)
 intro lv5 w10 hL5 kE
 obtain ⟨l5a,l5c,rfl⟩:=hL5.form
 go_wp2
 go_ret
 have hn:lnsN 3 P.vn P.rn = 1 + P.vn + 1:=by unfold lnsN hdV nvV nrV;simp
 refine ⟨l5a,l5c,by rw [hn];rfl,?_,by rw [HBW.out];exact hbN.trans kE.below⟩
 rw [HBW.out,hn]
 refine hL5.congr fun t ht=>?_
 exact lines3 P C gx gy gz t (by omega)
theorem Rw.sevK {t:TypeId} {w:World} {R:Nat} {a0 a1 a2 a3 a4 a5 a6:Value} {b0 b1 b2 b3 b4 b5 b6:Value} (h:Rw t w R #[a0,a1,a2,a3,a4,a5,a6]) :
  Rw t (((((((w.setCell ⟨R,0,none⟩ b0).setCell ⟨R,1,none⟩ b1).setCell ⟨R,2,none⟩ b2).setCell ⟨R,3,none⟩ b3).setCell ⟨R,4,none⟩ b4).setCell ⟨R,5,none⟩ b5).setCell ⟨R,6,none⟩ b6) R #[b0,b1,b2,b3,b4,b5,b6]∧Off R w (((((((w.setCell ⟨R,0,none⟩ b0).setCell ⟨R,1,none⟩ b1).setCell ⟨R,2,none⟩ b2).setCell ⟨R,3,none⟩ b3).setCell ⟨R,4,none⟩ b4).setCell ⟨R,5,none⟩ b5).setCell ⟨R,6,none⟩ b6):=by
 refine ⟨?_,(((((((Off.refl _ _).set 0 b0).set 1 b1).set 2 b2).set 3 b3).set 4 b4).set 5 b5).set 6 b6⟩
 have:=(((((((h.setK 0 b0).1.setK 1 b1).1.setK 2 b2).1.setK 3 b3).1.setK 4 b4).1.setK 5 b5).1.setK 6 b6).1
 simpa using this
def Rm (w:World) (F g n:Nat):Prop:=F≤g∧∃ cur:Array Value,w.heap[g]? = some (.cells cur 27 (0,0))∧cur.size = n * 3
theorem Rm.kb {w w':World} {F F' g n:Nat} {L:List TypeId} (h:Rm w F g n) (k:Kb F' L w w') (hL:27 ∉ L):Rm w' F g n:=by
 obtain ⟨h1,cur,h2,h3⟩:=h
 exact ⟨h1,cur,(k.high g _ _ _ h2 hL).trans h2,h3⟩
theorem Rm.below {w w':World} {F g n:Nat} (h:Rm w F g n) (hb:Below w.heap.size w w'):Rm w' F g n:=h.kb (kb_bel [] hb (Nat.le_refl _)) (by decide)
theorem Rm.lo {w:World} {F F' g n:Nat} (h:Rm w F g n) (hF:F'≤F):Rm w F' g n:=⟨Nat.le_trans hF h.1,h.2⟩
theorem Rm.lt {w:World} {F g n:Nat} (h:Rm w F g n):g < w.heap.size:=by
 obtain ⟨_,cur,h2,_⟩:=h
 exact (Array.getElem?_eq_some_iff.1 h2).1
theorem wp_makeR (w:World) {o:Oper} {a:Act} {KK:Act→World→Prop} {Q:Exit→Act→World→Prop} (l c:Operand) (hop:o.op = Op.makeSlice 33 l c)
  (n:Nat) (hl:a.eval l = .int .i64 (n:Int)) (hc:a.eval c = .int .i64 (n:Int)) (hn:n≤100000000)
  (h:∀ w',Rm w' w.heap.size w.heap.size n→Below w.heap.size w w'→w'.heap.size = w.heap.size + 1→KK (a.put o.dst (.slice (some ⟨w.heap.size,0,none⟩) n n)) w'):Oper.wp Tryz.prog o a w KK Q:=by
 obtain ⟨i0,z,hi,hz,hs3,hb56,hz3⟩:=info3
 have hr:=run_make (P:=Tryz.prog) w 33 27 i0 z Tryz.underlying33 hi hz .i64 .i64 (n:Int) (n:Int) (by omega) (Int.le_refl _) (by rw [hb56];omega) (by omega)
 simp only [Int.toNat_natCast] at hr
 unfold Oper.wp execOp
 simp only [hop,Sem.run_bind,Sem.run_pure,Result.andThen_ok,hl,hc,hr]
 exact h _ ⟨Nat.le_refl _,_,heap_alloc_new w _,by rw [size_madeCells,hs3]⟩ (bel_d0 w _) (by simp)
theorem wpList_makeR (w:World) {ops:Array Oper} {rest:List Oper} {o:Oper} {a:Act} {Q:Exit→Act→World→Prop} (hg:o.guard = none) (l c:Operand) (hop:o.op = Op.makeSlice 33 l c)
  (n:Nat) (hl:a.eval l = .int .i64 (n:Int)) (hc:a.eval c = .int .i64 (n:Int)) (hn:n≤100000000)
  (h:∀ (g:Nat) w',w.heap.size = g→Rm w' g g n→Below g w w'→w'.heap.size = g + 1→wpList Tryz.prog ops Q rest (a.put o.dst (.slice (some ⟨g,0,none⟩) n n)) w'):wpList Tryz.prog ops Q (o :: rest) a w :=
 wpList_plain hg fun _ hK'=>wp_makeR w l c hop n hl hc hn fun w' h1 h2 h3=>hK' _ _ (h _ w' rfl h1 h2 h3)
def BlkR (P:Prob) (v:Nat) (w:World) (e:Ending) (w':World):Prop :=
 ∃ gx gy gz,(v = 2∨Rm w' w.heap.size gx P.vn)∧(v = 3∨Rm w' w.heap.size gy P.rn)∧(¬ v = 3∨Rm w' w.heap.size gz P.vn)∧(v = 1→gx ≠ gy)∧(v = 3→gx ≠ gz)∧Below w.heap.size w w' ∧
  e = .returned (.agg #[.int .i64 (v:Int),.bool false,.slice none 0 0,.slice none 0 0,if v = 2 then .slice none 0 0 else .slice (some ⟨gx,0,none⟩) P.vn P.vn,if v = 3 then .slice none 0 0 else .slice (some ⟨gy,0,none⟩) P.rn P.rn,if v = 3 then .slice (some ⟨gz,0,none⟩) P.vn P.vn else .slice none 0 0])
theorem certI2:(Tryz.prog.info? 35).map (·.size) = some 7:=by kernel_rfl
set_option maxRecDepth 100000 in
set_option maxHeartbeats 16000000 in
theorem blank1 (P:Prob) (w:World) (hP:PQ w P) (hK:P.K≤1048576):Calls Tryz.prog 18 #[P.val,.int .i64 1] w fun e w'=>BlkR P 1 w e w':=by
 have hvn:P.vn≤1048576:=by have:=hP.all;have:=tot_len P.ZV P.vn;omega
 have hrn:P.rn≤1048576:=by have:=hP.all;have:=tot_len P.ZR P.rn;omega
 clear hP
 unfold Prob.val
 obtain ⟨B0,B1,B2,hb3,hs3⟩:=boxc3 w #[.bool P.mx,.string P.nm,.bool P.p,.slice P.a P.na P.ca,.slice P.d P.nd P.cd,.slice P.va P.vn P.vc,.slice P.ra P.rn P.rc] 31 #[.int .i64 0,.bool false,.slice none 0 0,.slice none 0 0,.slice none 0 0,.slice none 0 0,.slice none 0 0] 35 #[.int .i64 1,.bool false,.slice none 0 0,.slice none 0 0,.slice none 0 0,.slice none 0 0,.slice none 0 0] 35
 have R4:Rw 35 (((w.alloc (.cells #[.bool P.mx,.string P.nm,.bool P.p,.slice P.a P.na P.ca,.slice P.d P.nd P.cd,.slice P.va P.vn P.vc,.slice P.ra P.rn P.rc] 31)).alloc (.cells #[.int .i64 0,.bool false,.slice none 0 0,.slice none 0 0,.slice none 0 0,.slice none 0 0,.slice none 0 0] 35)).alloc (.cells #[.int .i64 1,.bool false,.slice none 0 0,.slice none 0 0,.slice none 0 0,.slice none 0 0,.slice none 0 0] 35)) (w.heap.size + 1) #[.int .i64 0,.bool false,.slice none 0 0,.slice none 0 0,.slice none 0 0,.slice none 0 0,.slice none 0 0]:=by
  have:=(Rw.new 35 (w.alloc (.cells #[.bool P.mx,.string P.nm,.bool P.p,.slice P.a P.na P.ca,.slice P.d P.nd P.cd,.slice P.va P.vn P.vc,.slice P.ra P.rn P.rc] 31)) #[.int .i64 0,.bool false,.slice none 0 0,.slice none 0 0,.slice none 0 0,.slice none 0 0,.slice none 0 0]).below (bel_d0 _ (.cells #[.int .i64 1,.bool false,.slice none 0 0,.slice none 0 0,.slice none 0 0,.slice none 0 0,.slice none 0 0] 35))
  rwa [show (w.alloc (.cells #[.bool P.mx,.string P.nm,.bool P.p,.slice P.a P.na P.ca,.slice P.d P.nd P.cd,.slice P.va P.vn P.vc,.slice P.ra P.rn P.rc] 31)).heap.size = w.heap.size + 1 by simp] at this
 have R5:Rw 35 (((w.alloc (.cells #[.bool P.mx,.string P.nm,.bool P.p,.slice P.a P.na P.ca,.slice P.d P.nd P.cd,.slice P.va P.vn P.vc,.slice P.ra P.rn P.rc] 31)).alloc (.cells #[.int .i64 0,.bool false,.slice none 0 0,.slice none 0 0,.slice none 0 0,.slice none 0 0,.slice none 0 0] 35)).alloc (.cells #[.int .i64 1,.bool false,.slice none 0 0,.slice none 0 0,.slice none 0 0,.slice none 0 0,.slice none 0 0] 35)) (w.heap.size + 2) #[.int .i64 1,.bool false,.slice none 0 0,.slice none 0 0,.slice none 0 0,.slice none 0 0,.slice none 0 0]:=by
  have:=Rw.new 35 ((w.alloc (.cells #[.bool P.mx,.string P.nm,.bool P.p,.slice P.a P.na P.ca,.slice P.d P.nd P.cd,.slice P.va P.vn P.vc,.slice P.ra P.rn P.rc] 31)).alloc (.cells #[.int .i64 0,.bool false,.slice none 0 0,.slice none 0 0,.slice none 0 0,.slice none 0 0,.slice none 0 0] 35)) #[.int .i64 1,.bool false,.slice none 0 0,.slice none 0 0,.slice none 0 0,.slice none 0 0,.slice none 0 0]
  rwa [show ((w.alloc (.cells #[.bool P.mx,.string P.nm,.bool P.p,.slice P.a P.na P.ca,.slice P.d P.nd P.cd,.slice P.va P.vn P.vc,.slice P.ra P.rn P.rc] 31)).alloc (.cells #[.int .i64 0,.bool false,.slice none 0 0,.slice none 0 0,.slice none 0 0,.slice none 0 0,.slice none 0 0] 35)).heap.size = w.heap.size + 2 by simp] at this
 have p5:=B0 5 _ rfl
 have p6:=B0 6 _ rfl
 clear B0 B1 B2
 have HS3:Hid ((((w.alloc (.cells #[.bool P.mx,.string P.nm,.bool P.p,.slice P.a P.na P.ca,.slice P.d P.nd P.cd,.slice P.va P.vn P.vc,.slice P.ra P.rn P.rc] 31)).alloc (.cells #[.int .i64 0,.bool false,.slice none 0 0,.slice none 0 0,.slice none 0 0,.slice none 0 0,.slice none 0 0] 35)).alloc (.cells #[.int .i64 1,.bool false,.slice none 0 0,.slice none 0 0,.slice none 0 0,.slice none 0 0,.slice none 0 0] 35)).heap.size = w.heap.size + 3):=hs3
 clear hs3
 go_enter Tryz.func18,Tryz.ntmps18
 go_wp2_with (refine wpList_makeR _ rfl _ _ rfl P.vn rfl rfl (by omega) ?_)
 generalize ((w.alloc (.cells #[.bool P.mx,.string P.nm,.bool P.p,.slice P.a P.na P.ca,.slice P.d P.nd P.cd,.slice P.va P.vn P.vc,.slice P.ra P.rn P.rc] 31)).alloc (.cells #[.int .i64 0,.bool false,.slice none 0 0,.slice none 0 0,.slice none 0 0,.slice none 0 0,.slice none 0 0] 35)).alloc (.cells #[.int .i64 1,.bool false,.slice none 0 0,.slice none 0 0,.slice none 0 0,.slice none 0 0,.slice none 0 0] 35) = W3 at *
 have hs3:=HS3.out
 intro gx wx hqx Mx hbx hzx
 have hgx:W3.heap.size = gx:=by first | exact hqx | omega
 rw [← hgx] at hbx
 replace R4:=R4.below hbx
 replace R5:=R5.below hbx
 replace p5:=kept_c hbx p5
 replace p6:=kept_c hbx p6
 have hcx:=(R5.cell 4).trans (show _ = some (Value.slice none 0 0) from rfl)
 have hfx:=R5.frozen 4
 obtain ⟨Sx,Ox⟩:=R5.setK 4 (.slice (some ⟨gx,0,none⟩) P.vn P.vn)
 have kx:Kb w.heap.size [35] wx _:=kb_off R5 (by omega) Ox
 have blx:Below w.heap.size w _:=(hb3.trans (hbx.mono (by omega))).trans kx.below
 replace hb3:=blx
 replace Mx:=Mx.kb kx (by decide)
 replace R4:=R4.off Ox (by omega)
 replace R5:=Sx
 replace p5:=(World.cell?_of_block (w:=wx) (a:=⟨w.heap.size,5,none⟩) (Ox.block w.heap.size (by omega))).trans p5
 replace p6:=(World.cell?_of_block (w:=wx) (a:=⟨w.heap.size,6,none⟩) (Ox.block w.heap.size (by omega))).trans p6
 have hsx:W3.heap.size≤wx.heap.size:=by omega
 have hszx:(wx.setCell ⟨w.heap.size + 2,4,none⟩ (.slice (some ⟨gx,0,none⟩) P.vn P.vn)).heap.size = wx.heap.size:=Ox.size
 clear Ox Sx blx
 go_wp2_with (refine wpList_makeR _ rfl _ _ rfl P.rn rfl rfl (by omega) ?_)
 clear hcx hfx
 generalize wx.setCell ⟨w.heap.size + 2,4,none⟩ (.slice (some ⟨gx,0,none⟩) P.vn P.vn) = Vx at *
 intro gy wy hqy My hby hzy
 have hgy:Vx.heap.size = gy:=by first | exact hqy | omega
 rw [← hgy] at hby
 replace R4:=R4.below hby
 replace R5:=R5.below hby
 replace p5:=kept_c hby p5
 replace p6:=kept_c hby p6
 replace Mx:=Mx.below hby
 have hcy:=(R5.cell 5).trans (show _ = some (Value.slice none 0 0) from rfl)
 have hfy:=R5.frozen 5
 obtain ⟨Sy,Oy⟩:=R5.setK 5 (.slice (some ⟨gy,0,none⟩) P.rn P.rn)
 have ky:Kb w.heap.size [35] wy _:=kb_off R5 (by omega) Oy
 have bly:Below w.heap.size w _:=(hb3.trans (hby.mono (by omega))).trans ky.below
 replace hb3:=bly
 replace My:=My.kb ky (by decide)
 replace Mx:=Mx.kb ky (by decide)
 replace R4:=R4.off Oy (by omega)
 replace R5:=Sy
 replace p5:=(World.cell?_of_block (w:=wy) (a:=⟨w.heap.size,5,none⟩) (Oy.block w.heap.size (by omega))).trans p5
 replace p6:=(World.cell?_of_block (w:=wy) (a:=⟨w.heap.size,6,none⟩) (Oy.block w.heap.size (by omega))).trans p6
 have hsy:W3.heap.size≤wy.heap.size:=by omega
 have hszy:(wy.setCell ⟨w.heap.size + 2,5,none⟩ (.slice (some ⟨gy,0,none⟩) P.rn P.rn)).heap.size = wy.heap.size:=Oy.size
 clear Oy Sy bly
 have y0:=(R5.cell 0).trans (show _ = some (Value.int .i64 1) from rfl)
 have y1:=(R5.cell 1).trans (show _ = some (Value.bool false) from rfl)
 have y2:=(R5.cell 2).trans (show _ = some (Value.slice none 0 0) from rfl)
 have y3:=(R5.cell 3).trans (show _ = some (Value.slice none 0 0) from rfl)
 have y4:=(R5.cell 4).trans (show _ = some (Value.slice (some ⟨gx,0,none⟩) P.vn P.vn) from rfl)
 have y5:=(R5.cell 5).trans (show _ = some (Value.slice (some ⟨gy,0,none⟩) P.rn P.rn) from rfl)
 have y6:=(R5.cell 6).trans (show _ = some (Value.slice none 0 0) from rfl)
 have z0:=(R4.cell 0).trans (show _ = some (Value.int .i64 0) from rfl)
 have zf0:=R4.frozen 0
 have z1:=(R4.cell 1).trans (show _ = some (Value.bool false) from rfl)
 have zf1:=R4.frozen 1
 have z2:=(R4.cell 2).trans (show _ = some (Value.slice none 0 0) from rfl)
 have zf2:=R4.frozen 2
 have z3:=(R4.cell 3).trans (show _ = some (Value.slice none 0 0) from rfl)
 have zf3:=R4.frozen 3
 have z4:=(R4.cell 4).trans (show _ = some (Value.slice none 0 0) from rfl)
 have zf4:=R4.frozen 4
 have z5:=(R4.cell 5).trans (show _ = some (Value.slice none 0 0) from rfl)
 have zf5:=R4.frozen 5
 have z6:=(R4.cell 6).trans (show _ = some (Value.slice none 0 0) from rfl)
 have zf6:=R4.frozen 6
 obtain ⟨R9,O9⟩:=Rw.sevK (b0:=.int .i64 1) (b1:=.bool false) (b2:=.slice none 0 0) (b3:=.slice none 0 0) (b4:=.slice (some ⟨gx,0,none⟩) P.vn P.vn) (b5:=.slice (some ⟨gy,0,none⟩) P.rn P.rn) (b6:=.slice none 0 0) R4
 go_wp2
 have kk:Kb w.heap.size [35] (wy.setCell ⟨w.heap.size + 2,5,none⟩ (.slice (some ⟨gy,0,none⟩) P.rn P.rn)) _:=kb_off R4 (by omega) O9
 refine bodyPost_ret (R9.ret1 Tryz.results18 _ rfl Tryz.underlying35 certI2) rfl ?_
 exact ⟨gx,gy,0,.inr ((Mx.kb kk (by decide)).lo (by omega)),.inr ((My.kb kk (by decide)).lo (by omega)),.inl (by decide),fun _=>by omega,(fun h=>by cases h),hb3.trans (O9.below (by omega)),rfl⟩
set_option maxRecDepth 100000 in
set_option maxHeartbeats 16000000 in
theorem blank2 (P:Prob) (w:World) (hP:PQ w P) (hK:P.K≤1048576):Calls Tryz.prog 18 #[P.val,.int .i64 2] w fun e w'=>BlkR P 2 w e w':=by
 have hvn:P.vn≤1048576:=by have:=hP.all;have:=tot_len P.ZV P.vn;omega
 have hrn:P.rn≤1048576:=by have:=hP.all;have:=tot_len P.ZR P.rn;omega
 clear hP
 unfold Prob.val
 obtain ⟨B0,B1,B2,hb3,hs3⟩:=boxc3 w #[.bool P.mx,.string P.nm,.bool P.p,.slice P.a P.na P.ca,.slice P.d P.nd P.cd,.slice P.va P.vn P.vc,.slice P.ra P.rn P.rc] 31 #[.int .i64 0,.bool false,.slice none 0 0,.slice none 0 0,.slice none 0 0,.slice none 0 0,.slice none 0 0] 35 #[.int .i64 2,.bool false,.slice none 0 0,.slice none 0 0,.slice none 0 0,.slice none 0 0,.slice none 0 0] 35
 have R4:Rw 35 (((w.alloc (.cells #[.bool P.mx,.string P.nm,.bool P.p,.slice P.a P.na P.ca,.slice P.d P.nd P.cd,.slice P.va P.vn P.vc,.slice P.ra P.rn P.rc] 31)).alloc (.cells #[.int .i64 0,.bool false,.slice none 0 0,.slice none 0 0,.slice none 0 0,.slice none 0 0,.slice none 0 0] 35)).alloc (.cells #[.int .i64 2,.bool false,.slice none 0 0,.slice none 0 0,.slice none 0 0,.slice none 0 0,.slice none 0 0] 35)) (w.heap.size + 1) #[.int .i64 0,.bool false,.slice none 0 0,.slice none 0 0,.slice none 0 0,.slice none 0 0,.slice none 0 0]:=by
  have:=(Rw.new 35 (w.alloc (.cells #[.bool P.mx,.string P.nm,.bool P.p,.slice P.a P.na P.ca,.slice P.d P.nd P.cd,.slice P.va P.vn P.vc,.slice P.ra P.rn P.rc] 31)) #[.int .i64 0,.bool false,.slice none 0 0,.slice none 0 0,.slice none 0 0,.slice none 0 0,.slice none 0 0]).below (bel_d0 _ (.cells #[.int .i64 2,.bool false,.slice none 0 0,.slice none 0 0,.slice none 0 0,.slice none 0 0,.slice none 0 0] 35))
  rwa [show (w.alloc (.cells #[.bool P.mx,.string P.nm,.bool P.p,.slice P.a P.na P.ca,.slice P.d P.nd P.cd,.slice P.va P.vn P.vc,.slice P.ra P.rn P.rc] 31)).heap.size = w.heap.size + 1 by simp] at this
 have R5:Rw 35 (((w.alloc (.cells #[.bool P.mx,.string P.nm,.bool P.p,.slice P.a P.na P.ca,.slice P.d P.nd P.cd,.slice P.va P.vn P.vc,.slice P.ra P.rn P.rc] 31)).alloc (.cells #[.int .i64 0,.bool false,.slice none 0 0,.slice none 0 0,.slice none 0 0,.slice none 0 0,.slice none 0 0] 35)).alloc (.cells #[.int .i64 2,.bool false,.slice none 0 0,.slice none 0 0,.slice none 0 0,.slice none 0 0,.slice none 0 0] 35)) (w.heap.size + 2) #[.int .i64 2,.bool false,.slice none 0 0,.slice none 0 0,.slice none 0 0,.slice none 0 0,.slice none 0 0]:=by
  have:=Rw.new 35 ((w.alloc (.cells #[.bool P.mx,.string P.nm,.bool P.p,.slice P.a P.na P.ca,.slice P.d P.nd P.cd,.slice P.va P.vn P.vc,.slice P.ra P.rn P.rc] 31)).alloc (.cells #[.int .i64 0,.bool false,.slice none 0 0,.slice none 0 0,.slice none 0 0,.slice none 0 0,.slice none 0 0] 35)) #[.int .i64 2,.bool false,.slice none 0 0,.slice none 0 0,.slice none 0 0,.slice none 0 0,.slice none 0 0]
  rwa [show ((w.alloc (.cells #[.bool P.mx,.string P.nm,.bool P.p,.slice P.a P.na P.ca,.slice P.d P.nd P.cd,.slice P.va P.vn P.vc,.slice P.ra P.rn P.rc] 31)).alloc (.cells #[.int .i64 0,.bool false,.slice none 0 0,.slice none 0 0,.slice none 0 0,.slice none 0 0,.slice none 0 0] 35)).heap.size = w.heap.size + 2 by simp] at this
 have p5:=B0 5 _ rfl
 have p6:=B0 6 _ rfl
 clear B0 B1 B2
 have HS3:Hid ((((w.alloc (.cells #[.bool P.mx,.string P.nm,.bool P.p,.slice P.a P.na P.ca,.slice P.d P.nd P.cd,.slice P.va P.vn P.vc,.slice P.ra P.rn P.rc] 31)).alloc (.cells #[.int .i64 0,.bool false,.slice none 0 0,.slice none 0 0,.slice none 0 0,.slice none 0 0,.slice none 0 0] 35)).alloc (.cells #[.int .i64 2,.bool false,.slice none 0 0,.slice none 0 0,.slice none 0 0,.slice none 0 0,.slice none 0 0] 35)).heap.size = w.heap.size + 3):=hs3
 clear hs3
 go_enter Tryz.func18,Tryz.ntmps18
 go_wp2_with (refine wpList_makeR _ rfl _ _ rfl P.rn rfl rfl (by omega) ?_)
 generalize ((w.alloc (.cells #[.bool P.mx,.string P.nm,.bool P.p,.slice P.a P.na P.ca,.slice P.d P.nd P.cd,.slice P.va P.vn P.vc,.slice P.ra P.rn P.rc] 31)).alloc (.cells #[.int .i64 0,.bool false,.slice none 0 0,.slice none 0 0,.slice none 0 0,.slice none 0 0,.slice none 0 0] 35)).alloc (.cells #[.int .i64 2,.bool false,.slice none 0 0,.slice none 0 0,.slice none 0 0,.slice none 0 0,.slice none 0 0] 35) = W3 at *
 have hs3:=HS3.out
 intro gy wy hqy My hby hzy
 have hgy:W3.heap.size = gy:=by first | exact hqy | omega
 rw [← hgy] at hby
 replace R4:=R4.below hby
 replace R5:=R5.below hby
 replace p5:=kept_c hby p5
 replace p6:=kept_c hby p6
 have hcy:=(R5.cell 5).trans (show _ = some (Value.slice none 0 0) from rfl)
 have hfy:=R5.frozen 5
 obtain ⟨Sy,Oy⟩:=R5.setK 5 (.slice (some ⟨gy,0,none⟩) P.rn P.rn)
 have ky:Kb w.heap.size [35] wy _:=kb_off R5 (by omega) Oy
 have bly:Below w.heap.size w _:=(hb3.trans (hby.mono (by omega))).trans ky.below
 replace hb3:=bly
 replace My:=My.kb ky (by decide)
 replace R4:=R4.off Oy (by omega)
 replace R5:=Sy
 replace p5:=(World.cell?_of_block (w:=wy) (a:=⟨w.heap.size,5,none⟩) (Oy.block w.heap.size (by omega))).trans p5
 replace p6:=(World.cell?_of_block (w:=wy) (a:=⟨w.heap.size,6,none⟩) (Oy.block w.heap.size (by omega))).trans p6
 have hsy:W3.heap.size≤wy.heap.size:=by omega
 have hszy:(wy.setCell ⟨w.heap.size + 2,5,none⟩ (.slice (some ⟨gy,0,none⟩) P.rn P.rn)).heap.size = wy.heap.size:=Oy.size
 clear Oy Sy bly
 have y0:=(R5.cell 0).trans (show _ = some (Value.int .i64 2) from rfl)
 have y1:=(R5.cell 1).trans (show _ = some (Value.bool false) from rfl)
 have y2:=(R5.cell 2).trans (show _ = some (Value.slice none 0 0) from rfl)
 have y3:=(R5.cell 3).trans (show _ = some (Value.slice none 0 0) from rfl)
 have y4:=(R5.cell 4).trans (show _ = some (Value.slice none 0 0) from rfl)
 have y5:=(R5.cell 5).trans (show _ = some (Value.slice (some ⟨gy,0,none⟩) P.rn P.rn) from rfl)
 have y6:=(R5.cell 6).trans (show _ = some (Value.slice none 0 0) from rfl)
 have z0:=(R4.cell 0).trans (show _ = some (Value.int .i64 0) from rfl)
 have zf0:=R4.frozen 0
 have z1:=(R4.cell 1).trans (show _ = some (Value.bool false) from rfl)
 have zf1:=R4.frozen 1
 have z2:=(R4.cell 2).trans (show _ = some (Value.slice none 0 0) from rfl)
 have zf2:=R4.frozen 2
 have z3:=(R4.cell 3).trans (show _ = some (Value.slice none 0 0) from rfl)
 have zf3:=R4.frozen 3
 have z4:=(R4.cell 4).trans (show _ = some (Value.slice none 0 0) from rfl)
 have zf4:=R4.frozen 4
 have z5:=(R4.cell 5).trans (show _ = some (Value.slice none 0 0) from rfl)
 have zf5:=R4.frozen 5
 have z6:=(R4.cell 6).trans (show _ = some (Value.slice none 0 0) from rfl)
 have zf6:=R4.frozen 6
 obtain ⟨R9,O9⟩:=Rw.sevK (b0:=.int .i64 2) (b1:=.bool false) (b2:=.slice none 0 0) (b3:=.slice none 0 0) (b4:=.slice none 0 0) (b5:=.slice (some ⟨gy,0,none⟩) P.rn P.rn) (b6:=.slice none 0 0) R4
 go_wp2
 have kk:Kb w.heap.size [35] (wy.setCell ⟨w.heap.size + 2,5,none⟩ (.slice (some ⟨gy,0,none⟩) P.rn P.rn)) _:=kb_off R4 (by omega) O9
 refine bodyPost_ret (R9.ret1 Tryz.results18 _ rfl Tryz.underlying35 certI2) rfl ?_
 exact ⟨0,gy,0,.inl rfl,.inr ((My.kb kk (by decide)).lo (by omega)),.inl (by decide),(fun h=>by cases h),(fun h=>by cases h),hb3.trans (O9.below (by omega)),rfl⟩
end Go.Proofs.YtnkpbjmfdfjeiaaGreatDoor

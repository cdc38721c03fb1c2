import Derived.Test.YtceigfafmalfgaaGreatDoorMbH0
import Derived.Test.YtceigfafmalfgaaGreatDoorGuardSAll
namespace Go.Proofs.YtceigfafmalfgaaGreatDoor
open Go.RowKit Go.Maps
set_option maxRecDepth 100000 in
set_option maxHeartbeats 16000000 in
theorem textQ (P:Prob) (w:World) (hP:PQ w P) (hK:P.K≤1048576) :
  Calls Tryz.prog 8 #[P.val] w fun e w'=>∃ ia ic ca cc la lc wa wc,e = .returned (txP P ia ic ca cc la lc wa wc).val∧TX w' (txP P ia ic ca cc la lc wa wc)∧Below w.heap.size w w':=by
 have hvn:P.vn≤1048576:=by have:=hP.all;have:=tot_len P.ZV P.vn;omega
 have hrn:P.rn≤1048576:=by have:=hP.all;have:=tot_len P.ZR P.rn;omega
 have X0:=Rw.new 31 w #[.bool P.mx,.string P.nm,.bool P.p,.slice P.a P.na P.ca,.slice P.d P.nd P.cd,.slice P.va P.vn P.vc,.slice P.ra P.rn P.rc]
 have hb0:=bel_d0 w (.cells #[.bool P.mx,.string P.nm,.bool P.p,.slice P.a P.na P.ca,.slice P.d P.nd P.cd,.slice P.va P.vn P.vc,.slice P.ra P.rn P.rc] 31)
 have es:(w.alloc (.cells #[.bool P.mx,.string P.nm,.bool P.p,.slice P.a P.na P.ca,.slice P.d P.nd P.cd,.slice P.va P.vn P.vc,.slice P.ra P.rn P.rc] 31)).heap.size=w.heap.size+1:=by simp
 have Y0:=Rw.new 43 (w.alloc (.cells #[.bool P.mx,.string P.nm,.bool P.p,.slice P.a P.na P.ca,.slice P.d P.nd P.cd,.slice P.va P.vn P.vc,.slice P.ra P.rn P.rc] 31)) #[.bool false,.string ⟨#[]⟩,.slice none 0 0,.slice none 0 0,.slice none 0 0,.slice none 0 0,.slice none 0 0]
 rw [es] at Y0
 have hb1:=bel_tr hb0 (bel_d0 (w.alloc (.cells #[.bool P.mx,.string P.nm,.bool P.p,.slice P.a P.na P.ca,.slice P.d P.nd P.cd,.slice P.va P.vn P.vc,.slice P.ra P.rn P.rc] 31)) (.cells #[.bool false,.string ⟨#[]⟩,.slice none 0 0,.slice none 0 0,.slice none 0 0,.slice none 0 0,.slice none 0 0] 43))
 replace X0:=X0.below (bel_d0 (w.alloc (.cells #[.bool P.mx,.string P.nm,.bool P.p,.slice P.a P.na P.ca,.slice P.d P.nd P.cd,.slice P.va P.vn P.vc,.slice P.ra P.rn P.rc] 31)) (.cells #[.bool false,.string ⟨#[]⟩,.slice none 0 0,.slice none 0 0,.slice none 0 0,.slice none 0 0,.slice none 0 0] 43))
 have es1:((w.alloc (.cells #[.bool P.mx,.string P.nm,.bool P.p,.slice P.a P.na P.ca,.slice P.d P.nd P.cd,.slice P.va P.vn P.vc,.slice P.ra P.rn P.rc] 31)).alloc (.cells #[.bool false,.string ⟨#[]⟩,.slice none 0 0,.slice none 0 0,.slice none 0 0,.slice none 0 0,.slice none 0 0] 43)).heap.size=w.heap.size+1+1:=by simp
 have y0:=(X0.cell 0).trans (show _=some (.bool P.mx) from rfl)
 have y1:=(X0.cell 1).trans (show _=some (.string P.nm) from rfl)
 have y2:=(X0.cell 2).trans (show _=some (.bool P.p) from rfl)
 have y3:=(X0.cell 3).trans (show _=some (.slice P.a P.na P.ca) from rfl)
 have y4:=(X0.cell 4).trans (show _=some (.slice P.d P.nd P.cd) from rfl)
 unfold Prob.val
 go_enter Tryz.func8,Tryz.ntmps8
 go_wp2
 clear y0 y1 y2 y3 y4 es hb0
 generalize (w.alloc (.cells #[.bool P.mx,.string P.nm,.bool P.p,.slice P.a P.na P.ca,.slice P.d P.nd P.cd,.slice P.va P.vn P.vc,.slice P.ra P.rn P.rc] 31)).alloc (.cells #[.bool false,.string ⟨#[]⟩,.slice none 0 0,.slice none 0 0,.slice none 0 0,.slice none 0 0,.slice none 0 0] 43)=W1 at *
 have S0:=sl_one (w:=W1) (B:=W1.heap.size) (T:=59) (c:=6) (a:=(#[.bool P.p,.slice P.a P.na P.ca,.slice P.d P.nd P.cd,.string ⟨#[]⟩,.int .i64 0,.int .i64 0]).toList) rfl (Nat.le_refl _)
 have hb2:=bel_d0 W1 (.cells #[.bool P.p,.slice P.a P.na P.ca,.slice P.d P.nd P.cd,.string ⟨#[]⟩,.int .i64 0,.int .i64 0] 59)
 have hb3:=bel_tr hb2 (bel_d0 (W1.alloc (.cells #[.bool P.p,.slice P.a P.na P.ca,.slice P.d P.nd P.cd,.string ⟨#[]⟩,.int .i64 0,.int .i64 0] 59)) (.cells #[.bool P.mx,.string P.nm,.slice (some ⟨w.heap.size+1+1,0,none⟩) 1 1,.slice none 0 0,.slice none 0 0,.slice none 0 0,.slice none 0 0] 43))
 have RT0:=Rw.new 43 (W1.alloc (.cells #[.bool P.p,.slice P.a P.na P.ca,.slice P.d P.nd P.cd,.string ⟨#[]⟩,.int .i64 0,.int .i64 0] 59)) #[.bool P.mx,.string P.nm,.slice (some ⟨w.heap.size+1+1,0,none⟩) 1 1,.slice none 0 0,.slice none 0 0,.slice none 0 0,.slice none 0 0]
 rw [show (W1.alloc (.cells #[.bool P.p,.slice P.a P.na P.ca,.slice P.d P.nd P.cd,.string ⟨#[]⟩,.int .i64 0,.int .i64 0] 59)).heap.size=w.heap.size+1+1+1 by simp [es1]] at RT0
 replace S0:=S0.below (bel_d0 (W1.alloc (.cells #[.bool P.p,.slice P.a P.na P.ca,.slice P.d P.nd P.cd,.string ⟨#[]⟩,.int .i64 0,.int .i64 0] 59)) (.cells #[.bool P.mx,.string P.nm,.slice (some ⟨w.heap.size+1+1,0,none⟩) 1 1,.slice none 0 0,.slice none 0 0,.slice none 0 0,.slice none 0 0] 43))
 obtain ⟨B,hB⟩:∃ B,B=W1.heap.size:=⟨_,rfl⟩
 have eB:w.heap.size+1+1=B:=by omega
 rw [← hB] at S0
 rw [eB] at RT0 ⊢
 obtain ⟨RT,hRT⟩:∃ RT,RT=B+1:=⟨_,rfl⟩
 rw [← hRT] at RT0 ⊢
 have TS0:TS P w ((W1.alloc (.cells #[.bool P.p,.slice P.a P.na P.ca,.slice P.d P.nd P.cd,.string ⟨#[]⟩,.int .i64 0,.int .i64 0] 59)).alloc (.cells #[.bool P.mx,.string P.nm,.slice (some ⟨w.heap.size+1+1,0,none⟩) 1 1,.slice none 0 0,.slice none 0 0,.slice none 0 0,.slice none 0 0] 43)) B RT 1 0 0 0 (.slice (some ⟨B,0,none⟩) 1 1) (.slice none 0 0) (.slice none 0 0) (.slice none 0 0):=by
  rw [eB]
  refine ⟨RT0,⟨_,by rw [eB] at S0;exact S0,fun q hq=>?_⟩,⟨fun _=>[],SL.nil _ _ _ _ _,fun q hq=>by omega⟩,⟨fun _=>[],SL.nil _ _ _ _ _,fun q hq=>absurd hq (Nat.not_lt_zero _)⟩,⟨fun _=>[],SL.nil _ _ _ _ _,fun q hq=>by omega⟩,by omega⟩
  obtain rfl:q=0:=by omega
  exact ⟨P.p,P.a,P.na,P.ca,P.d,P.nd,P.cd,rfl,hP.k,hP.s1,hP.sk,by show 0≤_;omega⟩
 have hB1:Below B W1 ((W1.alloc (.cells #[.bool P.p,.slice P.a P.na P.ca,.slice P.d P.nd P.cd,.string ⟨#[]⟩,.int .i64 0,.int .i64 0] 59)).alloc (.cells #[.bool P.mx,.string P.nm,.slice (some ⟨w.heap.size+1+1,0,none⟩) 1 1,.slice none 0 0,.slice none 0 0,.slice none 0 0,.slice none 0 0] 43)):=by rw [hB];exact hb3
 have HB:Hid (B=W1.heap.size∧w.heap.size+1+1=B∧RT=B+1):=⟨hB,eB,hRT⟩
 rw [eB] at TS0 hB1
 clear S0 hb2 hb3 RT0 es1
 generalize (W1.alloc (.cells #[.bool P.p,.slice P.a P.na P.ca,.slice P.d P.nd P.cd,.string ⟨#[]⟩,.int .i64 0,.int .i64 0] 59)).alloc (.cells #[.bool P.mx,.string P.nm,.slice (some ⟨B,0,none⟩) 1 1,.slice none 0 0,.slice none 0 0,.slice none 0 0,.slice none 0 0] 43)=W3 at *
 have hDB:w.heap.size<B:=by omega
 have hDR:¬ w.heap.size=RT:=by omega
 have HD:Hid (w.heap.size<B∧¬ w.heap.size=RT):=⟨hDB,hDR⟩
 have hBw:∀ w9,Below B W1 w9→Below W1.heap.size W1 w9:=fun w9 h=>by rw [← hB];exact h
 have HBW:Hid (∀ w9,Below B W1 w9→Below W1.heap.size W1 w9):=hBw
 have HBS:Hid (∀ w9,Below B W1 w9→B≤w9.heap.size):=fun w9 h=>by rw [hB];exact h.size
 clear hB eB hRT hDB hDR hBw
 go_loopw [4] (fun s4 wr=>∃ (j:Nat) (vI vL vM:Value),j≤P.vn∧s4 = .int .i64 j∧TS P w wr B RT (j+1) j j 0 vI vL vM (.slice none 0 0)∧Below B W1 wr) (fun s4 _=>P.vn-(intOf s4).toNat)
 case atStart=>exact ⟨0,_,_,_,Nat.zero_le _,rfl,TS0,hB1⟩
 case round =>
  clear TS0 hB1
  obtain ⟨j,vI,vL,vM,hj,rfl,h,hB⟩:=hrel
  have x5:=((X0.below (HBW.out _ hB)).cell 5).trans (show _=some (.slice P.va P.vn P.vc) from rfl)
  by_cases hlt:j<P.vn
  ·have hkI:(j:Int)<(P.vn:Int):=by omega
   have hkI2:(j:Int)*13=((j*13:Nat):Int):=by omega
   have hbr:Below w.heap.size w wr:=hb1.trans ((HBW.out _ hB).mono hb1.size)
   rcases hP.v with h0|⟨vb,vo,eva,hel⟩
   ·omega
   have hV:=hel j hlt
   obtain ⟨nm,enm⟩:∃ x,x=(P.V j).nm:=⟨_,rfl⟩
   obtain ⟨hl,ehl⟩:∃ x,x=(P.V j).hlo:=⟨_,rfl⟩
   obtain ⟨hh,ehh⟩:∃ x,x=(P.V j).hhi:=⟨_,rfl⟩
   obtain ⟨wh,ewh⟩:∃ x,x=(P.V j).whole:=⟨_,rfl⟩
   have v0:=kept_c hbr hV.nm
   obtain ⟨p1,a1,n1,k1,d1,m1,l1,v1,v2,v3,t1⟩:=hV.obj
   have v4:=kept_c hbr hV.hlo
   obtain ⟨p2,a2,n2,k2,d2,m2,l2,v5,v6,v7,t2⟩:=hV.lo
   have v8:=kept_c hbr hV.hhi
   obtain ⟨p3,a3,n3,k3,d3,m3,l3,v9,v10,v11,t3⟩:=hV.hi
   have v12:=kept_c hbr hV.whole
   replace v1:=kept_c hbr v1
   replace v2:=kept_c hbr v2
   replace v3:=kept_c hbr v3
   replace v5:=kept_c hbr v5
   replace v6:=kept_c hbr v6
   replace v7:=kept_c hbr v7
   replace v9:=kept_c hbr v9
   replace v10:=kept_c hbr v10
   replace v11:=kept_c hbr v11
   have QI:IQ w [.bool p1,.slice a1 n1 k1,.slice d1 m1 l1,.string nm,.int .i64 0,.int .i64 0] (itP P (j+1)) (ziP P (j+1)):=by
    have e1:itP P (j+1)=⟨(P.V j).obj,(P.V j).nm,0,0⟩:=by unfold itP;rw [if_neg (by omega)];rfl
    have e2:ziP P (j+1)=P.ZV j:=by unfold ziP;rw [if_neg (by omega)];rfl
    rw [e1,e2,enm]
    exact ⟨_,_,_,_,_,_,_,rfl,t1,hV.s1,hV.sobj,by have:=hV.snm;have:=tot_le (Z:=P.ZV) hlt;have:=hP.all;show (P.V j).nm.size≤1000000000;omega⟩
   have QL:LmQ w [.string nm,.int .i64 0,.int .i64 0,.bool true,.bool true,.bool hl,.bool p2,.slice a2 n2 k2,.slice d2 m2 l2,.bool hh,.bool p3,.slice a3 n3 k3,.slice d3 m3 l3] (liP P j) (P.ZV j):=by
    rw [enm,ehl,ehh]
    exact ⟨_,_,_,_,_,_,_,_,_,_,_,_,_,_,rfl,t2,t3,hV.s1,hV.slo,hV.shi,by have:=hV.snm;have:=tot_le (Z:=P.ZV) hlt;have:=hP.all;show (P.V j).nm.size≤1000000000;omega⟩
   have QM:MnQ [.string nm,.int .i64 0,.int .i64 0] ⟨(P.V j).nm,0,0⟩:=by
    rw [enm]
    exact ⟨rfl,by have:=hV.snm;have:=tot_le (Z:=P.ZV) hlt;have:=hP.all;show (P.V j).nm.size≤1000000000;omega⟩
   rw [← enm] at v0
   rw [← ehl] at v4
   rw [← ehh] at v8
   rw [← ewh] at v12
   have EW:Hid (whP P j=wh):=ewh.symm
   have HQ:Hid (IQ w [.bool p1,.slice a1 n1 k1,.slice d1 m1 l1,.string nm,.int .i64 0,.int .i64 0] (itP P (j+1)) (ziP P (j+1))∧LmQ w [.string nm,.int .i64 0,.int .i64 0,.bool true,.bool true,.bool hl,.bool p2,.slice a2 n2 k2,.slice d2 m2 l2,.bool hh,.bool p3,.slice a3 n3 k3,.slice d3 m3 l3] (liP P j) (P.ZV j)∧MnQ [.string nm,.int .i64 0,.int .i64 0] ⟨(P.V j).nm,0,0⟩):=⟨QI,QL,QM⟩
   clear hel hV enm ehl ehh ewh t1 t2 t3 QI QL QM hbr
   rw [eva] at x5
   have hz:=bel_d0 wr (.cells #[.string nm,.bool p1,.slice a1 n1 k1,.slice d1 m1 l1,.bool hl,.bool p2,.slice a2 n2 k2,.slice d2 m2 l2,.bool hh,.bool p3,.slice a3 n3 k3,.slice d3 m3 l3,.bool wh] 51)
   have hsz:(wr.alloc (.cells #[.string nm,.bool p1,.slice a1 n1 k1,.slice d1 m1 l1,.bool hl,.bool p2,.slice a2 n2 k2,.slice d2 m2 l2,.bool hh,.bool p3,.slice a3 n3 k3,.slice d3 m3 l3,.bool wh] 51)).heap.size=wr.heap.size+1:=by simp
   have RV:=Rw.new 51 wr #[.string nm,.bool p1,.slice a1 n1 k1,.slice d1 m1 l1,.bool hl,.bool p2,.slice a2 n2 k2,.slice d2 m2 l2,.bool hh,.bool p3,.slice a3 n3 k3,.slice d3 m3 l3,.bool wh]
   have hz2:=bel_d0 (wr.alloc (.cells #[.string nm,.bool p1,.slice a1 n1 k1,.slice d1 m1 l1,.bool hl,.bool p2,.slice a2 n2 k2,.slice d2 m2 l2,.bool hh,.bool p3,.slice a3 n3 k3,.slice d3 m3 l3,.bool wh] 51)) (.cells #[.bool p1,.slice a1 n1 k1,.slice d1 m1 l1,.string nm,.int .i64 0,.int .i64 0] 59)
   have h2:=h.below (bel_tr hz hz2)
   have hB2:Below B W1 _:=hB.trans ((bel_tr hz hz2).mono (HBS.out _ hB))
   have RV2:=RV.below hz2
   have hRTl:=h.rw.lt
   have hBs0:=HBS.out _ hB
   have hbV:¬ RT=wr.heap.size:=by omega
   have HBV:Hid (¬ RT=wr.heap.size):=hbV
   obtain ⟨EI,sI,kI⟩:=id h2.i
   obtain ⟨ia,ic,rfl,hic⟩:=sI.form
   have N5:=box_new (wr.alloc (.cells #[.string nm,.bool p1,.slice a1 n1 k1,.slice d1 m1 l1,.bool hl,.bool p2,.slice a2 n2 k2,.slice d2 m2 l2,.bool hh,.bool p3,.slice a3 n3 k3,.slice d3 m3 l3,.bool wh] 51)) #[.bool p1,.slice a1 n1 k1,.slice d1 m1 l1,.string nm,.int .i64 0,.int .i64 0] 59
   rw [hsz] at N5
   have z0:=(RV.cell 0).trans (show _=some (.string nm) from rfl)
   have z1:=(RV.cell 1).trans (show _=some (.bool p1) from rfl)
   have z2:=(RV.cell 2).trans (show _=some (.slice a1 n1 k1) from rfl)
   have z3:=(RV.cell 3).trans (show _=some (.slice d1 m1 l1) from rfl)
   have r2:=((h.rw.below hz).cell 2).trans (show _=some (.slice ia (j+1) ic) from rfl)
   go_wp2_with (at_builtin;refine wpList_appendS _ rfl _ _ 38 59 6 88 rfl Tryz.underlying38 infItem (by decide) (by decide) B (.slice ia (j+1) ic) (j+1) EI rfl sI (wr.heap.size+1) _ rfl [.bool p1,.slice a1 n1 k1,.slice d1 m1 l1,.string nm,.int .i64 0,.int .i64 0] rfl (fun u hu=>by simp at hu;rcases hu with rfl|rfl|rfl|rfl|rfl|rfl <;> rfl) N5 (by omega) (by simp;omega) (wr.heap.size+1+1) (by simp) ?_)
   intro g1 cap1 w3 SN hgrow _ _
   have T3:=h2.addI sI kI SN hgrow HQ.out.1 rfl
   have RZ:=h2.rw.kept hgrow (sI.neR h2.rw (by decide))
   have O3:=(RZ.set 2 (.slice (some ⟨g1,0,none⟩) (j+1+1) cap1)).2
   have RV3:=(RV2.kept hgrow (sI.neR RV2 (by decide))).off O3 (fun e=>HBV.out e.symm)
   have hB3:Below B W1 (w3.setCell ⟨RT,2,none⟩ (.slice (some ⟨g1,0,none⟩) (j+1+1) cap1)):=(hB2.trans (grown_below hgrow (by have:=(HBS.out _ hB2);omega) (fun k e=>(sI.lt k e).1))).trans (O3.below T3.lo)
   have c2:=(RZ.cell 2).trans (show _=some (.slice ia (j+1) ic) from rfl)
   have f2:=RZ.frozen 2
   clear v0 v1 v2 v3 v4 v5 v6 v7 v8 v9 v10 v11 v12 z0 z1 z2 z3 r2 x5 h h2 hB hB2 RV RV2 hz hz2 N5 SN hgrow RZ O3 sI kI hsz
   obtain ⟨W5,hW5⟩:∃ W5,W5=w3.setCell ⟨RT,2,none⟩ (.slice (some ⟨g1,0,none⟩) (j+1+1) cap1):=⟨_,rfl⟩
   rw [← hW5] at T3 RV3 hB3
   have HW5:Hid (W5=w3.setCell ⟨RT,2,none⟩ (.slice (some ⟨g1,0,none⟩) (j+1+1) cap1)):=hW5
   clear hW5
   have hz:=bel_d0 W5 (.cells #[.string nm,.int .i64 0,.int .i64 0,.bool true,.bool true,.bool hl,.bool p2,.slice a2 n2 k2,.slice d2 m2 l2,.bool hh,.bool p3,.slice a3 n3 k3,.slice d3 m3 l3] 77)
   have h2:=T3.below hz
   have hB2:Below B W1 _:=hB3.trans (hz.mono (HBS.out _ hB3))
   have hBs5:=HBS.out _ hB3
   have RV2:=RV3.below hz
   obtain ⟨EL,sL,kL⟩:=id h2.l
   obtain ⟨la,lc,rfl,hlc⟩:=sL.form
   have N5:=box_new W5 #[.string nm,.int .i64 0,.int .i64 0,.bool true,.bool true,.bool hl,.bool p2,.slice a2 n2 k2,.slice d2 m2 l2,.bool hh,.bool p3,.slice a3 n3 k3,.slice d3 m3 l3] 77
   have z0:=(RV3.cell 0).trans (show _=some (.string nm) from rfl)
   have z4:=(RV3.cell 4).trans (show _=some (.bool hl) from rfl)
   have z5:=(RV3.cell 5).trans (show _=some (.bool p2) from rfl)
   have z6:=(RV3.cell 6).trans (show _=some (.slice a2 n2 k2) from rfl)
   have z7:=(RV3.cell 7).trans (show _=some (.slice d2 m2 l2) from rfl)
   have z8:=(RV3.cell 8).trans (show _=some (.bool hh) from rfl)
   have z9:=(RV3.cell 9).trans (show _=some (.bool p3) from rfl)
   have z10:=(RV3.cell 10).trans (show _=some (.slice a3 n3 k3) from rfl)
   have z11:=(RV3.cell 11).trans (show _=some (.slice d3 m3 l3) from rfl)
   have r4:=(T3.rw.cell 4).trans (show _=some (.slice la j lc) from rfl)
   go_wp2_with (first|(refine wpList_store1W rfl 38 _ _ rfl RT 2 (.slice (some ⟨g1,0,none⟩) (j+1+1) cap1) rfl rfl rfl rfl (by kernel_rfl) c2 f2 W5 HW5 ?_;clear HW5 c2 f2)|(at_builtin;refine wpList_appendS _ rfl _ _ 40 77 13 168 rfl Tryz.underlying40 infLimit (by decide) (by decide) B (.slice la j lc) j EL rfl sL (W5.heap.size) _ rfl [.string nm,.int .i64 0,.int .i64 0,.bool true,.bool true,.bool hl,.bool p2,.slice a2 n2 k2,.slice d2 m2 l2,.bool hh,.bool p3,.slice a3 n3 k3,.slice d3 m3 l3] rfl (fun u hu=>by simp at hu;rcases hu with rfl|rfl|rfl|rfl|rfl|rfl|rfl|rfl|rfl|rfl|rfl|rfl|rfl <;> rfl) N5 (by omega) (by simp;omega) (W5.heap.size+1) (by simp) ?_))
   intro g2 cap2 w7 SN hgrow _ _
   have T5:=h2.addL sL kL SN hgrow HQ.out.2.1
   have RZ:=h2.rw.kept hgrow (sL.neR h2.rw (by decide))
   have O3:=(RZ.set 4 (.slice (some ⟨g2,0,none⟩) (j+1) cap2)).2
   have RV5:=(RV2.kept hgrow (sL.neR RV2 (by decide))).off O3 (fun e=>HBV.out e.symm)
   have hB5:Below B W1 (w7.setCell ⟨RT,4,none⟩ (.slice (some ⟨g2,0,none⟩) (j+1) cap2)):=(hB2.trans (grown_below hgrow (by have:=(HBS.out _ hB2);omega) (fun k e=>(sL.lt k e).1))).trans (O3.below T5.lo)
   have c4:=(RZ.cell 4).trans (show _=some (.slice la j lc) from rfl)
   have f4:=RZ.frozen 4
   clear z0 z4 z5 z6 z7 z8 z9 z10 z11 r4 T3 h2 hB3 hB2 RV3 RV2 hz N5 SN hgrow RZ O3 sL kL
   obtain ⟨W8,hW8⟩:∃ W8,W8=w7.setCell ⟨RT,4,none⟩ (.slice (some ⟨g2,0,none⟩) (j+1) cap2):=⟨_,rfl⟩
   rw [← hW8] at T5 RV5 hB5
   have HW8:Hid (W8=w7.setCell ⟨RT,4,none⟩ (.slice (some ⟨g2,0,none⟩) (j+1) cap2)):=hW8
   clear hW8
   have z12:=(RV5.cell 12).trans (show _=some (.bool wh) from rfl)
   cases wh with
   | false =>
    have T6:=T5.skipM EW.out
    go_wp2_with (refine wpList_store1W rfl 40 _ _ rfl RT 4 (.slice (some ⟨g2,0,none⟩) (j+1) cap2) rfl rfl rfl rfl (by kernel_rfl) c4 f4 W8 HW8 ?_;clear HW8 c4 f4)
    rw [← eva]
    go_roundw
    case rel=>first|exact ⟨j+1,_,_,_,by omega,by go_num,T6,hB5⟩|((repeat apply Exists.intro);refine ⟨?_,rfl⟩;exact ⟨j+1,_,_,_,by omega,by go_num,T6,hB5⟩)
    case measure=>simp [intOf];omega
   | true =>
    have hz:=bel_d0 W8 (.cells #[.string nm,.int .i64 0,.int .i64 0] 79)
    have h2:=T5.below hz
    have hB2:Below B W1 _:=hB5.trans (hz.mono (HBS.out _ hB5))
    have hBs8:=HBS.out _ hB5
    obtain ⟨EM,sM,kM⟩:=id h2.m
    obtain ⟨wa,wc,rfl,hwc⟩:=sM.form
    have N5:=box_new W8 #[.string nm,.int .i64 0,.int .i64 0] 79
    have z0:=(RV5.cell 0).trans (show _=some (.string nm) from rfl)
    have r5:=(T5.rw.cell 5).trans (show _=some (.slice wa (flt (whP P) j) wc) from rfl)
    have hfl:=flt_le (whP P) j
    obtain ⟨nM,enM⟩:∃ nM,nM=flt (whP P) j:=⟨_,rfl⟩
    have ENM:Hid (nM=flt (whP P) j):=enM
    rw [← enM] at sM hfl r5 h2
    rw [← enM] at kM
    clear enM
    go_wp2_with (first|(refine wpList_store1W rfl 40 _ _ rfl RT 4 (.slice (some ⟨g2,0,none⟩) (j+1) cap2) rfl rfl rfl rfl (by kernel_rfl) c4 f4 W8 HW8 ?_;clear HW8 c4 f4)|(at_builtin;refine wpList_appendS _ rfl _ _ 41 79 3 32 rfl Tryz.underlying41 infMention (by decide) (by decide) B (.slice wa nM wc) nM EM rfl sM (W8.heap.size) _ rfl [.string nm,.int .i64 0,.int .i64 0] rfl (fun u hu=>by simp at hu;rcases hu with rfl|rfl|rfl <;> rfl) N5 (by omega) (by simp;omega) (W8.heap.size+1) (by simp) ?_))
    intro g3 cap3 w9 SN hgrow _ _
    rw [ENM.out] at SN kM h2 sM hgrow
    have T6:=h2.addM sM kM SN hgrow HQ.out.2.2 EW.out
    rw [← ENM.out] at T6 h2 sM hgrow
    have RZ:=h2.rw.kept hgrow (sM.neR h2.rw (by decide))
    have O3:=(RZ.set 5 (.slice (some ⟨g3,0,none⟩) (nM+1) cap3)).2
    have hB6:Below B W1 (w9.setCell ⟨RT,5,none⟩ (.slice (some ⟨g3,0,none⟩) (nM+1) cap3)):=(hB2.trans (grown_below hgrow (by have:=(HBS.out _ hB2);omega) (fun k e=>(sM.lt k e).1))).trans (O3.below T6.lo)
    have c5:=(RZ.cell 5).trans (show _=some (.slice wa nM wc) from rfl)
    have f5:=RZ.frozen 5
    clear z0 z12 r5 T5 h2 hB5 hB2 RV5 hz N5 SN hgrow RZ O3 sM kM
    obtain ⟨W9,hW9⟩:∃ W9,W9=w9.setCell ⟨RT,5,none⟩ (.slice (some ⟨g3,0,none⟩) (nM+1) cap3):=⟨_,rfl⟩
    rw [← hW9] at T6 hB6
    have HW9:Hid (W9=w9.setCell ⟨RT,5,none⟩ (.slice (some ⟨g3,0,none⟩) (nM+1) cap3)):=hW9
    clear hW9
    go_wp2_with (refine wpList_store1W rfl 41 _ _ rfl RT 5 (.slice (some ⟨g3,0,none⟩) (nM+1) cap3) rfl rfl rfl rfl (by kernel_rfl) c5 f5 W9 HW9 ?_;clear HW9 c5 f5)
    rw [← eva]
    go_roundw
    case rel=>first|exact ⟨j+1,_,_,_,by omega,by go_num,T6,hB6⟩|((repeat apply Exists.intro);refine ⟨?_,rfl⟩;exact ⟨j+1,_,_,_,by omega,by go_num,T6,hB6⟩)
    case measure=>simp [intOf];omega
  ·have hkI:¬ (j:Int)<(P.vn:Int):=by omega
   obtain rfl:j=P.vn:=by omega
   go_wp2
   clear x5
   generalize hww:wr=W4 at *
   clear hww
   go_loopw [6] (fun s6 wr=>∃ (i:Nat) (vC:Value),i≤P.rn∧s6 = .int .i64 i∧TS P w wr B RT (P.vn+1) P.vn P.vn i vI vL vM vC∧Below B W1 wr) (fun s6 _=>P.rn-(intOf s6).toNat)
   case atStart=>exact ⟨0,_,Nat.zero_le _,rfl,h,hB⟩
   case round =>
    clear h hB
    obtain ⟨i,vC,hi,rfl,h,hB⟩:=hrel
    have x6:=((X0.below (HBW.out _ hB)).cell 6).trans (show _=some (.slice P.ra P.rn P.rc) from rfl)
    by_cases hlt:i<P.rn
    ·have hkI:(i:Int)<(P.rn:Int):=by omega
     have hkI2:(i:Int)*10=((i*10:Nat):Int):=by omega
     have hbr:Below w.heap.size w wr:=hb1.trans ((HBW.out _ hB).mono hb1.size)
     rcases hP.r with h0|⟨rb,ro,era,hel⟩
     ·omega
     have hV:=hel i hlt
     obtain ⟨nm,enm⟩:∃ x,x=(P.R i).nm:=⟨_,rfl⟩
     obtain ⟨hl,ehl⟩:∃ x,x=(P.R i).hlo:=⟨_,rfl⟩
     obtain ⟨hh,ehh⟩:∃ x,x=(P.R i).hhi:=⟨_,rfl⟩
     have u0:=kept_c hbr hV.nm
     obtain ⟨ta,tc,Zt,tcell,hLT,htot,htc⟩:=hV.terms
     have u2:=kept_c hbr hV.hlo
     obtain ⟨p2,a2,n2,k2,d2,m2,l2,u3,u4,u5,t2⟩:=hV.lo
     have u6:=kept_c hbr hV.hhi
     obtain ⟨p3,a3,n3,k3,d3,m3,l3,u7,u8,u9,t3⟩:=hV.hi
     replace u3:=kept_c hbr u3
     replace u4:=kept_c hbr u4
     replace u5:=kept_c hbr u5
     replace u7:=kept_c hbr u7
     replace u8:=kept_c hbr u8
     replace u9:=kept_c hbr u9
     have QC:∀ (w8:World) (ia:Option Addr) (ic:Nat) (E:Nat→List Value),SL w8 B 59 6 (.slice ia (flt (okR P i) (P.R i).nt) ic) (flt (okR P i) (P.R i).nt) E→(∀ q,q<flt (okR P i) (P.R i).nt→IQ w (E q) (itR P i q) (Zt (fxq (okR P i) (P.R i).nt q)))→flt (okR P i) (P.R i).nt≤ic→CmQ w w8 B [.string nm,.int .i64 0,.int .i64 0,.slice ia (flt (okR P i) (P.R i).nt) ic,.bool hl,.bool p2,.slice a2 n2 k2,.slice d2 m2 l2,.bool hh,.bool p3,.slice a3 n3 k3,.slice d3 m3 l3] (clP P i) (P.ZR i):=fun w8 ia ic E s1 s2 s3=>by
      rw [enm,ehl,ehh]
      exact ⟨ia,ic,E,_,_,_,_,_,_,_,_,_,_,_,_,_,_,_,rfl,s1,s2,Nat.le_trans (tot_flt _ Zt _) htot,s3,t2,t3,hV.s1,hV.slo,hV.shi,by have:=hV.snm;have:=tot_le (Z:=P.ZR) hlt;have:=hP.all;show (P.R i).nm.size≤1000000000;omega⟩
     rw [← enm] at u0
     rw [← ehl] at u2
     rw [← ehh] at u6
     have hHT:∀ q,q<(P.R i).nt→∃ tb to,ta=some ⟨tb,to,none⟩∧TermAt w tb (to+q*4) ((P.R i).t q) (Zt q):=fun q hq=>by
      rcases hLT with h0|⟨tb,to,e,ht⟩
      ·omega
      ·exact ⟨tb,to,e,ht q hq⟩
     have HHT:Hid (∀ q,q<(P.R i).nt→∃ tb to,ta=some ⟨tb,to,none⟩∧TermAt w tb (to+q*4) ((P.R i).t q) (Zt q)):=hHT
     obtain ⟨nt,ent⟩:∃ nt,nt=(P.R i).nt:=⟨_,rfl⟩
     have hnt:nt≤1048576:=by have:=tot_len Zt (P.R i).nt;have:=tot_le (Z:=P.ZR) hlt;have:=hP.all;omega
     have ut:=kept_c hbr tcell
     rw [← ent] at HHT ut QC
     have ENT:Hid (nt=(P.R i).nt):=ent
     have HQC:Hid (∀ (w8:World) (ia:Option Addr) (ic:Nat) (E:Nat→List Value),SL w8 B 59 6 (.slice ia (flt (okR P i) nt) ic) (flt (okR P i) nt) E→(∀ q,q<flt (okR P i) nt→IQ w (E q) (itK P i nt q) (Zt (fxq (okR P i) nt q)))→flt (okR P i) nt≤ic→CmQ w w8 B [.string nm,.int .i64 0,.int .i64 0,.slice ia (flt (okR P i) nt) ic,.bool hl,.bool p2,.slice a2 n2 k2,.slice d2 m2 l2,.bool hh,.bool p3,.slice a3 n3 k3,.slice d3 m3 l3] (clP P i) (P.ZR i)):=fun w8 ia ic E s1 s2 s3=>QC w8 ia ic E s1 (fun q hq=>by
      have h9:=s2 q hq
      have e9:itR P i q=itK P i nt q:=by unfold itR itK fR;rw [ENT.out]
      rw [e9];exact h9) s3
     clear hel hV enm ehl ehh t2 t3 tcell hLT htot htc ent QC hHT
     rw [era] at x6
     have HBX:∀ w',Below wr.heap.size wr w'→(w'.cell? ⟨w.heap.size,6,none⟩=some (.slice (some ⟨rb,ro,none⟩) P.rn P.rc)∧w'.cell? ⟨rb,ro+i*10,none⟩=some (.string nm)∧w'.cell? ⟨rb,ro+i*10+2,none⟩=some (.bool hl)∧w'.cell? ⟨rb,ro+i*10+3,none⟩=some (.bool p2)∧w'.cell? ⟨rb,ro+i*10+4,none⟩=some (.slice a2 n2 k2)∧w'.cell? ⟨rb,ro+i*10+5,none⟩=some (.slice d2 m2 l2)∧w'.cell? ⟨rb,ro+i*10+6,none⟩=some (.bool hh)∧w'.cell? ⟨rb,ro+i*10+7,none⟩=some (.bool p3)∧w'.cell? ⟨rb,ro+i*10+8,none⟩=some (.slice a3 n3 k3)∧w'.cell? ⟨rb,ro+i*10+9,none⟩=some (.slice d3 m3 l3)):=fun w' hh=>⟨kept_c hh x6,kept_c hh u0,kept_c hh u2,kept_c hh u3,kept_c hh u4,kept_c hh u5,kept_c hh u6,kept_c hh u7,kept_c hh u8,kept_c hh u9⟩
     go_wp2_with fail
     refine wp_region_noPanic (wp_region_guard (fun _ w'=>(w'.cell? ⟨w.heap.size,6,none⟩=some (.slice (some ⟨rb,ro,none⟩) P.rn P.rc)∧w'.cell? ⟨rb,ro+i*10,none⟩=some (.string nm)∧w'.cell? ⟨rb,ro+i*10+2,none⟩=some (.bool hl)∧w'.cell? ⟨rb,ro+i*10+3,none⟩=some (.bool p2)∧w'.cell? ⟨rb,ro+i*10+4,none⟩=some (.slice a2 n2 k2)∧w'.cell? ⟨rb,ro+i*10+5,none⟩=some (.slice d2 m2 l2)∧w'.cell? ⟨rb,ro+i*10+6,none⟩=some (.bool hh)∧w'.cell? ⟨rb,ro+i*10+7,none⟩=some (.bool p3)∧w'.cell? ⟨rb,ro+i*10+8,none⟩=some (.slice a3 n3 k3)∧w'.cell? ⟨rb,ro+i*10+9,none⟩=some (.slice d3 m3 l3))) (by as_aux_lemma=>kernel_rfl) ?_)
     have hc0:Below wr.heap.size wr wr.drew:=bel_d1 _
     generalize wr.drew=z0 at *
     refine wpAnyG.tA 0 (v:=.pointer (some ⟨w.heap.size,6,none⟩)) (by decide) 20 (by as_aux_lemma=>kernel_rfl) (by rfl) ?y0 (HBX _ hc0) ?_
     case y0 =>
      rintro w' ⟨q0,q1,q2,q3,q4,q5,q6,q7,q8,q9⟩
      simp only [lgA,lgZ]
      go_simp
     simp only [lgA,lgZ,Act.put,lsA,lsZ,lsS]
     refine wpAnyG.tA 1 (v:=.slice (some ⟨rb,ro,none⟩) P.rn P.rc) (by decide) 20 (by as_aux_lemma=>kernel_rfl) (by rfl) ?y1 (HBX _ hc0) ?_
     case y1 =>
      rintro w' ⟨q0,q1,q2,q3,q4,q5,q6,q7,q8,q9⟩
      simp only [lgA,lgZ,lgS]
      go_simp
     simp only [lgA,lgZ,lgS,Act.put,lsA,lsZ,lsS]
     refine wpAnyG.tA 2 (v:=.int .i64 (i:Int)) (by decide) 20 (by as_aux_lemma=>kernel_rfl) (by rfl) ?y2 (HBX _ hc0) ?_
     case y2 =>
      rintro w' ⟨q0,q1,q2,q3,q4,q5,q6,q7,q8,q9⟩
      simp only [lgA,lgZ,lgS]
      go_simp
     simp only [lgA,lgZ,lgS,Act.put,lsA,lsZ,lsS]
     refine wpAnyG.tA 3 (v:=.pointer (some ⟨rb,ro+i*10,none⟩)) (by decide) 20 (by as_aux_lemma=>kernel_rfl) (by rfl) ?y3 (HBX _ hc0) ?_
     case y3 =>
      rintro w' ⟨q0,q1,q2,q3,q4,q5,q6,q7,q8,q9⟩
      simp only [lgA,lgZ,lgS]
      go_simp
     simp only [lgA,lgZ,lgS,Act.put,lsA,lsZ,lsS]
     refine wpAnyG.tA 4 (v:=.pointer (some ⟨rb,ro+i*10,none⟩)) (by decide) 20 (by as_aux_lemma=>kernel_rfl) (by rfl) ?y4 (HBX _ hc0) ?_
     case y4 =>
      rintro w' ⟨q0,q1,q2,q3,q4,q5,q6,q7,q8,q9⟩
      simp only [lgA,lgZ,lgS]
      go_simp
     simp only [lgA,lgZ,lgS,Act.put,lsA,lsZ,lsS]
     refine wpAnyG.tA 5 (v:=.string nm) (by decide) 20 (by as_aux_lemma=>kernel_rfl) (by rfl) ?y5 (HBX _ hc0) ?_
     case y5 =>
      rintro w' ⟨q0,q1,q2,q3,q4,q5,q6,q7,q8,q9⟩
      simp only [lgA,lgZ,lgS]
      go_simp
     simp only [lgA,lgZ,lgS,Act.put,lsA,lsZ,lsS]
     refine wpAnyG.tA 6 (v:=.pointer (some ⟨w.heap.size,6,none⟩)) (by decide) 20 (by as_aux_lemma=>kernel_rfl) (by rfl) ?y6 (HBX _ hc0) ?_
     case y6 =>
      rintro w' ⟨q0,q1,q2,q3,q4,q5,q6,q7,q8,q9⟩
      simp only [lgA,lgZ,lgS]
      go_simp
     simp only [lgA,lgZ,lgS,Act.put,lsA,lsZ,lsS]
     refine wpAnyG.tA 7 (v:=.slice (some ⟨rb,ro,none⟩) P.rn P.rc) (by decide) 20 (by as_aux_lemma=>kernel_rfl) (by rfl) ?y7 (HBX _ hc0) ?_
     case y7 =>
      rintro w' ⟨q0,q1,q2,q3,q4,q5,q6,q7,q8,q9⟩
      simp only [lgA,lgZ,lgS]
      go_simp
     simp only [lgA,lgZ,lgS,Act.put,lsA,lsZ,lsS]
     refine wpAnyG.tA 8 (v:=.int .i64 (i:Int)) (by decide) 20 (by as_aux_lemma=>kernel_rfl) (by rfl) ?y8 (HBX _ hc0) ?_
     case y8 =>
      rintro w' ⟨q0,q1,q2,q3,q4,q5,q6,q7,q8,q9⟩
      simp only [lgA,lgZ,lgS]
      go_simp
     simp only [lgA,lgZ,lgS,Act.put,lsA,lsZ,lsS]
     refine wpAnyG.tA 9 (v:=.pointer (some ⟨rb,ro+i*10,none⟩)) (by decide) 20 (by as_aux_lemma=>kernel_rfl) (by rfl) ?y9 (HBX _ hc0) ?_
     case y9 =>
      rintro w' ⟨q0,q1,q2,q3,q4,q5,q6,q7,q8,q9⟩
      simp only [lgA,lgZ,lgS]
      go_simp
     simp only [lgA,lgZ,lgS,Act.put,lsA,lsZ,lsS]
     refine wpAnyG.tA 10 (v:=.pointer (some ⟨rb,ro+i*10+2,none⟩)) (by decide) 20 (by as_aux_lemma=>kernel_rfl) (by rfl) ?y10 (HBX _ hc0) ?_
     case y10 =>
      rintro w' ⟨q0,q1,q2,q3,q4,q5,q6,q7,q8,q9⟩
      simp only [lgA,lgZ,lgS]
      go_simp
     simp only [lgA,lgZ,lgS,Act.put,lsA,lsZ,lsS]
     refine wpAnyG.tA 11 (v:=.agg #[.bool hl,.bool p2,.slice a2 n2 k2,.slice d2 m2 l2]) (by decide) 20 (by as_aux_lemma=>kernel_rfl) (by rfl) ?y11 (HBX _ hc0) ?_
     case y11 =>
      rintro w' ⟨q0,q1,q2,q3,q4,q5,q6,q7,q8,q9⟩
      simp only [lgA,lgZ,lgS]
      go_simp
     simp only [lgA,lgZ,lgS,Act.put,lsA,lsZ,lsS]
     refine wpAnyG.tA 12 (v:=.pointer (some ⟨w.heap.size,6,none⟩)) (by decide) 20 (by as_aux_lemma=>kernel_rfl) (by rfl) ?y12 (HBX _ hc0) ?_
     case y12 =>
      rintro w' ⟨q0,q1,q2,q3,q4,q5,q6,q7,q8,q9⟩
      simp only [lgA,lgZ,lgS]
      go_simp
     simp only [lgA,lgZ,lgS,Act.put,lsA,lsZ,lsS]
     refine wpAnyG.tA 13 (v:=.slice (some ⟨rb,ro,none⟩) P.rn P.rc) (by decide) 20 (by as_aux_lemma=>kernel_rfl) (by rfl) ?y13 (HBX _ hc0) ?_
     case y13 =>
      rintro w' ⟨q0,q1,q2,q3,q4,q5,q6,q7,q8,q9⟩
      simp only [lgA,lgZ,lgS]
      go_simp
     simp only [lgA,lgZ,lgS,Act.put,lsA,lsZ,lsS]
     refine wpAnyG.tA 14 (v:=.int .i64 (i:Int)) (by decide) 20 (by as_aux_lemma=>kernel_rfl) (by rfl) ?y14 (HBX _ hc0) ?_
     case y14 =>
      rintro w' ⟨q0,q1,q2,q3,q4,q5,q6,q7,q8,q9⟩
      simp only [lgA,lgZ,lgS]
      go_simp
     simp only [lgA,lgZ,lgS,Act.put,lsA,lsZ,lsS]
     refine wpAnyG.tA 15 (v:=.pointer (some ⟨rb,ro+i*10,none⟩)) (by decide) 20 (by as_aux_lemma=>kernel_rfl) (by rfl) ?y15 (HBX _ hc0) ?_
     case y15 =>
      rintro w' ⟨q0,q1,q2,q3,q4,q5,q6,q7,q8,q9⟩
      simp only [lgA,lgZ,lgS]
      go_simp
     simp only [lgA,lgZ,lgS,Act.put,lsA,lsZ,lsS]
     refine wpAnyG.tA 16 (v:=.pointer (some ⟨rb,ro+i*10+6,none⟩)) (by decide) 20 (by as_aux_lemma=>kernel_rfl) (by rfl) ?y16 (HBX _ hc0) ?_
     case y16 =>
      rintro w' ⟨q0,q1,q2,q3,q4,q5,q6,q7,q8,q9⟩
      simp only [lgA,lgZ,lgS]
      go_simp
     simp only [lgA,lgZ,lgS,Act.put,lsA,lsZ,lsS]
     refine wpAnyG.tA 17 (v:=.agg #[.bool hh,.bool p3,.slice a3 n3 k3,.slice d3 m3 l3]) (by decide) 20 (by as_aux_lemma=>kernel_rfl) (by rfl) ?y17 (HBX _ hc0) ?_
     case y17 =>
      rintro w' ⟨q0,q1,q2,q3,q4,q5,q6,q7,q8,q9⟩
      simp only [lgA,lgZ,lgS]
      go_simp
     simp only [lgA,lgZ,lgS,Act.put,lsA,lsZ,lsS]
     refine wpAnyG.take 18 (v:=.agg #[.string nm,.int .i64 0,.int .i64 0,.slice none 0 0,.bool hl,.bool p2,.slice a2 n2 k2,.slice d2 m2 l2,.bool hh,.bool p3,.slice a3 n3 k3,.slice d3 m3 l3]) (by decide) (by as_aux_lemma=>kernel_rfl) (fun _ _ _ h=>h) 20 (fun _=>True) (by rfl) (fun _ _=>Iff.rfl) (fun _ _ _ _=>trivial) (by as_aux_lemma=>kernel_rfl) (by as_aux_lemma=>kernel_rfl) (by as_aux_lemma=>kernel_rfl) (by rfl) ?y18 (HBX _ hc0) (by rfl) ?_
     case y18 =>
      rintro w' -
      simp only [lgA,lgZ,lgS]
      go_simp
     simp only [lgA,lgZ,lgS,Act.put,lsA,lsZ,lsS]
     refine wpAnyG.one 19 (by as_aux_lemma=>kernel_rfl) (by decide) (by rfl) (fun K hK=>?_)
     simp only [lgA,lgZ,lgS]
     go_simp
     have RC0:=Rw.new 61 z0 #[.string ⟨#[]⟩,.int .i64 0,.int .i64 0,.slice none 0 0,.bool false,.bool false,.slice none 0 0,.slice none 0 0,.bool false,.bool false,.slice none 0 0,.slice none 0 0]
     have hc1:Below wr.heap.size wr (z0.alloc (.cells #[.string ⟨#[]⟩,.int .i64 0,.int .i64 0,.slice none 0 0,.bool false,.bool false,.slice none 0 0,.slice none 0 0,.bool false,.bool false,.slice none 0 0,.slice none 0 0] 61)):=bel_a hc0
     have hz0s:=hc0.size
     obtain ⟨bC,ebC⟩:∃ bC,bC=z0.heap.size:=⟨_,rfl⟩
     rw [← ebC] at RC0 ⊢
     generalize z0.alloc (.cells #[.string ⟨#[]⟩,.int .i64 0,.int .i64 0,.slice none 0 0,.bool false,.bool false,.slice none 0 0,.slice none 0 0,.bool false,.bool false,.slice none 0 0,.slice none 0 0] 61)=z1 at *
     refine hK _ _ (HBX _ hc1) ?_
     clear hK K
     refine wpAnyG.one 20 (by as_aux_lemma=>kernel_rfl) (by decide) (by rfl) (fun K hK=>?_)
     simp only [lgA,lgZ,lgS]
     refine wp_store_row 61 _ _ rfl bC #[.string nm,.int .i64 0,.int .i64 0,.slice none 0 0,.bool hl,.bool p2,.slice a2 n2 k2,.slice d2 m2 l2,.bool hh,.bool p3,.slice a3 n3 k3,.slice d3 m3 l3] rfl rfl 61 _ RC0 clmI rfl (by simp [Value.oneCell']) ?_
     obtain ⟨RC1,OC⟩:=RC0.row #[.string nm,.int .i64 0,.int .i64 0,.slice none 0 0,.bool hl,.bool p2,.slice a2 n2 k2,.slice d2 m2 l2,.bool hh,.bool p3,.slice a3 n3 k3,.slice d3 m3 l3]
     have hc2:Below wr.heap.size wr (z1.setRow bC #[.string nm,.int .i64 0,.int .i64 0,.slice none 0 0,.bool hl,.bool p2,.slice a2 n2 k2,.slice d2 m2 l2,.bool hh,.bool p3,.slice a3 n3 k3,.slice d3 m3 l3]):=hc1.trans (OC.below (by omega))
     generalize z1.setRow bC #[.string nm,.int .i64 0,.int .i64 0,.slice none 0 0,.bool hl,.bool p2,.slice a2 n2 k2,.slice d2 m2 l2,.bool hh,.bool p3,.slice a3 n3 k3,.slice d3 m3 l3]=z2 at *
     refine hK _ _ (HBX _ hc2) ?_
     clear hK K
     refine wpAnyG.done (by as_aux_lemma=>kernel_rfl) (NoPanic.normal ?_)
     have T2:=h.below hc2
     have hBs0:=HBS.out _ hB
     have hbCl:wr.heap.size≤bC:=by rw [ebC];exact hz0s
     have HBC:Hid (wr.heap.size≤bC∧B≤wr.heap.size):=⟨hbCl,hBs0⟩
     clear OC RC0 hc1 hc0 HBX u0 u2 u3 u4 u5 u6 u7 u8 u9 hz0s ebC hbCl
     have XD:=fun (w9:World) (h9:Below wr.heap.size wr w9)=>kept_c h9 x6
     have XT:=fun (w9:World) (h9:Below wr.heap.size wr w9)=>kept_c h9 ut
     have HXD:Hid (∀ w9,Below wr.heap.size wr w9→w9.cell? ⟨w.heap.size,6,none⟩=some (.slice (some ⟨rb,ro,none⟩) P.rn P.rc)∧w9.cell? ⟨rb,ro+i*10+1,none⟩=some (.slice ta nt tc)):=fun w9 h9=>⟨XD w9 h9,XT w9 h9⟩
     clear XD XT x6 ut
     go_wp2
     generalize hww:wr=wo at *
     clear hww
     go_loopw [8] (fun s8 wr=>∃ (k:Nat) (vN:Value) (E:Nat→List Value),k≤nt∧s8 = .int .i64 k∧Rw 61 wr bC #[.string nm,.int .i64 0,.int .i64 0,vN,.bool hl,.bool p2,.slice a2 n2 k2,.slice d2 m2 l2,.bool hh,.bool p3,.slice a3 n3 k3,.slice d3 m3 l3]∧SL wr wo.heap.size 59 6 vN (flt (okR P i) k) E∧(∀ q,q<flt (okR P i) k→IQ w (E q) (itK P i k q) (Zt (fxq (okR P i) k q)))∧Below wo.heap.size wo wr) (fun s8 _=>nt-(intOf s8).toNat)
     case atStart=>exact ⟨0,_,fun _=>[],Nat.zero_le _,rfl,RC1,SL.nil _ _ _ _ _,fun q hq=>absurd hq (Nat.not_lt_zero _),hc2⟩
     case round =>
      clear RC1 T2
      obtain ⟨k,vN,EN,hk,rfl,RC,sN,kN,hq⟩:=hrel
      obtain ⟨d6,dT⟩:=HXD.out _ hq
      by_cases hlt2:k<nt
      ·have hkJ:(k:Int)<(nt:Int):=by omega
       have hkJ2:(k:Int)*4=((k*4:Nat):Int):=by omega
       obtain ⟨tb,to,eta,hTm⟩:=HHT.out k hlt2
       have hbq:Below w.heap.size w wr:=hbr.trans (hq.mono hbr.size)
       have x0:=kept_c hbq hTm.1
       obtain ⟨p1,a1,n1,k1,d1,m1,l1,x1,x2,x3,t1⟩:=hTm.2.1
       replace x1:=kept_c hbq x1
       replace x2:=kept_c hbq x2
       replace x3:=kept_c hbq x3
       have d5:=((X0.below (HBW.out _ (hB.trans (hq.mono HBC.out.2)))).cell 5).trans (show _=some (.slice P.va P.vn P.vc) from rfl)
       have HTM:Hid (1≤Zt k∧SzR ((P.R i).t k).coef (Zt k)∧TR w p1 a1 n1 k1 d1 m1 l1 ((P.R i).t k).coef (Zt k)):=⟨hTm.2.2.1,hTm.2.2.2.1,t1⟩
       obtain ⟨xv,exv⟩:∃ xv,xv=((P.R i).t k).var:=⟨_,rfl⟩
       rw [← exv] at x0
       have EXV:Hid (xv=((P.R i).t k).var):=exv
       clear hTm exv t1
       rw [eta] at dT
       have hzT:=bel_d0 wr (.cells #[.int .i64 xv,.bool p1,.slice a1 n1 k1,.slice d1 m1 l1] 56)
       have hqT:=hq.trans (hzT.mono hq.size)
       by_cases hok:okR P i k=true
       ·have hr1:0≤xv∧xv<(P.vn:Int):=by
         have h9:=hok
         unfold okR at h9
         rw [← EXV.out,Bool.and_eq_true,decide_eq_true_iff,decide_eq_true_iff] at h9
         exact h9
        obtain ⟨x,rfl⟩:∃ x:Nat,xv=(x:Int):=⟨xv.toNat,by omega⟩
        have hxn:x<P.vn:=by omega
        rcases hP.v with h0|⟨vb,vo,eva,hel⟩
        ·omega
        have hV:=hel x hxn
        have w0v:=hV.nm
        have hsnm:(P.V x).nm.size≤1000000000:=by have:=hV.snm;have:=tot_le (Z:=P.ZV) hxn;have:=hP.all;omega
        obtain ⟨nv,env⟩:∃ nv,nv=(P.V x).nm:=⟨_,rfl⟩
        rw [← env] at w0v hsnm
        have EIK:Hid (IQ w [.bool p1,.slice a1 n1 k1,.slice d1 m1 l1,.string nv,.int .i64 0,.int .i64 0] (itK P i (k+1) (flt (okR P i) k)) (Zt (fxq (okR P i) (k+1) (flt (okR P i) k)))):=by
         show IQ w [.bool p1,.slice a1 n1 k1,.slice d1 m1 l1,.string nv,.int .i64 0,.int .i64 0] (itK P i (k+1) (flt (okR P i) k)) (Zt (fxq (okR P i) (k+1) (flt (okR P i) k)))
         have e9:itK P i (k+1) (flt (okR P i) k)=⟨((P.R i).t k).coef,nv,0,0⟩:=by
          unfold itK
          rw [fxq_new hok,← EXV.out,env]
          rfl
         rw [e9,fxq_new hok]
         exact ⟨_,_,_,_,_,_,_,rfl,HTM.out.2.2,HTM.out.1,HTM.out.2.1,hsnm⟩
        rw [eva] at d5
        have w0c:=w0v
        have vn0:=kept_c hbq w0v
        clear hel hV w0v env hr1
        obtain ⟨ia,ic,rfl,hic⟩:=sN.form
        obtain ⟨m,em⟩:∃ m,m=flt (okR P i) k:=⟨_,rfl⟩
        have hml:=flt_le (okR P i) k
        rw [← em] at sN hml RC hic EIK
        rw [← em] at kN
        have EM:Hid (m=flt (okR P i) k):=em
        clear em
        have hkX:(x:Int)<(P.vn:Int):=by omega
        have hkX2:(x:Int)*13=((x*13:Nat):Int):=by omega
        have hx0:(0:Int)≤(x:Int):=by omega
        have RTm:=Rw.new 56 wr #[.int .i64 (x:Int),.bool p1,.slice a1 n1 k1,.slice d1 m1 l1]
        have y0:=(RTm.cell 0).trans (show _=some (.int .i64 (x:Int)) from rfl)
        have dd5:=kept_c hzT d5
        have RCt:=RC.below hzT
        have sNt:=sN.below hzT
        have vn1:=kept_c hzT vn0
        go_wp2_with fail
        clear x0 x1 x2 x3 d5 d6 dT y0 RC sN vn0
        obtain ⟨bT,ebT⟩:∃ bT,bT=wr.heap.size:=⟨_,rfl⟩
        rw [← ebT] at RTm ⊢
        clear ebT
        generalize wr.alloc (.cells #[.int .i64 (x:Int),.bool p1,.slice a1 n1 k1,.slice d1 m1 l1] 56)=wt at *
        have RC:=RCt
        have sN:=sNt
        clear RCt sNt hzT
        have c30:=(RC.cell 3).trans (show _=some (.slice ia m ic) from rfl)
        have HWT:Hid (∀ w',Below wt.heap.size wt w'→Below wo.heap.size wo w'):=fun w' h9=>hqT.trans (h9.mono hqT.size)
        have hwts:=hqT.size
        have HBX:∀ w',Below wt.heap.size wt w'→(w'.cell? ⟨bC,3,none⟩=some (.slice ia m ic)∧w'.cell? ⟨bT,0,none⟩=some (.int .i64 (x:Int))∧w'.cell? ⟨bT,1,none⟩=some (.bool p1)∧w'.cell? ⟨bT,2,none⟩=some (.slice a1 n1 k1)∧w'.cell? ⟨bT,3,none⟩=some (.slice d1 m1 l1)∧w'.cell? ⟨w.heap.size,5,none⟩=some (.slice (some ⟨vb,vo,none⟩) P.vn P.vc)∧w'.cell? ⟨vb,vo+x*13,none⟩=some (.string nv)):=fun w' hh=>⟨kept_c hh c30,(RTm.below hh).cell 0,(RTm.below hh).cell 1,(RTm.below hh).cell 2,(RTm.below hh).cell 3,kept_c hh dd5,kept_c hh vn1⟩
        refine wp_region_noPanic (wp_region_guard (Till 14 14 (fun w'=>(w'.cell? ⟨bC,3,none⟩=some (.slice ia m ic)∧w'.cell? ⟨bT,0,none⟩=some (.int .i64 (x:Int))∧w'.cell? ⟨bT,1,none⟩=some (.bool p1)∧w'.cell? ⟨bT,2,none⟩=some (.slice a1 n1 k1)∧w'.cell? ⟨bT,3,none⟩=some (.slice d1 m1 l1)∧w'.cell? ⟨w.heap.size,5,none⟩=some (.slice (some ⟨vb,vo,none⟩) P.vn P.vc)∧w'.cell? ⟨vb,vo+x*13,none⟩=some (.string nv))) (fun _=>True)) (by as_aux_lemma=>kernel_rfl) ?_)
        have hc0:Below wt.heap.size wt wt.drew:=bel_d1 _
        generalize wt.drew=y0 at *
        refine wpAnyG.tT 0 (v:=.pointer (some ⟨bC,3,none⟩)) (by decide) 14 (by as_aux_lemma=>kernel_rfl) (by rfl) ?y0 (HBX _ hc0) ?_
        case y0 =>
         rintro w' ⟨q0,q1,q2,q3,q4,q5,q6⟩
         simp only [lgA,lgZ]
         go_simp
        simp only [lgA,lgZ,Act.put,lsA,lsZ,lsS]
        refine wpAnyG.tT 1 (v:=.slice ia m ic) (by decide) 14 (by as_aux_lemma=>kernel_rfl) (by rfl) ?y1 (HBX _ hc0) ?_
        case y1 =>
         rintro w' ⟨q0,q1,q2,q3,q4,q5,q6⟩
         simp only [lgA,lgZ,lgS]
         go_simp
        simp only [lgA,lgZ,lgS,Act.put,lsA,lsZ,lsS]
        refine wpAnyG.tT 2 (v:=.pointer (some ⟨bT,1,none⟩)) (by decide) 14 (by as_aux_lemma=>kernel_rfl) (by rfl) ?y2 (HBX _ hc0) ?_
        case y2 =>
         rintro w' ⟨q0,q1,q2,q3,q4,q5,q6⟩
         simp only [lgA,lgZ,lgS]
         go_simp
        simp only [lgA,lgZ,lgS,Act.put,lsA,lsZ,lsS]
        refine wpAnyG.tT 3 (v:=.agg #[.bool p1,.slice a1 n1 k1,.slice d1 m1 l1]) (by decide) 14 (by as_aux_lemma=>kernel_rfl) (by rfl) ?y3 (HBX _ hc0) ?_
        case y3 =>
         rintro w' ⟨q0,q1,q2,q3,q4,q5,q6⟩
         simp only [lgA,lgZ,lgS]
         go_simp
        simp only [lgA,lgZ,lgS,Act.put,lsA,lsZ,lsS]
        refine wpAnyG.tT 4 (v:=.pointer (some ⟨w.heap.size,5,none⟩)) (by decide) 14 (by as_aux_lemma=>kernel_rfl) (by rfl) ?y4 (HBX _ hc0) ?_
        case y4 =>
         rintro w' ⟨q0,q1,q2,q3,q4,q5,q6⟩
         simp only [lgA,lgZ,lgS]
         go_simp
        simp only [lgA,lgZ,lgS,Act.put,lsA,lsZ,lsS]
        refine wpAnyG.tT 5 (v:=.slice (some ⟨vb,vo,none⟩) P.vn P.vc) (by decide) 14 (by as_aux_lemma=>kernel_rfl) (by rfl) ?y5 (HBX _ hc0) ?_
        case y5 =>
         rintro w' ⟨q0,q1,q2,q3,q4,q5,q6⟩
         simp only [lgA,lgZ,lgS]
         go_simp
        simp only [lgA,lgZ,lgS,Act.put,lsA,lsZ,lsS]
        refine wpAnyG.tT 6 (v:=.pointer (some ⟨bT,0,none⟩)) (by decide) 14 (by as_aux_lemma=>kernel_rfl) (by rfl) ?y6 (HBX _ hc0) ?_
        case y6 =>
         rintro w' ⟨q0,q1,q2,q3,q4,q5,q6⟩
         simp only [lgA,lgZ,lgS]
         go_simp
        simp only [lgA,lgZ,lgS,Act.put,lsA,lsZ,lsS]
        refine wpAnyG.tT 7 (v:=.int .i64 (x:Int)) (by decide) 14 (by as_aux_lemma=>kernel_rfl) (by rfl) ?y7 (HBX _ hc0) ?_
        case y7 =>
         rintro w' ⟨q0,q1,q2,q3,q4,q5,q6⟩
         simp only [lgA,lgZ,lgS]
         go_simp
        simp only [lgA,lgZ,lgS,Act.put,lsA,lsZ,lsS]
        refine wpAnyG.tT 8 (v:=.pointer (some ⟨vb,vo+x*13,none⟩)) (by decide) 14 (by as_aux_lemma=>kernel_rfl) (by rfl) ?y8 (HBX _ hc0) ?_
        case y8 =>
         rintro w' ⟨q0,q1,q2,q3,q4,q5,q6⟩
         simp only [lgA,lgZ,lgS]
         go_simp
        simp only [lgA,lgZ,lgS,Act.put,lsA,lsZ,lsS]
        refine wpAnyG.tT 9 (v:=.pointer (some ⟨vb,vo+x*13,none⟩)) (by decide) 14 (by as_aux_lemma=>kernel_rfl) (by rfl) ?y9 (HBX _ hc0) ?_
        case y9 =>
         rintro w' ⟨q0,q1,q2,q3,q4,q5,q6⟩
         simp only [lgA,lgZ,lgS]
         go_simp
        simp only [lgA,lgZ,lgS,Act.put,lsA,lsZ,lsS]
        refine wpAnyG.tT 10 (v:=.string nv) (by decide) 14 (by as_aux_lemma=>kernel_rfl) (by rfl) ?y10 (HBX _ hc0) ?_
        case y10 =>
         rintro w' ⟨q0,q1,q2,q3,q4,q5,q6⟩
         simp only [lgA,lgZ,lgS]
         go_simp
        simp only [lgA,lgZ,lgS,Act.put,lsA,lsZ,lsS]
        refine wpAnyG.one 11 (by as_aux_lemma=>kernel_rfl) (by decide) (by rfl) (fun K hK=>?_)
        simp only [lgA,lgZ,lgS]
        go_simp
        refine hK _ _ ⟨fun _=>HBX _ hc0,fun _=>trivial⟩ ?_
        clear hK K
        refine wpAnyG.one 12 (by as_aux_lemma=>kernel_rfl) (by decide) (by rfl) (fun K hK=>?_)
        simp only [lgA,lgZ,lgS]
        go_simp
        have hc1:Below wt.heap.size wt (y0.alloc (.cells #[.bool p1,.slice a1 n1 k1,.slice d1 m1 l1,.string nv,.int .i64 0,.int .i64 0] 59)):=bel_a hc0
        have BI:=box_new y0 #[.bool p1,.slice a1 n1 k1,.slice d1 m1 l1,.string nv,.int .i64 0,.int .i64 0] 59
        have hy0s:(y0.alloc (.cells #[.bool p1,.slice a1 n1 k1,.slice d1 m1 l1,.string nv,.int .i64 0,.int .i64 0] 59)).heap.size=y0.heap.size+1:=by simp
        generalize y0.alloc (.cells #[.bool p1,.slice a1 n1 k1,.slice d1 m1 l1,.string nv,.int .i64 0,.int .i64 0] 59)=y1 at *
        refine hK _ _ ⟨fun _=>HBX _ hc1,fun _=>trivial⟩ ?_
        clear hK K
        refine wpAnyG.one 13 (by as_aux_lemma=>kernel_rfl) (by decide) (by rfl) (fun K hK=>?_)
        simp only [lgA,lgZ,lgS]
        have SY:=sN.below hc1
        have RY:=RC.below hc1
        have hys:=hc1.size
        refine wp_appendS y1 _ _ 38 59 6 88 rfl Tryz.underlying38 infItem (by decide) (by decide) wo.heap.size (.slice ia m ic) m EN rfl SY y0.heap.size 1 rfl [.bool p1,.slice a1 n1 k1,.slice d1 m1 l1,.string nv,.int .i64 0,.int .i64 0] rfl (fun u hu=>by simp at hu;rcases hu with rfl|rfl|rfl|rfl|rfl|rfl <;> rfl) BI (by omega) (by have:=hys;omega) (y0.heap.size+1) hy0s ?_
        intro g4 cap4 y2 SN hgrow hat _
        have RZ:=RY.kept hgrow (SY.neR RY (by decide))
        obtain ⟨RN,ON⟩:=RZ.set 3 (.slice (some ⟨g4,0,none⟩) (m+1) cap4)
        have c3:=(RZ.cell 3).trans (show _=some (.slice ia m ic) from rfl)
        have f3:=RZ.frozen 3
        have hc2:Below wo.heap.size wo y2:=(HWT.out _ hc1).trans (grown_below hgrow (by have:=(HWT.out _ hc1).size;omega) (fun k e=>(SY.lt k e).1))
        have RT2:=(RTm.below hc1).kept hgrow (SY.neR (RTm.below hc1) (by decide))
        refine hK _ _ ⟨fun _=>⟨c3,RT2.cell 0,RT2.cell 1,RT2.cell 2,RT2.cell 3,keep_ne hgrow (kept_c hc1 dd5) (fun e=>by have h9:wo.heap.size≤w.heap.size:=(SY.lt _ e).1;have h8:=HBC.out;have h7:=HD.out;omega),keep_ne hgrow (kept_c hc1 vn1) (fun e=>by have h9:wo.heap.size≤vb:=(SY.lt _ e).1;have h8:=hbr.size;have h7:vb<w.heap.size:=World.block_lt_of_cell? _ _ w0c;omega)⟩,fun _=>trivial⟩ ?_
        clear hK K
        refine wpAnyG.one 14 (by as_aux_lemma=>kernel_rfl) (by decide) (by rfl) (fun K hK=>?_)
        simp only [lgA,lgZ,lgS]
        go_simp
        refine hK _ _ ⟨fun h=>absurd h (by decide),fun _=>trivial⟩ ?_
        clear hK K
        refine wpAnyG.one 15 (by as_aux_lemma=>kernel_rfl) (by decide) (by rfl) (fun K hK=>?_)
        simp only [lgA,lgZ,lgS]
        go_simp
        refine hK _ _ ⟨fun h=>absurd h (by decide),fun _=>trivial⟩ ?_
        clear hK K
        refine wpAnyG.done (by as_aux_lemma=>kernel_rfl) (NoPanic.normal ?_)
        replace kN:∀ q,q<m+1→IQ w ((fun q=>if q<m then EN q else [.bool p1,.slice a1 n1 k1,.slice d1 m1 l1,.string nv,.int .i64 0,.int .i64 0]) q) (itK P i (k+1) q) (Zt (fxq (okR P i) (k+1) q)):=fun q hq9=>by
         by_cases e:q<m
         ·simp only [e,if_true]
          have e8:q<flt (okR P i) k:=by rw [← EM.out];exact e
          have h9:=kN q e
          unfold itK at h9 ⊢
          rw [fxq_old e8]
          exact h9
         ·obtain rfl:q=m:=by omega
          simp only [Nat.lt_irrefl,if_false]
          exact EIK.out
        have SN2:=SN.kept ON.grown (fun k e e2=>SN.neR RZ (by decide) (by rw [e];exact e2.symm))
        have hq2:Below wo.heap.size wo (y2.setCell ⟨bC,3,none⟩ (.slice (some ⟨g4,0,none⟩) (m+1) cap4)):=hc2.trans (ON.below HBC.out.1)
        replace RN:Rw 61 (y2.setCell ⟨bC,3,none⟩ (.slice (some ⟨g4,0,none⟩) (m+1) cap4)) bC #[.string nm,.int .i64 0,.int .i64 0,.slice (some ⟨g4,0,none⟩) (m+1) cap4,.bool hl,.bool p2,.slice a2 n2 k2,.slice d2 m2 l2,.bool hh,.bool p3,.slice a3 n3 k3,.slice d3 m3 l3]:=by simpa using RN
        have efl:flt (okR P i) (k+1)=m+1:=by rw [flt_yes hok,EM.out]
        rw [← efl] at kN
        have SN3:SL (y2.setCell ⟨bC,3,none⟩ (.slice (some ⟨g4,0,none⟩) (m+1) cap4)) wo.heap.size 59 6 (.slice (some ⟨g4,0,none⟩) (m+1) cap4) (flt (okR P i) (k+1)) (fun q=>if q<m then EN q else [.bool p1,.slice a1 n1 k1,.slice d1 m1 l1,.string nv,.int .i64 0,.int .i64 0]):=by rw [efl];exact SN2
        clear SN SN2 RZ ON c3 f3 efl HBX RTm RC sN c30 dd5 vn1 hc1 hgrow SY RY RT2 w0c
        generalize y2.setCell ⟨bC,3,none⟩ (.slice (some ⟨g4,0,none⟩) (m+1) cap4)=y3 at *
        go_wp2
        go_roundw
        case rel=>first|exact ⟨k+1,by omega,by omega,_,RN,_,SN3,kN⟩|exact ⟨k+1,by omega,by omega,⟨_,RN,⟨_,SN3,kN⟩⟩,hq2⟩|exact ⟨k+1,_,_,by omega,by go_num,RN,SN3,kN,hq2⟩|((repeat apply Exists.intro);refine ⟨?_,rfl⟩;exact ⟨k+1,_,_,by omega,by go_num,RN,SN3,kN,hq2⟩)
        case measure=>simp [intOf];omega
       ·have hok':okR P i k=false:=by simpa using hok
        have hfl:=flt_no hok'
        have kN2:∀ q,q<flt (okR P i) (k+1)→IQ w (EN q) (itK P i (k+1) q) (Zt (fxq (okR P i) (k+1) q)):=fun q hq9=>by
         rw [hfl] at hq9
         unfold itK
         rw [fxq_no hok']
         exact kN q hq9
        have sN2:SL wr wo.heap.size 59 6 vN (flt (okR P i) (k+1)) EN:=by rw [hfl];exact sN
        replace sN2:=sN2.below hzT
        have RC2:=RC.below hzT
        have hr1:xv<0∨0≤xv∧¬ xv<(P.vn:Int):=by
         have h9:=hok
         unfold okR at h9
         rw [← EXV.out,Bool.and_eq_true,decide_eq_true_iff,decide_eq_true_iff] at h9
         omega
        have y0:=((Rw.new 56 wr #[.int .i64 xv,.bool p1,.slice a1 n1 k1,.slice d1 m1 l1]).cell 0).trans (show _=some (.int .i64 xv) from rfl)
        have dd5:=kept_c hzT d5
        clear hfl kN sN RC hok hok'
        rcases hr1 with hr1|⟨hr1,hr2⟩
        ·have hr3:¬ 0≤xv:=by omega
         go_wp2
         go_roundw
         case rel=>first|exact ⟨k+1,_,_,by omega,by go_num,RC2,sN2,kN2,hqT⟩|((repeat apply Exists.intro);refine ⟨?_,rfl⟩;exact ⟨k+1,_,_,by omega,by go_num,RC2,sN2,kN2,hqT⟩)
         case measure=>simp [intOf];omega
        ·go_wp2
         go_roundw
         case rel=>first|exact ⟨k+1,_,_,by omega,by go_num,RC2,sN2,kN2,hqT⟩|((repeat apply Exists.intro);refine ⟨?_,rfl⟩;exact ⟨k+1,_,_,by omega,by go_num,RC2,sN2,kN2,hqT⟩)
         case measure=>simp [intOf];omega
      ·have hkJ:¬ (k:Int)<(nt:Int):=by omega
       obtain rfl:nt=k:=by omega
       have T3:=h.below hq
       have hBq:=hB.trans (hq.mono HBC.out.2)
       obtain ⟨ia,ic,rfl,hic⟩:=sN.form
       obtain ⟨m,em⟩:∃ m,m=flt (okR P i) nt:=⟨_,rfl⟩
       have hQ9:=HQC.out
       rw [← em] at sN RC hic kN hQ9
       clear em
       have hzC:=bel_d0 wr (.cells #[.string nm,.int .i64 0,.int .i64 0,.slice ia m ic,.bool hl,.bool p2,.slice a2 n2 k2,.slice d2 m2 l2,.bool hh,.bool p3,.slice a3 n3 k3,.slice d3 m3 l3] 61)
       have QCm:=hQ9 _ ia ic EN ((sN.mono HBC.out.2).below hzC) kN hic
       have h2:=T3.below hzC
       have hB2:=hBq.trans (hzC.mono (HBS.out _ hBq))
       have hBs9:=HBS.out _ hBq
       obtain ⟨EC,sC,kC⟩:=id h2.c
       obtain ⟨ca,cc,rfl,hcc⟩:=sC.form
       have N5:=box_new wr #[.string nm,.int .i64 0,.int .i64 0,.slice ia m ic,.bool hl,.bool p2,.slice a2 n2 k2,.slice d2 m2 l2,.bool hh,.bool p3,.slice a3 n3 k3,.slice d3 m3 l3] 61
       have z0:=(RC.cell 0).trans (show _=some (.string nm) from rfl)
       have z1:=(RC.cell 1).trans (show _=some (.int .i64 0) from rfl)
       have z2:=(RC.cell 2).trans (show _=some (.int .i64 0) from rfl)
       have z3:=(RC.cell 3).trans (show _=some (.slice ia m ic) from rfl)
       have z4:=(RC.cell 4).trans (show _=some (.bool hl) from rfl)
       have z5:=(RC.cell 5).trans (show _=some (.bool p2) from rfl)
       have z6:=(RC.cell 6).trans (show _=some (.slice a2 n2 k2) from rfl)
       have z7:=(RC.cell 7).trans (show _=some (.slice d2 m2 l2) from rfl)
       have z8:=(RC.cell 8).trans (show _=some (.bool hh) from rfl)
       have z9:=(RC.cell 9).trans (show _=some (.bool p3) from rfl)
       have z10:=(RC.cell 10).trans (show _=some (.slice a3 n3 k3) from rfl)
       have z11:=(RC.cell 11).trans (show _=some (.slice d3 m3 l3) from rfl)
       have r3:=(T3.rw.cell 3).trans (show _=some (.slice ca i cc) from rfl)
       clear hQ9 kN
       go_wp2_with (at_builtin;refine wpList_appendS _ rfl _ _ 39 61 12 184 rfl Tryz.underlying39 infClaim (by decide) (by decide) B (.slice ca i cc) i EC rfl sC (wr.heap.size) _ rfl [.string nm,.int .i64 0,.int .i64 0,.slice ia m ic,.bool hl,.bool p2,.slice a2 n2 k2,.slice d2 m2 l2,.bool hh,.bool p3,.slice a3 n3 k3,.slice d3 m3 l3] rfl (fun u hu=>by simp at hu;rcases hu with rfl|rfl|rfl|rfl|rfl|rfl|rfl|rfl|rfl|rfl|rfl|rfl <;> rfl) N5 (by omega) (by simp;omega) (wr.heap.size+1) (by simp) ?_)
       intro g5 cap5 w7 SN hgrow _ _
       have T5:=h2.addC sC kC SN hgrow QCm
       have RZ:=h2.rw.kept hgrow (sC.neR h2.rw (by decide))
       have O3:=(RZ.set 3 (.slice (some ⟨g5,0,none⟩) (i+1) cap5)).2
       have hB5:Below B W1 (w7.setCell ⟨RT,3,none⟩ (.slice (some ⟨g5,0,none⟩) (i+1) cap5)):=(hB2.trans (grown_below hgrow (by have:=HBS.out _ hB2;omega) (fun k e=>(sC.lt k e).1))).trans (O3.below T5.lo)
       have c3:=(RZ.cell 3).trans (show _=some (.slice ca i cc) from rfl)
       have f3:=RZ.frozen 3
       clear z0 z1 z2 z3 z4 z5 z6 z7 z8 z9 z10 z11 r3 T3 h2 hB2 RC hzC N5 SN hgrow RZ O3 sC kC QCm d6 dT sN hq hB h HXD
       obtain ⟨W8,hW8⟩:∃ W8,W8=w7.setCell ⟨RT,3,none⟩ (.slice (some ⟨g5,0,none⟩) (i+1) cap5):=⟨_,rfl⟩
       rw [← hW8] at T5 hB5
       have HW8:Hid (W8=w7.setCell ⟨RT,3,none⟩ (.slice (some ⟨g5,0,none⟩) (i+1) cap5)):=hW8
       clear hW8
       go_wp2_with (refine wpList_store1W rfl 39 _ _ rfl RT 3 (.slice (some ⟨g5,0,none⟩) (i+1) cap5) rfl rfl rfl rfl (by kernel_rfl) c3 f3 W8 HW8 ?_;clear HW8 c3 f3)
       rw [← era]
       go_roundw
       case rel=>first|exact ⟨i+1,_,by omega,by go_num,T5,hB5⟩|((repeat apply Exists.intro);refine ⟨?_,rfl⟩;exact ⟨i+1,_,by omega,by go_num,T5,hB5⟩)
       case measure=>simp [intOf];omega
    ·have hkI:¬ (i:Int)<(P.rn:Int):=by omega
     obtain rfl:i=P.rn:=by omega
     obtain ⟨E1,s1,_⟩:=id h.i
     obtain ⟨ia,ic,rfl,_⟩:=s1.form
     obtain ⟨E2,s2,_⟩:=id h.l
     obtain ⟨la,lc,rfl,_⟩:=s2.form
     obtain ⟨E3,s3,_⟩:=id h.m
     obtain ⟨wa,wc,rfl,_⟩:=s3.form
     obtain ⟨E4,s4,_⟩:=id h.c
     obtain ⟨ca,cc,rfl,_⟩:=s4.form
     have Y1:=Y0.below (HBW.out _ hB)
     have q0:=(h.rw.cell 0).trans (show _=some (.bool P.mx) from rfl)
     have q1:=(h.rw.cell 1).trans (show _=some (.string P.nm) from rfl)
     have q2:=(h.rw.cell 2).trans (show _=some (.slice ia (P.vn+1) ic) from rfl)
     have q3:=(h.rw.cell 3).trans (show _=some (.slice ca P.rn cc) from rfl)
     have q4:=(h.rw.cell 4).trans (show _=some (.slice la P.vn lc) from rfl)
     have q5:=(h.rw.cell 5).trans (show _=some (.slice wa (flt (whP P) P.vn) wc) from rfl)
     have q6:=(h.rw.cell 6).trans (show _=some (.slice none 0 0) from rfl)
     have hbr:Below w.heap.size w wr:=hb1.trans ((HBW.out _ hB).mono hb1.size)
     clear s1 s2 s3 s4
     go_wp2_with (refine Y1.put #[.bool P.mx,.string P.nm,.slice ia (P.vn+1) ic,.slice ca P.rn cc,.slice la P.vn lc,.slice wa (flt (whP P) P.vn) wc,.slice none 0 0] rfl _ _ rfl rfl rfl textI7 rfl (by simp [Value.oneCell']) ?_)
     intro w9 R9 O9
     have T9:=h.offX O9 (by have:=HB.out;omega)
     have hb9:=hbr.trans (O9.below (Nat.le_succ w.heap.size))
     clear q0 q1 q2 q3 q4 q5 q6 Y1 h hB
     go_wp2
     exact bodyPost_ret (R9.ret1 Tryz.results8 _ rfl Tryz.underlying43 textI7) rfl ⟨ia,ic,ca,cc,la,lc,wa,wc,rfl,T9.tx hb9 hP hvn,hb9⟩
end Go.Proofs.YtceigfafmalfgaaGreatDoor

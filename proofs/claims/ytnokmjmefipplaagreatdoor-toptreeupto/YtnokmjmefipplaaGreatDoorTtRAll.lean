import Derived.Test.YtnokmjmefipplaaGreatDoorTtOAll
import Derived.Test.YtnokmjmefipplaaGreatDoorTtGAll
import Derived.Test.YtnokmjmefipplaaGreatDoorTtDAll
import Derived.Test.YtnokmjmefipplaaGreatDoorPuAAll
import Derived.Test.YtnokmjmefipplaaGreatDoorPvFAll
set_option maxRecDepth 100000
set_option maxHeartbeats 16000000
namespace Go.Proofs.YtnokmjmefipplaaGreatDoor
open Go.RowKit Go.Shelf
attribute [local go_sem] Oper.semAt_some
def Srch.inf (s:Srch):Bool:=!decide (s.vd = 1)
def AccT (P:Prob) (s:Srch):Prop:=0 < s.tn∧(∀ k,(s.T k).sp = false)∧AccL P (s.T 0).C s
def TcR (P:Prob) (s:Srch) (w:World) (e:Ending) (w':World):Prop:=Below w.heap.size w w'∧((∃ v,e = .returned v∧uO v∧¬ AccT P s)∨(e = .returned .nilIface∧Cov P (box0 P) s.inf s.v))
theorem aI4 {P:Prob} {s:Srch} {C:Crt} {x:WyD} {B:Nat→BxV} {Z:Nat→Nat} {K:Nat} (h:aA7 (x.prob P B Z K) C s):Cov P B s.inf s.v:=by
 rcases h with ⟨_,h⟩ | ⟨h1,_,h3,h4,h5⟩
 ·exact Cov.none fun n X hX=>h n X hX
 ·have e:s.inf = false:=by unfold Srch.inf;rw [decide_eq_true h1];rfl
  rw [e]
  exact Cov.leaf (Y:=C.Y) h3 h4 h5
theorem aI5 {P:Prob} {s:Srch} {x:WyD} {k:Nat} {B:Nat→BxV} {Z:Nat→Nat} {K:Nat} (hB:Bx P s.T k B) (h:¬ AccL (x.prob P B Z K) (s.T k).C s):¬ AccT P s:=fun ⟨_,h1,h2⟩=>by
 obtain ⟨rfl,rfl⟩:=hB.leaf (h1 0)
 exact h h2
def CtA (u v:Value) (h:Nat) (V:World):Prop:=∃ cs ds,u = .agg cs∧v = .agg ds∧Rw 31 V h cs∧Rw 47 V (h + 1) ds
def CtX (P:Prob) (s:Srch) (N R:Nat) (w:World) (c:Code) (V:World):Prop:=c = .ret∧∃ v,uO v∧¬ AccT P s∧Rw 38 V R #[v]∧Below N w V
theorem aI6 (P:Prob) (s:Srch) (w:World) (hP:PQ w P) (hS:SQ w s) (hK:P.K + s.K≤1048576) (hT:TB w) {eS eP eV eR eD eT:Value} {pB:Addr} (EH:EE w eS eP eV (.iface 173 (.pointer (some pB))) eR eD) (ET:Errs w 3 eT) :
 Calls Tryz.prog 10 #[P.val,s.val] w fun e w'=>TcR P s w e w':=by
 refine (callsIn_wide (n:=3)).1 ?_
 have hallS:=hS.all
 have hallP:=hP.all
 have htot:tot s.ZT s.tn≤s.K:=by omega
 have htn:s.tn≤1048576:=by have:=aT s.ZT s.tn;omega
 unfold Prob.val Srch.val
 obtain ⟨Pb,Sb,Eb,hb0,hs0⟩:=iT w #[.bool P.mx,.string P.nm,.bool P.p,.slice P.a P.na P.ca,.slice P.d P.nd P.cd,.slice P.va P.vn P.vc,.slice P.ra P.rn P.rc] 31 #[.int .i64 s.vd,.bool s.p,.slice s.a s.na s.ca,.slice s.d s.nd s.cd,.slice s.xa s.xn s.xc,.slice s.za s.zn s.zc,.slice s.ta s.tn s.tc,.int .i64 s.nn] 35 #[.nilIface] 38
 have Er:=Rw.new 38 ((w.alloc (.cells #[.bool P.mx,.string P.nm,.bool P.p,.slice P.a P.na P.ca,.slice P.d P.nd P.cd,.slice P.va P.vn P.vc,.slice P.ra P.rn P.rc] 31)).alloc (.cells #[.int .i64 s.vd,.bool s.p,.slice s.a s.na s.ca,.slice s.d s.nd s.cd,.slice s.xa s.xn s.xc,.slice s.za s.zn s.zc,.slice s.ta s.tn s.tc,.int .i64 s.nn] 35)) #[.nilIface]
 rw [show ((w.alloc (.cells #[.bool P.mx,.string P.nm,.bool P.p,.slice P.a P.na P.ca,.slice P.d P.nd P.cd,.slice P.va P.vn P.vc,.slice P.ra P.rn P.rc] 31)).alloc (.cells #[.int .i64 s.vd,.bool s.p,.slice s.a s.na s.ca,.slice s.d s.nd s.cd,.slice s.xa s.xn s.xc,.slice s.za s.zn s.zc,.slice s.ta s.tn s.tc,.int .i64 s.nn] 35)).heap.size = w.heap.size + 2 from by simp] at Er
 have p0:=Pb 0 _ rfl
 have p1:=Pb 1 _ rfl
 have p2:=Pb 2 _ rfl
 have p3:=Pb 3 _ rfl
 have p4:=Pb 4 _ rfl
 have p5:=Pb 5 _ rfl
 have p6:=Pb 6 _ rfl
 have s6:=Sb 6 _ rfl
 refine callsIn_of_wp_marks Tryz.func10 rfl trivial ?_ rfl
 simp only [Tryz.ntmps10,List.size_toArray,List.length_cons,List.length_nil,Nat.reduceAdd,Nat.reduceSub,Array.replicate_succ,Array.replicate_zero,List.push_toArray,List.append_toArray,List.nil_append,List.cons_append]
 gi_wp2
 clear p0 p1 p2 p3 p4 p5 p6 s6
 generalize ((w.alloc (.cells #[.bool P.mx,.string P.nm,.bool P.p,.slice P.a P.na P.ca,.slice P.d P.nd P.cd,.slice P.va P.vn P.vc,.slice P.ra P.rn P.rc] 31)).alloc (.cells #[.int .i64 s.vd,.bool s.p,.slice s.a s.na s.ca,.slice s.d s.nd s.cd,.slice s.xa s.xn s.xc,.slice s.za s.zn s.zc,.slice s.ta s.tn s.tc,.int .i64 s.nn] 35)).alloc (.cells #[.nilIface] 38) = W0 at *
 refine ⟨trivial,?_⟩
 refine (callsIn_wide.2 (aR6 P W0 (hP.below hb0) (by omega) (hS.t.below hb0) htn)).mono ?_
 rintro e W1 ⟨tb,rfl,hgood,hacc,h1⟩
 have hb1:=aB hb0 h1
 replace Pb:=Pb.below h1
 replace Sb:=Sb.below h1
 replace Er:=Er.below h1
 have hs1:=h1.size
 clear h1 hb0 Eb
 cases tb
 ·have HN:Hid (¬ AccT P s):=fun ⟨q1,q2,_⟩=>by have:=hacc q1 q2;cases this
  obtain ⟨ec,pp,rfl⟩:=ET.below hb1
  have e0:W1.cell? ⟨w.heap.size + 2,0,none⟩ = some .nilIface:=Er.cell 0
  have f0:=Er.frozen 0
  have O:Off (w.heap.size + 2) W1 (W1.setCell ⟨w.heap.size + 2,0,none⟩ (.iface 173 (.pointer (some pp)))):=(Off.refl _ _).set 0 _
  have hbE:=hb1.trans (O.below (by omega:w.heap.size≤w.heap.size + 2))
  have c0:(W1.setCell ⟨w.heap.size + 2,0,none⟩ (.iface 173 (.pointer (some pp)))).cell? ⟨w.heap.size + 2,0,none⟩ = some (.iface 173 (.pointer (some pp))):=World.cell?_setCell_same _ _ _ e0
  clear O
  gi_wp2
  exact ⟨.iface 173 (.pointer (some pp)),by simp [results,Tryz.results10,go_sem,c0],hbE,.inl ⟨_,rfl,⟨_,rfl⟩,HN.out⟩⟩
 ·have hgd:=hgood rfl
  have htn0:=hgd.1
  rcases hS.t with q | ⟨b,o,eta,hnd⟩
  ·omega
  have HETA:Hid (s.ta = some ⟨b,o,none⟩):=eta
  clear eta
  have p0:=Pb 0 _ rfl
  have p1:=Pb 1 _ rfl
  have p2:=Pb 2 _ rfl
  have p3:=Pb 3 _ rfl
  have p4:=Pb 4 _ rfl
  have p5:=Pb 5 _ rfl
  have p6:=Pb 6 _ rfl
  have s6:=Sb 6 _ rfl
  gi_wp2
  clear p0 p1 p2 p3 p4 p5 p6 s6
  refine ⟨trivial,?_⟩
  refine (lvIn P _ _ _ _ _).mono ?_
  rintro e w' ⟨rfl,rfl⟩
  have hz1:=aG W1 (.cells #[.bool P.mx,.string P.nm,.bool P.p,.slice P.a P.na P.ca,.slice P.d P.nd P.cd,.slice P.va P.vn P.vc,.slice P.ra P.rn P.rc] 31)
  have hz2:=aG (W1.alloc (.cells #[.bool P.mx,.string P.nm,.bool P.p,.slice P.a P.na P.ca,.slice P.d P.nd P.cd,.slice P.va P.vn P.vc,.slice P.ra P.rn P.rc] 31)) (.cells #[.slice s.ta s.tn s.tc] 33)
  have Qb:=(aJ W1 #[.bool P.mx,.string P.nm,.bool P.p,.slice P.a P.na P.ca,.slice P.d P.nd P.cd,.slice P.va P.vn P.vc,.slice P.ra P.rn P.rc] 31).below hz2
  have Tb:=aJ (W1.alloc (.cells #[.bool P.mx,.string P.nm,.bool P.p,.slice P.a P.na P.ca,.slice P.d P.nd P.cd,.slice P.va P.vn P.vc,.slice P.ra P.rn P.rc] 31)) #[.slice s.ta s.tn s.tc] 33
  have hsW:(W1.alloc (.cells #[.bool P.mx,.string P.nm,.bool P.p,.slice P.a P.na P.ca,.slice P.d P.nd P.cd,.slice P.va P.vn P.vc,.slice P.ra P.rn P.rc] 31)).heap.size = W1.heap.size + 1:=by simp
  rw [hsW] at Tb
  have hbz:=aB hz1 hz2
  have hbU:=aB hb1 hbz
  have PbU:=Pb.below hbz
  have SbU:=Sb.below hbz
  have ErU:=Er.below hbz
  have hsU:((W1.alloc (.cells #[.bool P.mx,.string P.nm,.bool P.p,.slice P.a P.na P.ca,.slice P.d P.nd P.cd,.slice P.va P.vn P.vc,.slice P.ra P.rn P.rc] 31)).alloc (.cells #[.slice s.ta s.tn s.tc] 33)).heap.size = W1.heap.size + 2:=by simp
  gi_wp2
  generalize (W1.alloc (.cells #[.bool P.mx,.string P.nm,.bool P.p,.slice P.a P.na P.ca,.slice P.d P.nd P.cd,.slice P.va P.vn P.vc,.slice P.ra P.rn P.rc] 31)).alloc (.cells #[.slice s.ta s.tn s.tc] 33) = U at *
  obtain ⟨H,hH⟩:∃ H,W1.heap.size = H:=⟨_,rfl⟩
  rw [hH] at Qb Tb hsU hs1 ⊢
  clear hz1 hz2 hsW hbz Pb Sb Er hH hb1 hgood hacc
  have hTr:TrQ U P s.T s.tn s.ZT b o:=⟨fun i hi=>(hnd i hi).below hbU,hgd,by omega⟩
  have hbt:U.cell? ⟨H + 1,0,none⟩ = some (.slice (some ⟨b,o,none⟩) s.tn s.tc):=by rw [← HETA.out];exact Tb 0 _ rfl
  have hseq:=aR2 (bp:=H) (bt:=H + 1) s.inf s.v U (hP.below hbU) hTr (hT.below hbU) (by omega) Qb hbt
  refine oM (gf:=53) (lb:=#[.pointer (some ⟨H,0,none⟩),.pointer (some ⟨H + 1,0,none⟩)]) rfl rfl rfl trivial (enters_of Tryz.func53 (by kernel_rfl) rfl) hseq
   (fun C _ q u v V V' ⟨x,Z,e1,e2,e3,e4,e5,e6⟩ _ hk=>⟨x,Z,e1,e2,e3,e4,e5,fun V2 q1 q2=>e6 V2 q1 (hk.trans q2)⟩) (Below.refl _ U) rfl
   CtA (fun C u v h V V' ⟨cs,ds,e1,e2,r1,r2⟩ hk hC=>⟨cs,ds,e1,e2,r1.keptY hk hC,r2.keptY hk (by omega)⟩) (fun _ _=>True) (CtX P s w.heap.size (w.heap.size + 2) w) (fun _ _ _ _ _=>trivial) ?ix (fun _ _ _=>trivial) trivial
   (fun u v h=>{ tmps:=#[.agg #[.bool P.mx,.string P.nm,.bool P.p,.slice P.a P.na P.ca,.slice P.d P.nd P.cd,.slice P.va P.vn P.vc,.slice P.ra P.rn P.rc],.agg #[.int .i64 s.vd,.bool s.p,.slice s.a s.na s.ca,.slice s.d s.nd s.cd,.slice s.xa s.xn s.xc,.slice s.za s.zn s.zc,.slice s.ta s.tn s.tc,.int .i64 s.nn],.pointer (some ⟨w.heap.size,0,none⟩),.pointer (some ⟨w.heap.size + 1,0,none⟩),.pointer (some ⟨w.heap.size + 1 + 1,0,none⟩),.pointer (some ⟨h,0,none⟩),.pointer (some ⟨h + 1,0,none⟩),undef,.agg #[.bool P.mx,.string P.nm,.bool P.p,.slice P.a P.na P.ca,.slice P.d P.nd P.cd,.slice P.va P.vn P.vc,.slice P.ra P.rn P.rc],.pointer (some ⟨w.heap.size + 1,6,none⟩),.slice s.ta s.tn s.tc,.bool true,.bool false,undef,.agg #[.bool P.mx,.string P.nm,.bool P.p,.slice P.a P.na P.ca,.slice P.d P.nd P.cd,.slice P.va P.vn P.vc,.slice P.ra P.rn P.rc],.pointer (some ⟨w.heap.size + 1,6,none⟩),.slice s.ta s.tn s.tc,.func (.func 53) #[] #[.pointer (some ⟨H,0,none⟩),.pointer (some ⟨H + 1,0,none⟩)],u,v,undef,undef,undef,undef,undef,undef,undef],defers:=[] }) ?assign ?body ?done ?stop
  case ix =>
   rintro c A A' ⟨q1,v,q2,q3,q4,q5⟩ hb
   refine ⟨q1,v,q2,q3,(hb.block _ (by omega)).trans q4,q5.trans (hb.mono (by omega))⟩
  case assign =>
   rintro l m u v V K ⟨C,_,q,V',x,Z,rfl,rfl,_⟩ hK
   obtain ⟨Pq,ePq⟩:∃ Pq,Pq = x.prob P q.2 Z (P.K + tot s.ZT q.1):=⟨_,rfl⟩
   obtain ⟨Cq,eCq⟩:∃ Cq,Cq = (s.T q.1).C:=⟨_,rfl⟩
   rw [← ePq,← eCq] at hK ⊢
   clear ePq eCq
   unfold Prob.val Crt.val at hK ⊢
   have r1:=(Rw.new 31 V #[.bool Pq.mx,.string Pq.nm,.bool Pq.p,.slice Pq.a Pq.na Pq.ca,.slice Pq.d Pq.nd Pq.cd,.slice Pq.va Pq.vn Pq.vc,.slice Pq.ra Pq.rn Pq.rc]).below (aG _ (.cells #[.int .i64 Cq.vd,.bool Cq.p,.slice Cq.a Cq.na Cq.ca,.slice Cq.d Cq.nd Cq.cd,.slice Cq.xa Cq.xn Cq.xc,.slice Cq.ya Cq.yn Cq.yc,.slice Cq.za Cq.zn Cq.zc] 47))
   have r2:=Rw.new 47 (V.alloc (.cells #[.bool Pq.mx,.string Pq.nm,.bool Pq.p,.slice Pq.a Pq.na Pq.ca,.slice Pq.d Pq.nd Pq.cd,.slice Pq.va Pq.vn Pq.vc,.slice Pq.ra Pq.rn Pq.rc] 31)) #[.int .i64 Cq.vd,.bool Cq.p,.slice Cq.a Cq.na Cq.ca,.slice Cq.d Cq.nd Cq.cd,.slice Cq.xa Cq.xn Cq.xc,.slice Cq.ya Cq.yn Cq.yc,.slice Cq.za Cq.zn Cq.zc]
   rw [World.size_alloc] at r2
   have hk2:=hK _ (aB (aG V (.cells #[.bool Pq.mx,.string Pq.nm,.bool Pq.p,.slice Pq.a Pq.na Pq.ca,.slice Pq.d Pq.nd Pq.cd,.slice Pq.va Pq.vn Pq.vc,.slice Pq.ra Pq.rn Pq.rc] 31)) (aG _ (.cells #[.int .i64 Cq.vd,.bool Cq.p,.slice Cq.a Cq.na Cq.ca,.slice Cq.d Cq.nd Cq.cd,.slice Cq.xa Cq.xn Cq.xc,.slice Cq.ya Cq.yn Cq.yc,.slice Cq.za Cq.zn Cq.zc] 47))) ⟨_,_,rfl,rfl,r1,r2⟩
   clear hK r1 r2
   gi_wp2
   exact hk2
  case body =>
   rintro l m _ q u v h V ⟨cs,ds,rfl,rfl,R1,R2⟩ hh _ hbV ⟨x,Z,e1,e2,hBx,hsp,hkt,hpq⟩
   obtain ⟨Pq,ePq⟩:∃ Pq,Pq = x.prob P q.2 Z (P.K + tot s.ZT q.1):=⟨_,rfl⟩
   obtain ⟨Cq,eCq⟩:∃ Cq,Cq = (s.T q.1).C:=⟨_,rfl⟩
   rw [← ePq] at e1 hpq
   rw [← eCq] at e2
   obtain rfl:cs = #[.bool Pq.mx,.string Pq.nm,.bool Pq.p,.slice Pq.a Pq.na Pq.ca,.slice Pq.d Pq.nd Pq.cd,.slice Pq.va Pq.vn Pq.vc,.slice Pq.ra Pq.rn Pq.rc]:=by simpa [Prob.val] using e1
   obtain rfl:ds = #[.int .i64 Cq.vd,.bool Cq.p,.slice Cq.a Cq.na Cq.ca,.slice Cq.d Cq.nd Cq.cd,.slice Cq.xa Cq.xn Cq.xc,.slice Cq.ya Cq.yn Cq.yc,.slice Cq.za Cq.zn Cq.zc]:=by simpa [Crt.val] using e2
   have hPq:=hpq V hbV (KeptY.refl _ _)
   have hnode:=hnd q.1 hkt
   have hbwV:=hbU.trans (hbV.mono hbU.size)
   have hCq:CQ V Cq:=by rw [eCq];exact hnode.cq.below hbwV
   have hKq:Pq.K + Cq.K≤1048576:=by
    obtain ⟨Tk,_,t1,t2⟩:=hnode.ti
    have h1:tot s.ZT (q.1 + 1)≤tot s.ZT s.tn:=pJ s.ZT hkt
    have h2:tot s.ZT (q.1 + 1) = tot s.ZT q.1 + s.ZT q.1 + 1:=rfl
    rw [ePq,eCq]
    show P.K + tot s.ZT q.1 + (s.T q.1).C.K≤1048576
    omega
   have HLF:=aR4 Pq Cq s V hPq hCq (hS.below hbwV) hKq (by omega) (hT.below hbwV) (EH.below hbwV)
   have HOK:Hid ((aA7 Pq Cq s→Cov P q.2 s.inf s.v)∧(¬ AccL Pq Cq s→¬ AccT P s)):=by
    rw [ePq,eCq]
    exact ⟨fun h=>aI4 h,fun h=>aI5 hBx h⟩
   have SbV:=SbU.below hbV
   have ErV:Rw 38 V (w.heap.size + 2) #[.nilIface]:=ErU.below hbV
   clear e1 e2 hpq ePq eCq hnode hPq hCq hKq hBx hsp hseq
   unfold Prob.val Crt.val Srch.val at HLF
   have a0:=R1.cell 0
   have a1:=R1.cell 1
   have a2:=R1.cell 2
   have a3:=R1.cell 3
   have a4:=R1.cell 4
   have a5:=R1.cell 5
   have a6:=R1.cell 6
   have c0:=R2.cell 0
   have c1:=R2.cell 1
   have c2:=R2.cell 2
   have c3:=R2.cell 3
   have c4:=R2.cell 4
   have c5:=R2.cell 5
   have c6:=R2.cell 6
   have d0:=SbV 0 _ rfl
   have d1:=SbV 1 _ rfl
   have d2:=SbV 2 _ rfl
   have d3:=SbV 3 _ rfl
   have d4:=SbV 4 _ rfl
   have d5:=SbV 5 _ rfl
   have d6:=SbV 6 _ rfl
   have d7:=SbV 7 _ rfl
   gi_wp2
   refine ⟨trivial,fun h=>(by cases h),?_⟩
   refine (callsIn_wide.2 HLF).mono ?_
   rintro e V1 ⟨hb1,⟨v1,rfl,⟨pv1,rfl⟩,hn⟩ | ⟨rfl,hok⟩⟩
   ·have HN:Hid (¬ AccT P s):=HOK.out.2 hn
    have ErV1:=ErV.below hb1
    have e0:V1.cell? ⟨w.heap.size + 1 + 1,0,none⟩ = some .nilIface:=ErV1.cell 0
    have f0:V1.frozen? ⟨w.heap.size + 1 + 1,0,none⟩ = false:=ErV1.frozen 0
    have O:Off (w.heap.size + 1 + 1) V1 (V1.setCell ⟨w.heap.size + 1 + 1,0,none⟩ (.iface 173 (.pointer (some pv1)))):=(Off.refl _ _).set 0 _
    have HX:Hid (KeptY U.heap.size V (V1.setCell ⟨w.heap.size + 1 + 1,0,none⟩ (.iface 173 (.pointer (some pv1))))∧CtX P s w.heap.size (w.heap.size + 2) w .ret (V1.setCell ⟨w.heap.size + 1 + 1,0,none⟩ (.iface 173 (.pointer (some pv1))))):=⟨(KeptY.of_below hb1).trans (KeptY.of_off O (by omega)),rfl,_,⟨_,rfl⟩,HN.out,qV ErV1 0 _,(hbwV.trans (hb1.mono hbwV.size)).trans (O.below (by omega))⟩
    clear HLF HOK a0 a1 a2 a3 a4 a5 a6 c0 c1 c2 c3 c4 c5 c6 d0 d1 d2 d3 d4 d5 d6 d7 O ErV ErV1 hn SbV R1 R2
    gi_wp2
    exact HX.out
   ·have HX:Hid (KeptY U.heap.size V V1∧Below U.heap.size U V1∧Cov P q.2 s.inf s.v):=⟨KeptY.of_below hb1,hbV.trans (hb1.mono hbV.size),HOK.out.1 hok⟩
    clear HLF HOK a0 a1 a2 a3 a4 a5 a6 c0 c1 c2 c3 c4 c5 c6 d0 d1 d2 d3 d4 d5 d6 d7 ErV hok SbV R1 R2
    gi_wp2
    exact ⟨HX.out.1,HX.out.2.1,(),HX.out.2.2,trivial⟩
  case done =>
   rintro D _ V hD hcov _ hbV hKd
   have ErV:Rw 38 V (w.heap.size + 2) #[.nilIface]:=ErU.below hbV
   have e0:V.cell? ⟨w.heap.size + 1 + 1,0,none⟩ = some .nilIface:=ErV.cell 0
   have f0:V.frozen? ⟨w.heap.size + 1 + 1,0,none⟩ = false:=ErV.frozen 0
   have O:Off (w.heap.size + 1 + 1) V (V.setCell ⟨w.heap.size + 1 + 1,0,none⟩ .nilIface):=(Off.refl _ _).set 0 _
   have hKd2:(V.setCell ⟨w.heap.size + 1 + 1,0,none⟩ .nilIface).heap[D]? = some (.deferred (some [])):=(O.block D (by omega)).trans hKd
   have c9:((V.setCell ⟨w.heap.size + 1 + 1,0,none⟩ .nilIface).putObj D (.deferred none)).cell? ⟨w.heap.size + 1 + 1,0,none⟩ = some .nilIface:=(World.cell?_of_block (World.putObj_heap_other (by show w.heap.size + 1 + 1 ≠ D;omega))).trans (World.cell?_setCell_same _ _ _ e0)
   have HX:Hid (TcR P s w (.returned .nilIface) ((V.setCell ⟨w.heap.size + 1 + 1,0,none⟩ .nilIface).putObj D (.deferred none))):=⟨((hbU.trans (hbV.mono hbU.size)).trans (O.below (by omega))).trans (dU _ _ (by omega)),.inr ⟨rfl,hcov⟩⟩
   clear O ErV hseq hcov
   gi_wp2
   refine ⟨by simp,.inl ⟨_,_,rfl,run_takeDeferred hKd2,?_⟩⟩
   exact ⟨_,by simp [results,Tryz.results10,go_sem,c9],HX.out⟩
  case stop =>
   rintro D c V hD ⟨rfl,v,⟨pv,rfl⟩,hn,hRw,hb⟩ hKd
   have c9:(V.putObj D (.deferred none)).cell? ⟨w.heap.size + 1 + 1,0,none⟩ = some (.iface 173 (.pointer (some pv))):=(World.cell?_of_block (World.putObj_heap_other (by show w.heap.size + 1 + 1 ≠ D;omega))).trans (hRw.cell 0)
   have HX:Hid (TcR P s w (.returned (.iface 173 (.pointer (some pv)))) (V.putObj D (.deferred none))):=⟨hb.trans (dU _ _ (by omega)),.inl ⟨_,rfl,⟨_,rfl⟩,hn⟩⟩
   clear hseq hn
   gi_wp2
   refine ⟨by simp,.inl ⟨_,_,rfl,run_takeDeferred hKd,?_⟩⟩
   exact ⟨_,by simp [results,Tryz.results10,go_sem,c9],HX.out⟩
end Go.Proofs.YtnokmjmefipplaaGreatDoor
namespace Go.Proofs.YtnokmjmefipplaaGreatDoor
open Go.RowKit
def NumP (r:Rat) (S:Nat) (w:World) (e:Ending) (w':World):Prop:=∃ f c n k c' n' k',e = .returned (.agg #[.bool f,.slice c n k,.slice c' n' k'])∧TR w' f c n k c' n' k' r S∧Below w.heap.size w w'
theorem aL3 {p:Bool} {a:Option Addr} {na ca:Nat} {d:Option Addr} {nd cd:Nat} {r:Rat} {S:Nat} (w:World) (hr:TR w p a na ca d nd cd r S) (hS:S≤7000000) (hS1:1≤S) (h0:r = 0) :
 Calls Tryz.prog 18 #[.agg #[.bool p,.slice a na ca,.slice d nd cd]] w fun e w'=>e = .returned (.int .i64 0)∧Below w.heap.size w w':=(aC0 w hr hS hS1).mono fun e w' h=>⟨by rw [h.1,h0];rfl,h.2⟩
theorem aM2:(Tryz.prog.info? 27).map (·.size) = some 3:=by kernel_rfl
theorem numT {xa:Option Addr} {n xc:Nat} {X:Nat→Rat} {Zx:Nat→Nat} (u:Nat) (w:World) (hx:LQ w xa n X Zx) (hu:u < n) :
 Calls Tryz.prog 19 #[.slice xa n xc,.int .i64 (u:Nat)] w fun e w'=>NumP (X u) (Zx u) w e w':=by
 have R0:=Rw.new 27 w #[.bool false,.slice none 0 0,.slice none 0 0]
 have hb0:=aG w (.cells #[.bool false,.slice none 0 0,.slice none 0 0] 27)
 have hs0:(w.alloc (.cells #[.bool false,.slice none 0 0,.slice none 0 0] 27)).heap.size = w.heap.size + 1:=by simp
 have h1:(u:Int) < (n:Int):=by omega
 have h2:(u:Int) * 3 = ((u * 3:Nat):Int):=by omega
 have hx0:=hx
 rcases hx with h0 | ⟨b,o,hxa,hel⟩
 ·omega
 obtain ⟨p,a,na,ca,d,nd,cd,x0,x1,x2,hT⟩:=hel u hu
 have y0:=aF hb0 x0
 have y1:=aF hb0 x1
 have y2:=aF hb0 x2
 have HT:Hid (TR w p a na ca d nd cd (X u) (Zx u)):=hT
 subst hxa
 clear hel x0 x1 x2 hT hx0
 go_enter Tryz.func19,Tryz.ntmps19
 go_wp2_with (refine R0.put #[.bool p,.slice a na ca,.slice d nd cd] rfl _ _ rfl rfl rfl aM2 rfl (by simp [Value.oneCell']) ?_)
 intro w2 R2 O
 have hbE:Below w.heap.size w w2:=hb0.trans (O.below (Nat.le_refl _))
 clear R0 O y0 y1 y2 hb0
 go_wp2
 refine bodyPost_ret (v:=.agg #[.bool p,.slice a na ca,.slice d nd cd]) (R2.ret1 Tryz.results19 _ rfl Tryz.underlying27 aM2) rfl ?_
 exact ⟨_,_,_,_,_,_,_,rfl,HT.out.below hbE,hbE⟩
theorem aR7 (P:Prob) (s:Srch) {xa:Option Addr} {nx xc:Nat} {X:Nat→Rat} {Zx:Nat→Nat} {p:Bool} {a:Option Addr} {na ca:Nat} {d:Option Addr} {nd cd:Nat} {m:Rat} {Kx Km:Nat} (w:World) (hP:PQ w P) (hS:SQ w s) (hx:LQ w xa nx X Zx) (hzx:∀ i,i < nx→1≤Zx i∧SzR (X i) (Zx i)) (htx:tot Zx nx≤Kx) (hm:TR w p a na ca d nd cd m Km) (hKm:1≤Km) (hK:P.K + s.K + Kx + Km≤1048576) (hF:Fnd P s) :
 Calls Tryz.prog 6 #[P.val,s.val,.slice xa nx xc,.agg #[.bool p,.slice a na ca,.slice d nd cd]] w fun e w'=>e = .returned (.bool true)∧Below w.heap.size w w':=by
 have hck:=hS.crtK
 have HBY:=fun w1 (hb:Below w.heap.size w w1)=>aK1 P s.crt (Km:=Km) w1 (hP.below hb) (hS.crt.below hb) (hm.below hb) hKm (by omega)
 have hall:=hS.all
 have ht1:=bJ s.ZX s.xn
 have ht2:=bJ s.ZZ s.zn
 have ht3:=bJ s.ZT s.tn
 have hs1:=hS.s1
 have hzX:∀ j,j < nx→1≤Zx j∧Zx j≤6000000:=fun j hj=>⟨(hzx j hj).1,by have:=bI (Z:=Zx) hj;omega⟩
 have hzS:∀ j,j < s.xn→1≤s.ZX j∧s.ZX j≤6000000:=fun j hj=>⟨(hS.zx j hj).1,by have:=bI (Z:=s.ZX) hj;omega⟩
 have HZX:Hid (∀ j,j < nx→1≤Zx j∧Zx j≤6000000):=hzX
 have HZS:Hid (∀ j,j < s.xn→1≤s.ZX j∧s.ZX j≤6000000):=hzS
 clear hzX hzS
 unfold Prob.val Srch.val at *
 obtain ⟨Pb,Sb,Mb,hb0,hs0⟩:=iT w #[.bool P.mx,.string P.nm,.bool P.p,.slice P.a P.na P.ca,.slice P.d P.nd P.cd,.slice P.va P.vn P.vc,.slice P.ra P.rn P.rc] 31 #[.int .i64 s.vd,.bool s.p,.slice s.a s.na s.ca,.slice s.d s.nd s.cd,.slice s.xa s.xn s.xc,.slice s.za s.zn s.zc,.slice s.ta s.tn s.tc,.int .i64 s.nn] 35 #[.bool p,.slice a na ca,.slice d nd cd] 27
 have HF:Hid (Fnd P s):=hF
 clear hF
 have p0:=Pb 0 _ rfl;have p1:=Pb 1 _ rfl;have p2:=Pb 2 _ rfl;have p3:=Pb 3 _ rfl;have p4:=Pb 4 _ rfl;have p5:=Pb 5 _ rfl;have p6:=Pb 6 _ rfl
 go_enter Tryz.func6,Tryz.ntmps6
 go_wp2_with fail
 clear p0 p1 p2 p3 p4 p5 p6
 generalize ((w.alloc (.cells #[.bool P.mx,.string P.nm,.bool P.p,.slice P.a P.na P.ca,.slice P.d P.nd P.cd,.slice P.va P.vn P.vc,.slice P.ra P.rn P.rc] 31)).alloc (.cells #[.int .i64 s.vd,.bool s.p,.slice s.a s.na s.ca,.slice s.d s.nd s.cd,.slice s.xa s.xn s.xc,.slice s.za s.zn s.zc,.slice s.ta s.tn s.tc,.int .i64 s.nn] 35)).alloc (.cells #[.bool p,.slice a na ca,.slice d nd cd] 27) = W0 at *
 refine (aG2 P (Kx:=Kx) W0 (hP.below hb0) (hx.below hb0) hzx htx (by omega)).mono ?_
 rintro e w3 ⟨b1,rfl,hb,h3⟩
 have hb3:=aB hb0 h3
 have HH1:Hid (b1 = true↔bY P nx X):=hb
 replace Pb:=Pb.below h3;replace Sb:=Sb.below h3;replace Mb:=Mb.below h3
 have p0:=Pb 0 _ rfl;have p1:=Pb 1 _ rfl;have p2:=Pb 2 _ rfl;have p3:=Pb 3 _ rfl;have p4:=Pb 4 _ rfl;have p5:=Pb 5 _ rfl;have p6:=Pb 6 _ rfl
 clear h3 hb0 hb
 go_wp2_with fail
 clear p0 p1 p2 p3 p4 p5 p6
 refine (aC3 P w3 (hP.below hb3) (hx.below hb3) HZX.out (by omega)).mono ?_
 rintro e w4 ⟨b2,rfl,hb,h4⟩
 have hb4:=aB hb3 h4
 have HH2:Hid (b2 = true↔Whl P nx X):=hb
 replace Pb:=Pb.below h4;replace Sb:=Sb.below h4;replace Mb:=Mb.below h4
 have p0:=Pb 0 _ rfl;have p1:=Pb 1 _ rfl;have p2:=Pb 2 _ rfl;have p3:=Pb 3 _ rfl;have p4:=Pb 4 _ rfl;have p5:=Pb 5 _ rfl;have p6:=Pb 6 _ rfl;have c0:=Sb 0 _ rfl;have c1:=Sb 1 _ rfl;have c2:=Sb 2 _ rfl;have c3:=Sb 3 _ rfl;have c4:=Sb 4 _ rfl;have c5:=Sb 5 _ rfl;have c6:=Sb 6 _ rfl;have c7:=Sb 7 _ rfl
 clear h4 hb3 hb
 go_wp2_with fail
 clear p0 p1 p2 p3 p4 p5 p6 c0 c1 c2 c3 c4 c5 c6 c7
 refine (aG2 P (Kx:=s.K) w4 (hP.below hb4) (hS.x.below hb4) hS.zx (by omega) (by omega)).mono ?_
 rintro e w5 ⟨b3,rfl,hb,h5⟩
 have hb5:=aB hb4 h5
 have HH3:Hid (b3 = true↔bY P s.xn s.X):=hb
 replace Pb:=Pb.below h5;replace Sb:=Sb.below h5;replace Mb:=Mb.below h5
 have p0:=Pb 0 _ rfl;have p1:=Pb 1 _ rfl;have p2:=Pb 2 _ rfl;have p3:=Pb 3 _ rfl;have p4:=Pb 4 _ rfl;have p5:=Pb 5 _ rfl;have p6:=Pb 6 _ rfl;have c0:=Sb 0 _ rfl;have c1:=Sb 1 _ rfl;have c2:=Sb 2 _ rfl;have c3:=Sb 3 _ rfl;have c4:=Sb 4 _ rfl;have c5:=Sb 5 _ rfl;have c6:=Sb 6 _ rfl;have c7:=Sb 7 _ rfl
 clear h5 hb4 hb
 go_wp2_with fail
 clear p0 p1 p2 p3 p4 p5 p6 c0 c1 c2 c3 c4 c5 c6 c7
 refine (aC3 P w5 (hP.below hb5) (hS.x.below hb5) HZS.out (by omega)).mono ?_
 rintro e w6 ⟨b4,rfl,hb,h6⟩
 have hb6:=aB hb5 h6
 have HH4:Hid (b4 = true↔Whl P s.xn s.X):=hb
 replace Pb:=Pb.below h6;replace Sb:=Sb.below h6;replace Mb:=Mb.below h6
 have c0:=Sb 0 _ rfl
 clear h6 hb5 hb
 rcases HF.out with ⟨hvd,hl,hw,hv,hbest⟩ | ⟨hvd,hnone⟩ | ⟨hvd,hl,hw,hzn,hd,hi,hzero⟩
 ·have HV:Hid ((0:Int) = cs (vlu P (xn s.X s.xn)) s.v):=by
   show (0:Int) = _
   rw [uH P s.X (by rw [hl.1];exact Nat.le_refl _),hv]
   exact (lG.2 rfl).symm
  have HB:Hid (∀ n Y,bY P n Y→Whl P n Y→¬ btr P (vlu P Y) s.v):=hbest
  obtain rfl:b3 = true:=HH3.out.2 hl
  obtain rfl:b4 = true:=HH4.out.2 hw
  rw [hvd] at c0
  have p0:=Pb 0 _ rfl;have p1:=Pb 1 _ rfl;have p2:=Pb 2 _ rfl;have p3:=Pb 3 _ rfl;have p4:=Pb 4 _ rfl;have p5:=Pb 5 _ rfl;have p6:=Pb 6 _ rfl
  have c4:=Sb 4 _ rfl
  clear hvd hl hw hv hbest HF HBY HH3 HH4
  go_wp2_with fail
  clear p0 p1 p2 p3 p4 p5 p6 c4 c0
  have HBX:∀ w',Below w6.heap.size w6 w'→(w'.cell? ⟨w.heap.size,0,none⟩ = some (.bool P.mx)∧w'.cell? ⟨w.heap.size,1,none⟩ = some (.string P.nm)∧w'.cell? ⟨w.heap.size,2,none⟩ = some (.bool P.p)∧w'.cell? ⟨w.heap.size,3,none⟩ = some (.slice P.a P.na P.ca)∧w'.cell? ⟨w.heap.size,4,none⟩ = some (.slice P.d P.nd P.cd)∧w'.cell? ⟨w.heap.size,5,none⟩ = some (.slice P.va P.vn P.vc)∧w'.cell? ⟨w.heap.size,6,none⟩ = some (.slice P.ra P.rn P.rc)∧w'.cell? ⟨w.heap.size + 1,1,none⟩ = some (.bool s.p)∧w'.cell? ⟨w.heap.size + 1,2,none⟩ = some (.slice s.a s.na s.ca)∧w'.cell? ⟨w.heap.size + 1,3,none⟩ = some (.slice s.d s.nd s.cd)∧w'.cell? ⟨w.heap.size + 1,4,none⟩ = some (.slice s.xa s.xn s.xc)):=fun w' h=>⟨(Pb.below h) 0 _ rfl,(Pb.below h) 1 _ rfl,(Pb.below h) 2 _ rfl,(Pb.below h) 3 _ rfl,(Pb.below h) 4 _ rfl,(Pb.below h) 5 _ rfl,(Pb.below h) 6 _ rfl,(Sb.below h) 1 _ rfl,(Sb.below h) 2 _ rfl,(Sb.below h) 3 _ rfl,(Sb.below h) 4 _ rfl⟩
  refine wp_region_noPanic (bC HBX (by kernel_rfl) ?_)
  have hc0:Below w6.heap.size w6 w6.drew:=aK _
  generalize w6.drew = z0 at *
  refine wpAnyG.tA 0 (v:=.agg #[.bool P.mx,.string P.nm,.bool P.p,.slice P.a P.na P.ca,.slice P.d P.nd P.cd,.slice P.va P.vn P.vc,.slice P.ra P.rn P.rc]) (by decide) 7 (by kernel_rfl) (by rfl) ?y0 (HBX _ hc0) ?_
  case y0 =>
   rintro w' ⟨q0,q1,q2,q3,q4,q5,q6,q7,q8,q9,q10⟩
   simp only [lgA,lgZ]
   go_simp
  simp only [lgA,lgZ,Act.put,lsA,lsZ,lsS]
  refine wpAnyG.tA 1 (v:=.pointer (some ⟨w.heap.size + 1,4,none⟩)) (by decide) 7 (by kernel_rfl) (by rfl) ?y1 (HBX _ hc0) ?_
  case y1 =>
   rintro w' ⟨q0,q1,q2,q3,q4,q5,q6,q7,q8,q9,q10⟩
   simp only [lgA,lgZ,lgS]
   go_simp
  simp only [lgA,lgZ,lgS,Act.put,lsA,lsZ,lsS]
  refine wpAnyG.tA 2 (v:=.slice s.xa s.xn s.xc) (by decide) 7 (by kernel_rfl) (by rfl) ?y2 (HBX _ hc0) ?_
  case y2 =>
   rintro w' ⟨q0,q1,q2,q3,q4,q5,q6,q7,q8,q9,q10⟩
   simp only [lgA,lgZ,lgS]
   go_simp
  simp only [lgA,lgZ,lgS,Act.put,lsA,lsZ,lsS]
  refine wpAnyG.tA 4 (v:=.pointer (some ⟨w.heap.size + 1,1,none⟩)) (by decide) 7 (by kernel_rfl) (by rfl) ?y4 (HBX _ hc0) ?_
  case y4 =>
   rintro w' ⟨q0,q1,q2,q3,q4,q5,q6,q7,q8,q9,q10⟩
   simp only [lgA,lgZ,lgS]
   go_simp
  simp only [lgA,lgZ,lgS,Act.put,lsA,lsZ,lsS]
  refine wpAnyG.tA 5 (v:=.agg #[.bool s.p,.slice s.a s.na s.ca,.slice s.d s.nd s.cd]) (by decide) 7 (by kernel_rfl) (by rfl) ?y5 (HBX _ hc0) ?_
  case y5 =>
   rintro w' ⟨q0,q1,q2,q3,q4,q5,q6,q7,q8,q9,q10⟩
   simp only [lgA,lgZ,lgS]
   go_simp
  simp only [lgA,lgZ,lgS,Act.put,lsA,lsZ,lsS]
  refine wpAnyG.one 3 (by kernel_rfl) (by decide) (by rfl) (fun K hK=>?_)
  simp only [lgA,lgZ,lgS]
  go_simp
  refine (yV P (Kx:=s.K) z0 (hP.below (aB hb6 hc0)) (hS.x.below (aB hb6 hc0)) hS.zx (by omega) (by omega)).mono ?_
  rintro e z1 ⟨f1,d1,n1,k1,d2,n2,k2,rfl,G1,hk1⟩
  have hc1:Below w6.heap.size w6 z1:=aB hc0 hk1
  dsimp only
  refine hK _ _ (HBX _ hc1) ?_
  clear hK K
  refine wpAnyG.one 6 (by kernel_rfl) (by decide) (by rfl) (fun K hK=>?_)
  simp only [lgA,lgZ,lgS]
  go_simp
  refine (aQ3 z1 G1.tr (hS.v.below (aB hb6 hc1)) (by omega) (by omega) hS.s1 HV.out).mono ?_
  rintro e z2 ⟨rfl,hk2⟩
  have hc2:Below w6.heap.size w6 z2:=aB hc1 hk2
  dsimp only
  refine hK _ _ (HBX _ hc2) ?_
  clear hK K
  refine wpAnyG.one 7 (by kernel_rfl) (by decide) (by rfl) (fun K hK=>?_)
  simp only [lgA,lgZ,lgS]
  go_simp
  refine hK _ _ (HBX _ hc2) ?_
  clear hK K
  refine wpAnyG.done (by kernel_rfl) (NoPanic.normal ?_)
  have hb7:=aB hb6 hc2
  replace Pb:=Pb.below hc2
  replace Sb:=Sb.below hc2
  clear HBX hc0 hc1 hc2 hk1 hk2 G1 hb6 HV
  go_wp2_with fail
  have HBX:∀ w',Below z2.heap.size z2 w'→(w'.cell? ⟨w.heap.size,0,none⟩ = some (.bool P.mx)∧w'.cell? ⟨w.heap.size,1,none⟩ = some (.string P.nm)∧w'.cell? ⟨w.heap.size,2,none⟩ = some (.bool P.p)∧w'.cell? ⟨w.heap.size,3,none⟩ = some (.slice P.a P.na P.ca)∧w'.cell? ⟨w.heap.size,4,none⟩ = some (.slice P.d P.nd P.cd)∧w'.cell? ⟨w.heap.size,5,none⟩ = some (.slice P.va P.vn P.vc)∧w'.cell? ⟨w.heap.size,6,none⟩ = some (.slice P.ra P.rn P.rc)∧w'.cell? ⟨w.heap.size + 1,1,none⟩ = some (.bool s.p)∧w'.cell? ⟨w.heap.size + 1,2,none⟩ = some (.slice s.a s.na s.ca)∧w'.cell? ⟨w.heap.size + 1,3,none⟩ = some (.slice s.d s.nd s.cd)∧w'.cell? ⟨w.heap.size + 1,4,none⟩ = some (.slice s.xa s.xn s.xc)):=fun w' h=>⟨(Pb.below h) 0 _ rfl,(Pb.below h) 1 _ rfl,(Pb.below h) 2 _ rfl,(Pb.below h) 3 _ rfl,(Pb.below h) 4 _ rfl,(Pb.below h) 5 _ rfl,(Pb.below h) 6 _ rfl,(Sb.below h) 1 _ rfl,(Sb.below h) 2 _ rfl,(Sb.below h) 3 _ rfl,(Sb.below h) 4 _ rfl⟩
  cases b1
  ·refine wp_region_noPanic (bC HBX (by kernel_rfl) ?_)
   have hc0:Below z2.heap.size z2 z2.drew:=aK _
   generalize z2.drew = y0 at *
   refine wpAnyG.tA 0 (v:=.bool false) (by decide) 13 (by kernel_rfl) (by rfl) ?y0 (HBX _ hc0) ?_
   case y0 =>
    rintro w' ⟨q0,q1,q2,q3,q4,q5,q6,q7,q8,q9,q10⟩
    simp only [lgA,lgZ]
    go_simp
   simp only [lgA,lgZ,Act.put,lsA,lsZ,lsS]
   refine wpAnyG.tA 1 (v:=.bool false) (by decide) 13 (by kernel_rfl) (by rfl) ?y1 (HBX _ hc0) ?_
   case y1 =>
    rintro w' ⟨q0,q1,q2,q3,q4,q5,q6,q7,q8,q9,q10⟩
    simp only [lgA,lgZ,lgS]
    go_simp
   simp only [lgA,lgZ,lgS,Act.put,lsA,lsZ,lsS]
   refine wpAnyG.skip 2 (by decide) (by kernel_rfl) (fun _ _ _ h=>h) 13 (by rfl) (fun _ _=>Iff.rfl) (by kernel_rfl) (by kernel_rfl) (by kernel_rfl) (by rfl) (HBX _ hc0) (by rfl) ?_
   simp only [lgA,lgZ,lgS,Act.put,lsA,lsZ,lsS]
   refine wpAnyG.tA 3 (v:=.bool false) (by decide) 13 (by kernel_rfl) (by rfl) ?y3 (HBX _ hc0) ?_
   case y3 =>
    rintro w' ⟨q0,q1,q2,q3,q4,q5,q6,q7,q8,q9,q10⟩
    simp only [lgA,lgZ,lgS]
    go_simp
   simp only [lgA,lgZ,lgS,Act.put,lsA,lsZ,lsS]
   refine wpAnyG.tA 4 (v:=.bool false) (by decide) 13 (by kernel_rfl) (by rfl) ?y4 (HBX _ hc0) ?_
   case y4 =>
    rintro w' ⟨q0,q1,q2,q3,q4,q5,q6,q7,q8,q9,q10⟩
    simp only [lgA,lgZ,lgS]
    go_simp
   simp only [lgA,lgZ,lgS,Act.put,lsA,lsZ,lsS]
   refine wpAnyG.skip 5 (by decide) (by kernel_rfl) (fun _ _ _ h=>h) 13 (by rfl) (fun _ _=>Iff.rfl) (by kernel_rfl) (by kernel_rfl) (by kernel_rfl) (by rfl) (HBX _ hc0) (by rfl) ?_
   simp only [lgA,lgZ,lgS,Act.put,lsA,lsZ,lsS]
   refine wpAnyG.skip 6 (by decide) (by kernel_rfl) (fun _ _ _ h=>h) 13 (by rfl) (fun _ _=>Iff.rfl) (by kernel_rfl) (by kernel_rfl) (by kernel_rfl) (by rfl) (HBX _ hc0) (by rfl) ?_
   simp only [lgA,lgZ,lgS,Act.put,lsA,lsZ,lsS]
   refine wpAnyG.skip 7 (by decide) (by kernel_rfl) (fun _ _ _ h=>h) 13 (by rfl) (fun _ _=>Iff.rfl) (by kernel_rfl) (by kernel_rfl) (by kernel_rfl) (by rfl) (HBX _ hc0) (by rfl) ?_
   simp only [lgA,lgZ,lgS,Act.put,lsA,lsZ,lsS]
   refine wpAnyG.skip 8 (by decide) (by kernel_rfl) (fun _ _ _ h=>h) 13 (by rfl) (fun _ _=>Iff.rfl) (by kernel_rfl) (by kernel_rfl) (by kernel_rfl) (by rfl) (HBX _ hc0) (by rfl) ?_
   simp only [lgA,lgZ,lgS,Act.put,lsA,lsZ,lsS]
   refine wpAnyG.skip 9 (by decide) (by kernel_rfl) (fun _ _ _ h=>h) 13 (by rfl) (fun _ _=>Iff.rfl) (by kernel_rfl) (by kernel_rfl) (by kernel_rfl) (by rfl) (HBX _ hc0) (by rfl) ?_
   simp only [lgA,lgZ,lgS,Act.put,lsA,lsZ,lsS]
   refine wpAnyG.skip 10 (by decide) (by kernel_rfl) (fun _ _ _ h=>h) 13 (by rfl) (fun _ _=>Iff.rfl) (by kernel_rfl) (by kernel_rfl) (by kernel_rfl) (by rfl) (HBX _ hc0) (by rfl) ?_
   simp only [lgA,lgZ,lgS,Act.put,lsA,lsZ,lsS]
   refine wpAnyG.skip 11 (by decide) (by kernel_rfl) (fun _ _ _ h=>h) 13 (by rfl) (fun _ _=>Iff.rfl) (by kernel_rfl) (by kernel_rfl) (by kernel_rfl) (by rfl) (HBX _ hc0) (by rfl) ?_
   simp only [lgA,lgZ,lgS,Act.put,lsA,lsZ,lsS]
   refine wpAnyG.tA 12 (v:=.bool false) (by decide) 13 (by kernel_rfl) (by rfl) ?y12 (HBX _ hc0) ?_
   case y12 =>
    rintro w' ⟨q0,q1,q2,q3,q4,q5,q6,q7,q8,q9,q10⟩
    simp only [lgA,lgZ,lgS]
    go_simp
   simp only [lgA,lgZ,lgS,Act.put,lsA,lsZ,lsS]
   refine wpAnyG.one 13 (by kernel_rfl) (by decide) (by rfl) (fun K hK=>?_)
   simp only [lgA,lgZ,lgS]
   go_simp
   refine hK _ _ (HBX _ hc0) ?_
   clear hK K
   refine wpAnyG.done (by kernel_rfl) (NoPanic.normal ?_)
   have hwE:=aB hb7 hc0
   clear HBX Pb Sb hb7
   go_wp2
   go_ret
   exact ⟨rfl,hwE⟩
  ·cases b2
   ·refine wp_region_noPanic (bC HBX (by kernel_rfl) ?_)
    have hc0:Below z2.heap.size z2 z2.drew:=aK _
    generalize z2.drew = y0 at *
    refine wpAnyG.tA 0 (v:=.bool true) (by decide) 13 (by kernel_rfl) (by rfl) ?y0 (HBX _ hc0) ?_
    case y0 =>
     rintro w' ⟨q0,q1,q2,q3,q4,q5,q6,q7,q8,q9,q10⟩
     simp only [lgA,lgZ]
     go_simp
    simp only [lgA,lgZ,Act.put,lsA,lsZ,lsS]
    refine wpAnyG.tA 1 (v:=.bool true) (by decide) 13 (by kernel_rfl) (by rfl) ?y1 (HBX _ hc0) ?_
    case y1 =>
     rintro w' ⟨q0,q1,q2,q3,q4,q5,q6,q7,q8,q9,q10⟩
     simp only [lgA,lgZ,lgS]
     go_simp
    simp only [lgA,lgZ,lgS,Act.put,lsA,lsZ,lsS]
    refine wpAnyG.tA 2 (v:=.bool false) (by decide) 13 (by kernel_rfl) (by rfl) ?y2 (HBX _ hc0) ?_
    case y2 =>
     rintro w' ⟨q0,q1,q2,q3,q4,q5,q6,q7,q8,q9,q10⟩
     simp only [lgA,lgZ,lgS]
     go_simp
    simp only [lgA,lgZ,lgS,Act.put,lsA,lsZ,lsS]
    refine wpAnyG.tA 3 (v:=.bool false) (by decide) 13 (by kernel_rfl) (by rfl) ?y3 (HBX _ hc0) ?_
    case y3 =>
     rintro w' ⟨q0,q1,q2,q3,q4,q5,q6,q7,q8,q9,q10⟩
     simp only [lgA,lgZ,lgS]
     go_simp
    simp only [lgA,lgZ,lgS,Act.put,lsA,lsZ,lsS]
    refine wpAnyG.tA 4 (v:=.bool false) (by decide) 13 (by kernel_rfl) (by rfl) ?y4 (HBX _ hc0) ?_
    case y4 =>
     rintro w' ⟨q0,q1,q2,q3,q4,q5,q6,q7,q8,q9,q10⟩
     simp only [lgA,lgZ,lgS]
     go_simp
    simp only [lgA,lgZ,lgS,Act.put,lsA,lsZ,lsS]
    refine wpAnyG.skip 5 (by decide) (by kernel_rfl) (fun _ _ _ h=>h) 13 (by rfl) (fun _ _=>Iff.rfl) (by kernel_rfl) (by kernel_rfl) (by kernel_rfl) (by rfl) (HBX _ hc0) (by rfl) ?_
    simp only [lgA,lgZ,lgS,Act.put,lsA,lsZ,lsS]
    refine wpAnyG.skip 6 (by decide) (by kernel_rfl) (fun _ _ _ h=>h) 13 (by rfl) (fun _ _=>Iff.rfl) (by kernel_rfl) (by kernel_rfl) (by kernel_rfl) (by rfl) (HBX _ hc0) (by rfl) ?_
    simp only [lgA,lgZ,lgS,Act.put,lsA,lsZ,lsS]
    refine wpAnyG.skip 7 (by decide) (by kernel_rfl) (fun _ _ _ h=>h) 13 (by rfl) (fun _ _=>Iff.rfl) (by kernel_rfl) (by kernel_rfl) (by kernel_rfl) (by rfl) (HBX _ hc0) (by rfl) ?_
    simp only [lgA,lgZ,lgS,Act.put,lsA,lsZ,lsS]
    refine wpAnyG.skip 8 (by decide) (by kernel_rfl) (fun _ _ _ h=>h) 13 (by rfl) (fun _ _=>Iff.rfl) (by kernel_rfl) (by kernel_rfl) (by kernel_rfl) (by rfl) (HBX _ hc0) (by rfl) ?_
    simp only [lgA,lgZ,lgS,Act.put,lsA,lsZ,lsS]
    refine wpAnyG.skip 9 (by decide) (by kernel_rfl) (fun _ _ _ h=>h) 13 (by rfl) (fun _ _=>Iff.rfl) (by kernel_rfl) (by kernel_rfl) (by kernel_rfl) (by rfl) (HBX _ hc0) (by rfl) ?_
    simp only [lgA,lgZ,lgS,Act.put,lsA,lsZ,lsS]
    refine wpAnyG.skip 10 (by decide) (by kernel_rfl) (fun _ _ _ h=>h) 13 (by rfl) (fun _ _=>Iff.rfl) (by kernel_rfl) (by kernel_rfl) (by kernel_rfl) (by rfl) (HBX _ hc0) (by rfl) ?_
    simp only [lgA,lgZ,lgS,Act.put,lsA,lsZ,lsS]
    refine wpAnyG.skip 11 (by decide) (by kernel_rfl) (fun _ _ _ h=>h) 13 (by rfl) (fun _ _=>Iff.rfl) (by kernel_rfl) (by kernel_rfl) (by kernel_rfl) (by rfl) (HBX _ hc0) (by rfl) ?_
    simp only [lgA,lgZ,lgS,Act.put,lsA,lsZ,lsS]
    refine wpAnyG.tA 12 (v:=.bool false) (by decide) 13 (by kernel_rfl) (by rfl) ?y12 (HBX _ hc0) ?_
    case y12 =>
     rintro w' ⟨q0,q1,q2,q3,q4,q5,q6,q7,q8,q9,q10⟩
     simp only [lgA,lgZ,lgS]
     go_simp
    simp only [lgA,lgZ,lgS,Act.put,lsA,lsZ,lsS]
    refine wpAnyG.one 13 (by kernel_rfl) (by decide) (by rfl) (fun K hK=>?_)
    simp only [lgA,lgZ,lgS]
    go_simp
    refine hK _ _ (HBX _ hc0) ?_
    clear hK K
    refine wpAnyG.done (by kernel_rfl) (NoPanic.normal ?_)
    have hwE:=aB hb7 hc0
    clear HBX Pb Sb hb7
    go_wp2
    go_ret
    exact ⟨rfl,hwE⟩
   ·have HW:Hid (false = true↔btr P (vlu P (xn X nx)) s.v):=by
     have h1:=HH1.out.1 rfl
     have h2:=HH2.out.1 rfl
     have h3:=HB.out nx X h1 h2
     show false = true↔_
     rw [uH P X (by rw [h1.1];exact Nat.le_refl _)]
     exact ⟨fun h=>(by cases h),fun h=>absurd h h3⟩
    refine wp_region_noPanic (bC HBX (by kernel_rfl) ?_)
    have hc0:Below z2.heap.size z2 z2.drew:=aK _
    generalize z2.drew = y0 at *
    refine wpAnyG.tA 0 (v:=.bool true) (by decide) 13 (by kernel_rfl) (by rfl) ?y0 (HBX _ hc0) ?_
    case y0 =>
     rintro w' ⟨q0,q1,q2,q3,q4,q5,q6,q7,q8,q9,q10⟩
     simp only [lgA,lgZ]
     go_simp
    simp only [lgA,lgZ,Act.put,lsA,lsZ,lsS]
    refine wpAnyG.tA 1 (v:=.bool true) (by decide) 13 (by kernel_rfl) (by rfl) ?y1 (HBX _ hc0) ?_
    case y1 =>
     rintro w' ⟨q0,q1,q2,q3,q4,q5,q6,q7,q8,q9,q10⟩
     simp only [lgA,lgZ,lgS]
     go_simp
    simp only [lgA,lgZ,lgS,Act.put,lsA,lsZ,lsS]
    refine wpAnyG.tA 2 (v:=.bool true) (by decide) 13 (by kernel_rfl) (by rfl) ?y2 (HBX _ hc0) ?_
    case y2 =>
     rintro w' ⟨q0,q1,q2,q3,q4,q5,q6,q7,q8,q9,q10⟩
     simp only [lgA,lgZ,lgS]
     go_simp
    simp only [lgA,lgZ,lgS,Act.put,lsA,lsZ,lsS]
    refine wpAnyG.tA 3 (v:=.bool true) (by decide) 13 (by kernel_rfl) (by rfl) ?y3 (HBX _ hc0) ?_
    case y3 =>
     rintro w' ⟨q0,q1,q2,q3,q4,q5,q6,q7,q8,q9,q10⟩
     simp only [lgA,lgZ,lgS]
     go_simp
    simp only [lgA,lgZ,lgS,Act.put,lsA,lsZ,lsS]
    refine wpAnyG.tA 4 (v:=.bool true) (by decide) 13 (by kernel_rfl) (by rfl) ?y4 (HBX _ hc0) ?_
    case y4 =>
     rintro w' ⟨q0,q1,q2,q3,q4,q5,q6,q7,q8,q9,q10⟩
     simp only [lgA,lgZ,lgS]
     go_simp
    simp only [lgA,lgZ,lgS,Act.put,lsA,lsZ,lsS]
    refine wpAnyG.tA 5 (v:=.agg #[.bool P.mx,.string P.nm,.bool P.p,.slice P.a P.na P.ca,.slice P.d P.nd P.cd,.slice P.va P.vn P.vc,.slice P.ra P.rn P.rc]) (by decide) 13 (by kernel_rfl) (by rfl) ?y5 (HBX _ hc0) ?_
    case y5 =>
     rintro w' ⟨q0,q1,q2,q3,q4,q5,q6,q7,q8,q9,q10⟩
     simp only [lgA,lgZ,lgS]
     go_simp
    simp only [lgA,lgZ,lgS,Act.put,lsA,lsZ,lsS]
    refine wpAnyG.tA 6 (v:=.agg #[.bool P.mx,.string P.nm,.bool P.p,.slice P.a P.na P.ca,.slice P.d P.nd P.cd,.slice P.va P.vn P.vc,.slice P.ra P.rn P.rc]) (by decide) 13 (by kernel_rfl) (by rfl) ?y6 (HBX _ hc0) ?_
    case y6 =>
     rintro w' ⟨q0,q1,q2,q3,q4,q5,q6,q7,q8,q9,q10⟩
     simp only [lgA,lgZ,lgS]
     go_simp
    simp only [lgA,lgZ,lgS,Act.put,lsA,lsZ,lsS]
    refine wpAnyG.tA 7 (v:=.slice xa nx xc) (by decide) 13 (by kernel_rfl) (by rfl) ?y7 (HBX _ hc0) ?_
    case y7 =>
     rintro w' ⟨q0,q1,q2,q3,q4,q5,q6,q7,q8,q9,q10⟩
     simp only [lgA,lgZ,lgS]
     go_simp
    simp only [lgA,lgZ,lgS,Act.put,lsA,lsZ,lsS]
    refine wpAnyG.tA 9 (v:=.pointer (some ⟨w.heap.size + 1,1,none⟩)) (by decide) 13 (by kernel_rfl) (by rfl) ?y9 (HBX _ hc0) ?_
    case y9 =>
     rintro w' ⟨q0,q1,q2,q3,q4,q5,q6,q7,q8,q9,q10⟩
     simp only [lgA,lgZ,lgS]
     go_simp
    simp only [lgA,lgZ,lgS,Act.put,lsA,lsZ,lsS]
    refine wpAnyG.tA 10 (v:=.agg #[.bool s.p,.slice s.a s.na s.ca,.slice s.d s.nd s.cd]) (by decide) 13 (by kernel_rfl) (by rfl) ?y10 (HBX _ hc0) ?_
    case y10 =>
     rintro w' ⟨q0,q1,q2,q3,q4,q5,q6,q7,q8,q9,q10⟩
     simp only [lgA,lgZ,lgS]
     go_simp
    simp only [lgA,lgZ,lgS,Act.put,lsA,lsZ,lsS]
    refine wpAnyG.one 8 (by kernel_rfl) (by decide) (by rfl) (fun K hK=>?_)
    simp only [lgA,lgZ,lgS]
    go_simp
    refine (yV P (Kx:=Kx) y0 (hP.below (aB hb7 hc0)) (hx.below (aB hb7 hc0)) hzx htx (by omega)).mono ?_
    rintro e y1 ⟨f1,d1,n1,k1,d2,n2,k2,rfl,G1,hk1⟩
    have hc1:Below z2.heap.size z2 y1:=aB hc0 hk1
    dsimp only
    refine hK _ _ (HBX _ hc1) ?_
    clear hK K
    refine wpAnyG.one 11 (by kernel_rfl) (by decide) (by rfl) (fun K hK=>?_)
    simp only [lgA,lgZ,lgS]
    go_simp
    refine (aC8 P false y1 G1.tr (hS.v.below (aB hb7 hc1)) (by omega) (by omega) hS.s1 HW.out).mono ?_
    rintro e y2 ⟨rfl,hk2⟩
    have hc2:Below z2.heap.size z2 y2:=aB hc1 hk2
    dsimp only
    refine hK _ _ (HBX _ hc2) ?_
    clear hK K
    refine wpAnyG.tA 12 (v:=.bool false) (by decide) 13 (by kernel_rfl) (by rfl) ?y12 (HBX _ hc2) ?_
    case y12 =>
     rintro w' ⟨q0,q1,q2,q3,q4,q5,q6,q7,q8,q9,q10⟩
     simp only [lgA,lgZ,lgS]
     go_simp
    simp only [lgA,lgZ,lgS,Act.put,lsA,lsZ,lsS]
    refine wpAnyG.one 13 (by kernel_rfl) (by decide) (by rfl) (fun K hK=>?_)
    simp only [lgA,lgZ,lgS]
    go_simp
    refine hK _ _ (HBX _ hc2) ?_
    clear hK K
    refine wpAnyG.done (by kernel_rfl) (NoPanic.normal ?_)
    have hwE:=aB hb7 hc2
    clear HBX Pb Sb hb7
    go_wp2
    go_ret
    exact ⟨rfl,hwE⟩
 ·have HN:Hid (∀ n Y,bY P n Y→¬ Whl P n Y):=hnone
  rw [hvd] at c0
  clear hvd hnone HF HBY Pb Sb Mb
  cases b1
  ·clear HH1 HH2 HH3 HH4
   go_wp2
   go_ret
   exact ⟨rfl,hb6⟩
  ·obtain rfl:b2 = false:=by
    cases b2
    ·rfl
    ·exact absurd (HH2.out.1 rfl) (HN.out _ _ (HH1.out.1 rfl))
   clear HH1 HH2 HH3 HH4
   go_wp2
   go_ret
   exact ⟨rfl,hb6⟩
 ·obtain rfl:b3 = true:=HH3.out.2 hl
  obtain rfl:b4 = true:=HH4.out.2 hw
  have HBY2:=HBY w6 hb6 hl.1 hzn hl hd hi
  have HZ0:Hid (∀ j,j < P.vn→(P.V j).whole = true→s.Z j = 0):=hzero
  have HZN:Hid (s.zn = P.vn):=hzn
  rw [hvd] at c0
  have p0:=Pb 0 _ rfl;have p1:=Pb 1 _ rfl;have p2:=Pb 2 _ rfl;have p3:=Pb 3 _ rfl;have p4:=Pb 4 _ rfl;have p5:=Pb 5 _ rfl;have p6:=Pb 6 _ rfl;have m0:=Mb 0 _ rfl;have m1:=Mb 1 _ rfl;have m2:=Mb 2 _ rfl
  have c4:=Sb 4 _ rfl
  have c5:=Sb 5 _ rfl
  clear hvd hl hw hzn hd hi hzero HF HBY HH1 HH2 HH3 HH4
  go_wp2_with fail
  clear p0 p1 p2 p3 p4 p5 p6 m0 m1 m2 c0 c4 c5
  refine HBY2.mono ?_
  rintro e w7 ⟨rfl,h7⟩
  have hb7:=aB hb6 h7
  replace Pb:=Pb.below h7
  replace Sb:=Sb.below h7
  clear h7 HBY2 hb6 Mb
  go_wp2
  go_loopw [16] (fun sj wr=>∃ j:Nat,j≤P.vn∧sj = .int .i64 j∧Below w7.heap.size w7 wr) (fun x _=>P.vn - (intOf x).toNat)
  case atStart=>exact ⟨0,Nat.zero_le _,rfl,Below.refl _ _⟩
  case round =>
   obtain ⟨j,hj,rfl,hbr⟩:=hrel
   have hvnb:P.vn≤1048576:=by have:=hP.all;have:=aT P.ZV P.vn;omega
   have hbw:=aB hb7 hbr
   have p5:=(Pb.below hbr) 5 _ rfl
   by_cases hlt:j < P.vn
   ·have hkI:(j:Int) < (P.vn:Int):=by omega
    have hkI2:(j:Int) * 13 = ((j * 13:Nat):Int):=by omega
    rcases hP.v with h00 | ⟨vb,vo,hva,hev⟩
    ·omega
    have hwc:=aF hbw (hev j hlt).whole
    obtain ⟨wh,ewh⟩:∃ wh,wh = (P.V j).whole:=⟨_,rfl⟩
    rw [← ewh] at hwc
    have HWH:Hid (wh = (P.V j).whole):=ewh
    have hva':P.va = some ⟨vb,vo,none⟩:=hva
    clear hev ewh hva
    cases wh
    ·go_wp2
     try rw [← hva']
     go_roundw
     case rel=>first | exact ⟨j + 1,by omega,by go_num,hbr⟩ | ((repeat apply Exists.intro);refine ⟨?_,rfl⟩;exact ⟨j + 1,by omega,by go_num,hbr⟩)
     case measure=>simp [intOf];omega
    ·have c5:=(Sb.below hbr) 5 _ rfl
     go_wp2_with fail
     refine (numT j wr (hS.z.below hbw) (by have:=HZN.out;omega)).mono ?_
     rintro e w8 ⟨f1,d1,n1,k1,d2,n2,k2,rfl,T1,h8⟩
     go_wp2_with fail
     refine (aL3 w8 T1 (by have:=bI (Z:=s.ZZ) (show j < s.zn by have:=HZN.out;omega);omega) (hS.zz j (by have:=HZN.out;omega)).1 (HZ0.out j hlt HWH.out.symm)).mono ?_
     rintro e w9 ⟨rfl,h9⟩
     have hbr9:=aB (aB hbr h8) h9
     clear T1 h8 h9 c5 hbr hbw p5 hwc
     go_wp2
     try rw [← hva']
     go_roundw
     case rel=>first | exact ⟨j + 1,by omega,by go_num,hbr9⟩ | ((repeat apply Exists.intro);refine ⟨?_,rfl⟩;exact ⟨j + 1,by omega,by go_num,hbr9⟩)
     case measure=>simp [intOf];omega
   ·have hkI:¬ (j:Int) < (P.vn:Int):=by omega
    go_wp2
    go_ret
    exact ⟨rfl,hbw⟩
def ChkS (P:Prob) (s:Srch) (w:World) (e:Ending) (w':World):Prop:=Below w.heap.size w w'∧((∃ t a,e = .returned (.iface t (.pointer (some a))))∨(e = .returned .nilIface∧Fnd P s))
theorem xI (P:Prob) (s:Srch) {xa:Option Addr} {nx xc:Nat} {X:Nat→Rat} {Zx:Nat→Nat} {p:Bool} {a:Option Addr} {na ca:Nat} {d:Option Addr} {nd cd:Nat} {m:Rat} {Kx Km:Nat} (w:World) (hP:PQ w P) (hS:SQ w s) (hx:LQ w xa nx X Zx) (hzx:∀ i,i < nx→1≤Zx i∧SzR (X i) (Zx i)) (htx:tot Zx nx≤Kx) (hm:TR w p a na ca d nd cd m Km) (hKm:1≤Km) (hK:P.K + s.K + Kx + Km≤1048576)
 (HSU:∀ w1,Below w.heap.size w w1→Calls Tryz.prog 4 #[] w1 fun e w'=>e = .returned (.bool true)∧Below w1.heap.size w1 w') (HCH:∀ w1,Below w.heap.size w w1→Calls Tryz.prog 5 #[P.val,s.val] w1 fun e w'=>ChkS P s w1 e w') :
 Calls Tryz.prog 3 #[P.val,s.val,.slice xa nx xc,.agg #[.bool p,.slice a na ca,.slice d nd cd]] w fun e w'=>e = .returned (.bool true)∧Below w.heap.size w w':=by
 have HFI:=fun w1 (hb:Below w.heap.size w w1)=>aR7 (xc:=xc) P s w1 (hP.below hb) (hS.below hb) (hx.below hb) hzx htx (hm.below hb) hKm hK
 unfold Prob.val Srch.val at *
 obtain ⟨Pb,Sb,Mb,hb0,hs0⟩:=iT w #[.bool P.mx,.string P.nm,.bool P.p,.slice P.a P.na P.ca,.slice P.d P.nd P.cd,.slice P.va P.vn P.vc,.slice P.ra P.rn P.rc] 31 #[.int .i64 s.vd,.bool s.p,.slice s.a s.na s.ca,.slice s.d s.nd s.cd,.slice s.xa s.xn s.xc,.slice s.za s.zn s.zc,.slice s.ta s.tn s.tc,.int .i64 s.nn] 35 #[.bool p,.slice a na ca,.slice d nd cd] 27
 go_enter Tryz.func3,Tryz.ntmps3
 go_wp2_with fail
 generalize ((w.alloc (.cells #[.bool P.mx,.string P.nm,.bool P.p,.slice P.a P.na P.ca,.slice P.d P.nd P.cd,.slice P.va P.vn P.vc,.slice P.ra P.rn P.rc] 31)).alloc (.cells #[.int .i64 s.vd,.bool s.p,.slice s.a s.na s.ca,.slice s.d s.nd s.cd,.slice s.xa s.xn s.xc,.slice s.za s.zn s.zc,.slice s.ta s.tn s.tc,.int .i64 s.nn] 35)).alloc (.cells #[.bool p,.slice a na ca,.slice d nd cd] 27) = W0 at *
 refine (HSU W0 hb0).mono ?_
 rintro e w1 ⟨rfl,h1⟩
 have hb1:=aB hb0 h1
 replace Pb:=Pb.below h1;replace Sb:=Sb.below h1;replace Mb:=Mb.below h1
 have p0:=Pb 0 _ rfl;have p1:=Pb 1 _ rfl;have p2:=Pb 2 _ rfl;have p3:=Pb 3 _ rfl;have p4:=Pb 4 _ rfl;have p5:=Pb 5 _ rfl;have p6:=Pb 6 _ rfl;have c0:=Sb 0 _ rfl;have c1:=Sb 1 _ rfl;have c2:=Sb 2 _ rfl;have c3:=Sb 3 _ rfl;have c4:=Sb 4 _ rfl;have c5:=Sb 5 _ rfl;have c6:=Sb 6 _ rfl;have c7:=Sb 7 _ rfl
 clear h1 hb0 HSU
 go_wp2_with fail
 clear p0 p1 p2 p3 p4 p5 p6 c0 c1 c2 c3 c4 c5 c6 c7
 refine (HCH w1 hb1).mono ?_
 rintro e w2 ⟨h2,⟨t,ad,rfl⟩ | ⟨rfl,hF⟩⟩
 ·have hb2:=aB hb1 h2
  clear HFI HCH
  go_wp2
  go_ret
  exact ⟨rfl,hb2⟩
 ·have hb2:=aB hb1 h2
  have HFQ:=HFI w2 hb2 hF
  replace Pb:=Pb.below h2;replace Sb:=Sb.below h2;replace Mb:=Mb.below h2
  have p0:=Pb 0 _ rfl;have p1:=Pb 1 _ rfl;have p2:=Pb 2 _ rfl;have p3:=Pb 3 _ rfl;have p4:=Pb 4 _ rfl;have p5:=Pb 5 _ rfl;have p6:=Pb 6 _ rfl;have c0:=Sb 0 _ rfl;have c1:=Sb 1 _ rfl;have c2:=Sb 2 _ rfl;have c3:=Sb 3 _ rfl;have c4:=Sb 4 _ rfl;have c5:=Sb 5 _ rfl;have c6:=Sb 6 _ rfl;have c7:=Sb 7 _ rfl;have m0:=Mb 0 _ rfl;have m1:=Mb 1 _ rfl;have m2:=Mb 2 _ rfl
  clear h2 hb1 HFI HCH hF
  go_wp2_with fail
  refine HFQ.mono ?_
  rintro e w3 ⟨rfl,h3⟩
  have hb3:=aB hb2 h3
  go_wp2
  go_ret
  exact ⟨rfl,hb3⟩
def AccP (P:Prob) (s:Srch):Prop:=s.xn = P.vn∧bY P s.xn s.X∧Whl P s.xn s.X∧vlu P s.X = s.v∧AccT P s
def CoR (P:Prob) (s:Srch) (w:World) (e:Ending) (w':World):Prop:=Below w.heap.size w w'∧((∃ v,e = .returned v∧uO v∧¬ AccP P s)∨(e = .returned .nilIface∧bY P s.xn s.X∧Whl P s.xn s.X∧vlu P s.X = s.v∧Cov P (box0 P) s.inf s.v))
def CuR (P:Prob) (s:Srch) (w:World) (e:Ending) (w':World):Prop:=Below w.heap.size w w'∧((∃ v,e = .returned v∧uO v)∨(e = .returned .nilIface∧bY P s.xn s.X∧Whl P s.xn s.X∧s.zn = P.vn∧Dir P s.Z∧imp P s.Z))
theorem aR8 (P:Prob) (s:Srch) (w:World) (hP:PQ w P) (hS:SQ w s) (hK:P.K + s.K≤1048576) (hT:TB w) {eS eP eV eR eD eT eW:Value} {pB:Addr} (EH:EE w eS eP eV (.iface 173 (.pointer (some pB))) eR eD) (ET:Errs w 3 eT) (EW:Errs w 6 eW) :
 Calls Tryz.prog 9 #[P.val,s.val] w fun e w'=>CoR P s w e w':=by
 have hallS:=hS.all
 have hallP:=hP.all
 have ht1:=bJ s.ZX s.xn
 have ht2:=bJ s.ZZ s.zn
 have ht3:=bJ s.ZT s.tn
 have hS1:=hS.s1
 have HPT:∀ W,Below w.heap.size w W→Calls Tryz.prog 22 #[P.val,.slice s.xa s.xn s.xc] W fun e w'=>PtR P s.xn s.X eS eP eW W e w':=fun W hW=>aI2 P (Kx:=s.K) W (hP.below hW) (hS.x.below hW) hS.zx (by omega) hS.xc (by omega) (hT.below hW) (EH.s.below hW) (EH.p.below hW) (EW.below hW)
 have HTR:∀ W,Below w.heap.size w W→Calls Tryz.prog 10 #[P.val,s.val] W fun e w'=>TcR P s W e w':=fun W hW=>aI6 P s W (hP.below hW) (hS.below hW) hK (hT.below hW) (EH.below hW) (ET.below hW)
 unfold Prob.val Srch.val at *
 obtain ⟨Pb,Sb,hb0,hs0⟩:=uP w #[.bool P.mx,.string P.nm,.bool P.p,.slice P.a P.na P.ca,.slice P.d P.nd P.cd,.slice P.va P.vn P.vc,.slice P.ra P.rn P.rc] 31 #[.int .i64 s.vd,.bool s.p,.slice s.a s.na s.ca,.slice s.d s.nd s.cd,.slice s.xa s.xn s.xc,.slice s.za s.zn s.zc,.slice s.ta s.tn s.tc,.int .i64 s.nn] 35
 have p0:=Pb 0 _ rfl
 have p1:=Pb 1 _ rfl
 have p2:=Pb 2 _ rfl
 have p3:=Pb 3 _ rfl
 have p4:=Pb 4 _ rfl
 have p5:=Pb 5 _ rfl
 have p6:=Pb 6 _ rfl
 have s4:=Sb 4 _ rfl
 go_enter Tryz.func9,Tryz.ntmps9
 go_wp2_with fail
 clear p0 p1 p2 p3 p4 p5 p6 s4
 generalize (w.alloc (.cells #[.bool P.mx,.string P.nm,.bool P.p,.slice P.a P.na P.ca,.slice P.d P.nd P.cd,.slice P.va P.vn P.vc,.slice P.ra P.rn P.rc] 31)).alloc (.cells #[.int .i64 s.vd,.bool s.p,.slice s.a s.na s.ca,.slice s.d s.nd s.cd,.slice s.xa s.xn s.xc,.slice s.za s.zn s.zc,.slice s.ta s.tn s.tc,.int .i64 s.nn] 35) = W0 at *
 refine (HPT W0 hb0).mono ?_
 rintro e W1 ⟨h1,hpt⟩
 have hb1:=aB hb0 h1
 replace Pb:=Pb.below h1
 replace Sb:=Sb.below h1
 clear h1 hb0 HPT
 rcases hpt with ⟨hn,rfl⟩ | ⟨hx,⟨hn,rfl⟩ | ⟨hl,⟨hn,rfl⟩ | ⟨hw,rfl⟩⟩⟩
 ·obtain ⟨pe,rfl⟩:=EH.s.2
  have HN:Hid (¬ AccP P s):=fun ha=>hn ha.1
  clear hn
  go_wp2
  go_ret
  exact ⟨hb1,.inl ⟨_,rfl,⟨_,rfl⟩,HN.out⟩⟩
 ·obtain ⟨pe,rfl⟩:=EH.p.2
  have HN:Hid (¬ AccP P s):=fun ha=>hn ha.2.1
  clear hn
  go_wp2
  go_ret
  exact ⟨hb1,.inl ⟨_,rfl,⟨_,rfl⟩,HN.out⟩⟩
 ·obtain ⟨pe,rfl⟩:=EW.2
  have HN:Hid (¬ AccP P s):=fun ha=>hn ha.2.2.1
  clear hn
  go_wp2
  go_ret
  exact ⟨hb1,.inl ⟨_,rfl,⟨_,rfl⟩,HN.out⟩⟩
 ·have HX:Hid (s.xn = P.vn):=hx
  have HL:Hid (bY P s.xn s.X∧Whl P s.xn s.X):=⟨hl,hw⟩
  have HBX:∀ w',Below W1.heap.size W1 w'→(w'.cell? ⟨w.heap.size,0,none⟩ = some (.bool P.mx)∧w'.cell? ⟨w.heap.size,1,none⟩ = some (.string P.nm)∧w'.cell? ⟨w.heap.size,2,none⟩ = some (.bool P.p)∧w'.cell? ⟨w.heap.size,3,none⟩ = some (.slice P.a P.na P.ca)∧w'.cell? ⟨w.heap.size,4,none⟩ = some (.slice P.d P.nd P.cd)∧w'.cell? ⟨w.heap.size,5,none⟩ = some (.slice P.va P.vn P.vc)∧w'.cell? ⟨w.heap.size,6,none⟩ = some (.slice P.ra P.rn P.rc)∧w'.cell? ⟨w.heap.size + 1,1,none⟩ = some (.bool s.p)∧w'.cell? ⟨w.heap.size + 1,2,none⟩ = some (.slice s.a s.na s.ca)∧w'.cell? ⟨w.heap.size + 1,3,none⟩ = some (.slice s.d s.nd s.cd)∧w'.cell? ⟨w.heap.size + 1,4,none⟩ = some (.slice s.xa s.xn s.xc)):=fun w' hw=>⟨(Pb.below hw) 0 _ rfl,(Pb.below hw) 1 _ rfl,(Pb.below hw) 2 _ rfl,(Pb.below hw) 3 _ rfl,(Pb.below hw) 4 _ rfl,(Pb.below hw) 5 _ rfl,(Pb.below hw) 6 _ rfl,(Sb.below hw) 1 _ rfl,(Sb.below hw) 2 _ rfl,(Sb.below hw) 3 _ rfl,(Sb.below hw) 4 _ rfl⟩
  obtain ⟨tc,htc⟩:∃ t:Int,Hid (t = cs (vlu P s.X) s.v):=⟨_,rfl⟩
  clear hx hl hw
  by_cases hv:vlu P s.X = s.v
  ·have h0:tc = 0:=by rw [htc.out];exact lG.2 hv
   have HV:Hid (vlu P s.X = s.v):=hv
   clear hv
   go_wp2_with fail
   refine wp_region_noPanic (bC HBX (by kernel_rfl) ?_)
   have hc0:Below W1.heap.size W1 W1.drew:=aK _
   generalize W1.drew = z0 at *
   refine wpAnyG.tA 0 (v:=.agg #[.bool P.mx,.string P.nm,.bool P.p,.slice P.a P.na P.ca,.slice P.d P.nd P.cd,.slice P.va P.vn P.vc,.slice P.ra P.rn P.rc]) (by decide) 3 (by kernel_rfl) (by rfl) ?y0 (HBX _ hc0) ?_
   case y0 =>
    rintro w' ⟨q0,q1,q2,q3,q4,q5,q6,q7,q8,q9,q10⟩
    simp only [lgA,lgZ]
    go_simp
   simp only [lgA,lgZ,Act.put,lsA,lsZ,lsS]
   refine wpAnyG.tA 1 (v:=.pointer (some ⟨w.heap.size + 1,4,none⟩)) (by decide) 2 (by kernel_rfl) (by rfl) ?y1 (HBX _ hc0) ?_
   case y1 =>
    rintro w' ⟨q0,q1,q2,q3,q4,q5,q6,q7,q8,q9,q10⟩
    simp only [lgA,lgZ,lgS]
    go_simp
   simp only [lgA,lgZ,lgS,Act.put,lsA,lsZ,lsS]
   refine wpAnyG.tA 2 (v:=.slice s.xa s.xn s.xc) (by decide) 3 (by kernel_rfl) (by rfl) ?y2 (HBX _ hc0) ?_
   case y2 =>
    rintro w' ⟨q0,q1,q2,q3,q4,q5,q6,q7,q8,q9,q10⟩
    simp only [lgA,lgZ,lgS]
    go_simp
   simp only [lgA,lgZ,lgS,Act.put,lsA,lsZ,lsS]
   refine wpAnyG.tA 4 (v:=.pointer (some ⟨w.heap.size + 1,1,none⟩)) (by decide) 5 (by kernel_rfl) (by rfl) ?y4 (HBX _ hc0) ?_
   case y4 =>
    rintro w' ⟨q0,q1,q2,q3,q4,q5,q6,q7,q8,q9,q10⟩
    simp only [lgA,lgZ,lgS]
    go_simp
   simp only [lgA,lgZ,lgS,Act.put,lsA,lsZ,lsS]
   refine wpAnyG.tA 5 (v:=.agg #[.bool s.p,.slice s.a s.na s.ca,.slice s.d s.nd s.cd]) (by decide) 6 (by kernel_rfl) (by rfl) ?y5 (HBX _ hc0) ?_
   case y5 =>
    rintro w' ⟨q0,q1,q2,q3,q4,q5,q6,q7,q8,q9,q10⟩
    simp only [lgA,lgZ,lgS]
    go_simp
   simp only [lgA,lgZ,lgS,Act.put,lsA,lsZ,lsS]
   refine wpAnyG.one 3 (by kernel_rfl) (by decide) (by rfl) (fun K hK=>?_)
   simp only [lgA,lgZ,lgS]
   go_simp
   refine (aC4 P (Kx:=s.K) z0 (hP.below (aB hb1 hc0)) (hS.x.below (aB hb1 hc0)) hS.zx (by omega) hS.xc HX.out (by omega) (hT.below (aB hb1 hc0))).mono ?_
   rintro e z1 ⟨f1,c1,m1,l1,d1,k1,j1,rfl,G1,hk1⟩
   have hc1:Below W1.heap.size W1 z1:=aB hc0 hk1
   dsimp only
   refine hK _ _ (HBX _ hc1) ?_
   clear hK K
   refine wpAnyG.one 6 (by kernel_rfl) (by decide) (by rfl) (fun K hK=>?_)
   simp only [lgA,lgZ,lgS]
   go_simp
   refine (oH tc z1 G1.tr (hS.v.below (aB hb1 hc1)) (by omega) (by omega) hS1 htc.out).mono ?_
   rintro e z2 ⟨rfl,hk2⟩
   have hc2:Below W1.heap.size W1 z2:=aB hc1 hk2
   dsimp only
   refine hK _ _ (HBX _ hc2) ?_
   clear hK K
   refine wpAnyG.one 7 (by kernel_rfl) (by decide) (by rfl) (fun K hK=>?_)
   simp only [lgA,lgZ,lgS]
   go_simp
   refine hK _ _ (HBX _ hc2) ?_
   clear hK K
   refine wpAnyG.done (by kernel_rfl) (NoPanic.normal ?_)
   try simp only [Act.put,List.setIfInBounds_toArray,List.set_cons_zero,List.set_cons_succ]
   have hb3:=aB hb1 hc2
   have PbZ:=Pb.below hc2
   have SbZ:=Sb.below hc2
   clear HBX hc0 hc1 hc2 hk1 hk2 G1
   subst h0
   have p0:=PbZ 0 _ rfl
   have p1:=PbZ 1 _ rfl
   have p2:=PbZ 2 _ rfl
   have p3:=PbZ 3 _ rfl
   have p4:=PbZ 4 _ rfl
   have p5:=PbZ 5 _ rfl
   have p6:=PbZ 6 _ rfl
   have s0:=SbZ 0 _ rfl
   have s1:=SbZ 1 _ rfl
   have s2:=SbZ 2 _ rfl
   have s3:=SbZ 3 _ rfl
   have s4:=SbZ 4 _ rfl
   have s5:=SbZ 5 _ rfl
   have s6:=SbZ 6 _ rfl
   have s7:=SbZ 7 _ rfl
   go_wp2_with fail
   refine (HTR z2 hb3).mono ?_
   rintro e z3 ⟨h3,⟨vv,rfl,⟨pv,rfl⟩,hn⟩ | ⟨rfl,hcov⟩⟩
   ·have hb4:=aB hb3 h3
    have HN:Hid (¬ AccP P s):=fun ha=>hn ha.2.2.2.2
    clear hn h3 HTR
    go_wp2
    go_ret
    exact ⟨hb4,.inl ⟨_,rfl,⟨_,rfl⟩,HN.out⟩⟩
   ·have hb4:=aB hb3 h3
    have HC:Hid (Cov P (box0 P) s.inf s.v):=hcov
    clear hcov h3 HTR
    go_wp2
    go_ret
    exact ⟨hb4,.inr ⟨rfl,HL.out.1,HL.out.2,HV.out,HC.out⟩⟩
  ·have h0:¬ tc = 0:=by rw [htc.out];exact fun hh=>hv (lG.1 hh)
   have h0b:(tc == 0) = false:=by simpa using h0
   have HN:Hid (¬ AccP P s):=fun ha=>hv ha.2.2.2.1
   obtain ⟨pe,epe⟩:=EH.v.2
   clear hv
   go_wp2_with fail
   refine wp_region_noPanic (bC HBX (by kernel_rfl) ?_)
   have hc0:Below W1.heap.size W1 W1.drew:=aK _
   generalize W1.drew = z0 at *
   refine wpAnyG.tA 0 (v:=.agg #[.bool P.mx,.string P.nm,.bool P.p,.slice P.a P.na P.ca,.slice P.d P.nd P.cd,.slice P.va P.vn P.vc,.slice P.ra P.rn P.rc]) (by decide) 3 (by kernel_rfl) (by rfl) ?y0 (HBX _ hc0) ?_
   case y0 =>
    rintro w' ⟨q0,q1,q2,q3,q4,q5,q6,q7,q8,q9,q10⟩
    simp only [lgA,lgZ]
    go_simp
   simp only [lgA,lgZ,Act.put,lsA,lsZ,lsS]
   refine wpAnyG.tA 1 (v:=.pointer (some ⟨w.heap.size + 1,4,none⟩)) (by decide) 2 (by kernel_rfl) (by rfl) ?y1 (HBX _ hc0) ?_
   case y1 =>
    rintro w' ⟨q0,q1,q2,q3,q4,q5,q6,q7,q8,q9,q10⟩
    simp only [lgA,lgZ,lgS]
    go_simp
   simp only [lgA,lgZ,lgS,Act.put,lsA,lsZ,lsS]
   refine wpAnyG.tA 2 (v:=.slice s.xa s.xn s.xc) (by decide) 3 (by kernel_rfl) (by rfl) ?y2 (HBX _ hc0) ?_
   case y2 =>
    rintro w' ⟨q0,q1,q2,q3,q4,q5,q6,q7,q8,q9,q10⟩
    simp only [lgA,lgZ,lgS]
    go_simp
   simp only [lgA,lgZ,lgS,Act.put,lsA,lsZ,lsS]
   refine wpAnyG.tA 4 (v:=.pointer (some ⟨w.heap.size + 1,1,none⟩)) (by decide) 5 (by kernel_rfl) (by rfl) ?y4 (HBX _ hc0) ?_
   case y4 =>
    rintro w' ⟨q0,q1,q2,q3,q4,q5,q6,q7,q8,q9,q10⟩
    simp only [lgA,lgZ,lgS]
    go_simp
   simp only [lgA,lgZ,lgS,Act.put,lsA,lsZ,lsS]
   refine wpAnyG.tA 5 (v:=.agg #[.bool s.p,.slice s.a s.na s.ca,.slice s.d s.nd s.cd]) (by decide) 6 (by kernel_rfl) (by rfl) ?y5 (HBX _ hc0) ?_
   case y5 =>
    rintro w' ⟨q0,q1,q2,q3,q4,q5,q6,q7,q8,q9,q10⟩
    simp only [lgA,lgZ,lgS]
    go_simp
   simp only [lgA,lgZ,lgS,Act.put,lsA,lsZ,lsS]
   refine wpAnyG.one 3 (by kernel_rfl) (by decide) (by rfl) (fun K hK=>?_)
   simp only [lgA,lgZ,lgS]
   go_simp
   refine (aC4 P (Kx:=s.K) z0 (hP.below (aB hb1 hc0)) (hS.x.below (aB hb1 hc0)) hS.zx (by omega) hS.xc HX.out (by omega) (hT.below (aB hb1 hc0))).mono ?_
   rintro e z1 ⟨f1,c1,m1,l1,d1,k1,j1,rfl,G1,hk1⟩
   have hc1:Below W1.heap.size W1 z1:=aB hc0 hk1
   dsimp only
   refine hK _ _ (HBX _ hc1) ?_
   clear hK K
   refine wpAnyG.one 6 (by kernel_rfl) (by decide) (by rfl) (fun K hK=>?_)
   simp only [lgA,lgZ,lgS]
   go_simp
   refine (oH tc z1 G1.tr (hS.v.below (aB hb1 hc1)) (by omega) (by omega) hS1 htc.out).mono ?_
   rintro e z2 ⟨rfl,hk2⟩
   have hc2:Below W1.heap.size W1 z2:=aB hc1 hk2
   dsimp only
   refine hK _ _ (HBX _ hc2) ?_
   clear hK K
   refine wpAnyG.one 7 (by kernel_rfl) (by decide) (by rfl) (fun K hK=>?_)
   simp only [lgA,lgZ,lgS]
   go_simp
   refine hK _ _ (HBX _ hc2) ?_
   clear hK K
   refine wpAnyG.done (by kernel_rfl) (NoPanic.normal ?_)
   try simp only [Act.put,List.setIfInBounds_toArray,List.set_cons_zero,List.set_cons_succ]
   have hb3:=aB hb1 hc2
   have E3:=EH.v.below hb3
   rw [epe] at E3
   have e3:=E3.1
   clear HBX hc0 hc1 hc2 hk1 hk2 G1 HTR E3
   go_wp2
   go_ret
   exact ⟨hb3,.inl ⟨_,rfl,⟨_,rfl⟩,HN.out⟩⟩
theorem aR9 (P:Prob) (s:Srch) (w:World) (hP:PQ w P) (hS:SQ w s) (hK:P.K + s.K≤1048576) (hT:TB w) {eS eP eV eR eD eW:Value} {pB:Addr} (EH:EE w eS eP eV (.iface 173 (.pointer (some pB))) eR eD) (EW:Errs w 6 eW) :
 Calls Tryz.prog 11 #[P.val,s.val] w fun e w'=>CuR P s w e w':=by
 have hallS:=hS.all
 have hallP:=hP.all
 have ht1:=bJ s.ZX s.xn
 have ht2:=bJ s.ZZ s.zn
 have ht3:=bJ s.ZT s.tn
 have hS1:=hS.s1
 have HPT:∀ W,Below w.heap.size w W→Calls Tryz.prog 22 #[P.val,.slice s.xa s.xn s.xc] W fun e w'=>PtR P s.xn s.X eS eP eW W e w':=fun W hW=>aI2 P (Kx:=s.K) W (hP.below hW) (hS.x.below hW) hS.zx (by omega) hS.xc (by omega) (hT.below hW) (EH.s.below hW) (EH.p.below hW) (EW.below hW)
 have hcr:=hS.crt
 have hcK:=hS.crtK
 have hc3:∀ W,Below w.heap.size w W→CQ W { s.crt with vd:=3 }:=fun W hW=>by
  have h:=hcr.below hW
  exact ⟨h.v,h.s1,h.sv,h.x,h.zx,h.y,h.zy,h.z,h.zz,h.all,h.xc,h.zc⟩
 have HCK:∀ W,Below w.heap.size w W→Calls Tryz.prog 28 #[P.val,.agg #[.int .i64 3,.bool false,.slice none 0 0,.slice none 0 0,.slice s.xa s.xn s.xc,.slice none 0 0,.slice s.za s.zn s.zc]] W fun e w'=>ChkB P { s.crt with vd:=3 } W e w':=fun W hW=>chkB P { s.crt with vd:=3 } W (hP.below hW) (hc3 W hW) (by show P.K + s.crt.K≤1048576;omega) (hT.below hW) (EH.below hW)
 clear hc3 hcr hcK
 unfold Prob.val Srch.val at *
 obtain ⟨Pb,Sb,hb0,hs0⟩:=uP w #[.bool P.mx,.string P.nm,.bool P.p,.slice P.a P.na P.ca,.slice P.d P.nd P.cd,.slice P.va P.vn P.vc,.slice P.ra P.rn P.rc] 31 #[.int .i64 s.vd,.bool s.p,.slice s.a s.na s.ca,.slice s.d s.nd s.cd,.slice s.xa s.xn s.xc,.slice s.za s.zn s.zc,.slice s.ta s.tn s.tc,.int .i64 s.nn] 35
 have p0:=Pb 0 _ rfl
 have p1:=Pb 1 _ rfl
 have p2:=Pb 2 _ rfl
 have p3:=Pb 3 _ rfl
 have p4:=Pb 4 _ rfl
 have p5:=Pb 5 _ rfl
 have p6:=Pb 6 _ rfl
 have s4:=Sb 4 _ rfl
 go_enter Tryz.func11,Tryz.ntmps11
 go_wp2_with fail
 clear p0 p1 p2 p3 p4 p5 p6 s4
 generalize (w.alloc (.cells #[.bool P.mx,.string P.nm,.bool P.p,.slice P.a P.na P.ca,.slice P.d P.nd P.cd,.slice P.va P.vn P.vc,.slice P.ra P.rn P.rc] 31)).alloc (.cells #[.int .i64 s.vd,.bool s.p,.slice s.a s.na s.ca,.slice s.d s.nd s.cd,.slice s.xa s.xn s.xc,.slice s.za s.zn s.zc,.slice s.ta s.tn s.tc,.int .i64 s.nn] 35) = W0 at *
 refine (HPT W0 hb0).mono ?_
 rintro e W1 ⟨h1,hpt⟩
 have hb1:=aB hb0 h1
 replace Pb:=Pb.below h1
 replace Sb:=Sb.below h1
 clear h1 hb0 HPT
 rcases hpt with ⟨hn,rfl⟩ | ⟨hx,⟨hn,rfl⟩ | ⟨hl,⟨hn,rfl⟩ | ⟨hw,rfl⟩⟩⟩
 ·obtain ⟨pe,rfl⟩:=EH.s.2
  clear hn HCK
  go_wp2
  go_ret
  exact ⟨hb1,.inl ⟨_,rfl,⟨_,rfl⟩⟩⟩
 ·obtain ⟨pe,rfl⟩:=EH.p.2
  clear hn HCK
  go_wp2
  go_ret
  exact ⟨hb1,.inl ⟨_,rfl,⟨_,rfl⟩⟩⟩
 ·obtain ⟨pe,rfl⟩:=EW.2
  clear hn HCK
  go_wp2
  go_ret
  exact ⟨hb1,.inl ⟨_,rfl,⟨_,rfl⟩⟩⟩
 ·have HL:Hid (bY P s.xn s.X∧Whl P s.xn s.X):=⟨hl,hw⟩
  clear hx hl hw
  have p0:=Pb 0 _ rfl
  have p1:=Pb 1 _ rfl
  have p2:=Pb 2 _ rfl
  have p3:=Pb 3 _ rfl
  have p4:=Pb 4 _ rfl
  have p5:=Pb 5 _ rfl
  have p6:=Pb 6 _ rfl
  have s4:=Sb 4 _ rfl
  have s5:=Sb 5 _ rfl
  go_wp2_with fail
  clear p0 p1 p2 p3 p4 p5 p6 s4 s5
  refine (HCK W1 hb1).mono ?_
  rintro e z3 ⟨h3,⟨vv,rfl,⟨pv,rfl⟩,_⟩ | ⟨rfl,hsn⟩⟩
  ·have hb4:=aB hb1 h3
   clear h3 HCK
   go_wp2
   go_ret
   exact ⟨hb4,.inl ⟨_,rfl,⟨_,rfl⟩⟩⟩
  ·have hb4:=aB hb1 h3
   have HC:Hid (s.zn = P.vn∧Dir P s.Z∧imp P s.Z):=by
    rcases hsn with ⟨q,_⟩ | ⟨q,_⟩ | ⟨_,_,q2,_,q4,q5⟩
    ·exact absurd (show (3:Int) = 1 from q) (by decide)
    ·exact absurd (show (3:Int) = 2 from q) (by decide)
    ·exact ⟨q2,q4,q5⟩
   clear hsn h3 HCK
   go_wp2
   go_ret
   exact ⟨hb4,.inr ⟨rfl,HL.out.1,HL.out.2,HC.out.1,HC.out.2.1,HC.out.2.2⟩⟩
def uX (P:Prob) (s:Srch):Prop:=s.vd = 1∧(∀ j,j < P.vn→(P.V j).whole = true→(P.V j).hlo = true∧(P.V j).hhi = true)∧AccP P s
def BcR (P:Prob) (s:Srch) (w:World) (e:Ending) (w':World):Prop:=Below w.heap.size w w'∧((∃ v,e = .returned v∧uO v∧¬ uX P s)∨(e = .returned .nilIface∧Fnd P s))
theorem aM3 (P:Prob) (s:Srch) (w:World) (hP:PQ w P) (hS:SQ w s) (hK:P.K + s.K≤1048576) (hT:TB w) {eS eP eV eR eD eT eW eO:Value} {pB:Addr} (EH:EE w eS eP eV (.iface 173 (.pointer (some pB))) eR eD) (ET:Errs w 3 eT) (EW:Errs w 6 eW) (EO:Errs w 0 eO) :
 Calls Tryz.prog 5 #[P.val,s.val] w fun e w'=>BcR P s w e w':=by
 have HOP:∀ W,Below w.heap.size w W→Calls Tryz.prog 8 #[P.val] W fun e w'=>OpnR P W e w':=fun W hW=>aR3 P W (hP.below hW) (by omega)
 have HC1:∀ W,Below w.heap.size w W→Calls Tryz.prog 9 #[P.val,s.val] W fun e w'=>CoR P s W e w':=fun W hW=>aR8 P s W (hP.below hW) (hS.below hW) hK (hT.below hW) (EH.below hW) (ET.below hW) (EW.below hW)
 have HC2:∀ W,Below w.heap.size w W→Calls Tryz.prog 10 #[P.val,s.val] W fun e w'=>TcR P s W e w':=fun W hW=>aI6 P s W (hP.below hW) (hS.below hW) hK (hT.below hW) (EH.below hW) (ET.below hW)
 have HC3:∀ W,Below w.heap.size w W→Calls Tryz.prog 11 #[P.val,s.val] W fun e w'=>CuR P s W e w':=fun W hW=>aR9 P s W (hP.below hW) (hS.below hW) hK (hT.below hW) (EH.below hW) (EW.below hW)
 clear hP hS hK hT
 unfold Prob.val Srch.val at *
 by_cases hv1:s.vd = 1
 ·have HV:Hid (s.vd = 1):=hv1
  rw [hv1] at HC1 HC2 HC3
  rw [hv1]
  obtain ⟨Pb,Sb,hb0,hs0⟩:=uP w #[.bool P.mx,.string P.nm,.bool P.p,.slice P.a P.na P.ca,.slice P.d P.nd P.cd,.slice P.va P.vn P.vc,.slice P.ra P.rn P.rc] 31 #[.int .i64 1,.bool s.p,.slice s.a s.na s.ca,.slice s.d s.nd s.cd,.slice s.xa s.xn s.xc,.slice s.za s.zn s.zc,.slice s.ta s.tn s.tc,.int .i64 s.nn] 35
  have p0:=Pb 0 _ rfl
  have p1:=Pb 1 _ rfl
  have p2:=Pb 2 _ rfl
  have p3:=Pb 3 _ rfl
  have p4:=Pb 4 _ rfl
  have p5:=Pb 5 _ rfl
  have p6:=Pb 6 _ rfl
  go_enter Tryz.func5,Tryz.ntmps5
  go_wp2_with fail
  clear p0 p1 p2 p3 p4 p5 p6 
  generalize (w.alloc (.cells #[.bool P.mx,.string P.nm,.bool P.p,.slice P.a P.na P.ca,.slice P.d P.nd P.cd,.slice P.va P.vn P.vc,.slice P.ra P.rn P.rc] 31)).alloc (.cells #[.int .i64 1,.bool s.p,.slice s.a s.na s.ca,.slice s.d s.nd s.cd,.slice s.xa s.xn s.xc,.slice s.za s.zn s.zc,.slice s.ta s.tn s.tc,.int .i64 s.nn] 35) = W0 at *
  refine (HOP W0 hb0).mono ?_
  rintro e W1 ⟨bo,rfl,hop,h1⟩
  have hb1:=aB hb0 h1
  replace Pb:=Pb.below h1
  replace Sb:=Sb.below h1
  clear h1 hb0 HOP
  cases bo
  ·clear hv1
   have HO:Hid (∀ j,j < P.vn→(P.V j).whole = true→(P.V j).hlo = true∧(P.V j).hhi = true):=hop.1 rfl
   clear hop
   have p0:=Pb 0 _ rfl
   have p1:=Pb 1 _ rfl
   have p2:=Pb 2 _ rfl
   have p3:=Pb 3 _ rfl
   have p4:=Pb 4 _ rfl
   have p5:=Pb 5 _ rfl
   have p6:=Pb 6 _ rfl
   have s0:=Sb 0 _ rfl
   have s1:=Sb 1 _ rfl
   have s2:=Sb 2 _ rfl
   have s3:=Sb 3 _ rfl
   have s4:=Sb 4 _ rfl
   have s5:=Sb 5 _ rfl
   have s6:=Sb 6 _ rfl
   have s7:=Sb 7 _ rfl
   go_wp2_with fail
   clear s0 s1 s2 s3 s4 s5 s6 s7 p0 p1 p2 p3 p4 p5 p6
   refine (HC1 W1 hb1).mono ?_
   rintro e z3 ⟨h3,⟨vv,rfl,⟨pv,rfl⟩,hn⟩ | ⟨rfl,q1,q2,q3,q4⟩⟩
   ·have hb4:=aB hb1 h3
    have HN:Hid (¬ uX P s):=fun ha=>hn ha.2.2
    clear hn h3 HC1 HC2 HC3
    go_wp2
    go_ret
    exact ⟨hb4,.inl ⟨_,rfl,⟨_,rfl⟩,HN.out⟩⟩
   ·have hb4:=aB hb1 h3
    have HF:Hid (Fnd P s):=.inl ⟨HV.out,q1,q2,q3,fun n Y hY hW=>(q4 n Y hY hW).2⟩
    clear h3 HC1 HC2 HC3
    go_wp2
    go_ret
    exact ⟨hb4,.inr ⟨rfl,HF.out⟩⟩
  ·clear hv1 HC1 HC2 HC3
   have HN:Hid (¬ uX P s):=fun ha=>by have:=hop.2 ha.2.1;cases this
   obtain ⟨ec,pp,rfl⟩:=EO.below hb1
   clear hop
   have s0:=Sb 0 _ rfl
   go_wp2
   go_ret
   exact ⟨hb1,.inl ⟨_,rfl,⟨_,rfl⟩,HN.out⟩⟩
 ·by_cases hv2:s.vd = 2
  ·have HV:Hid (s.vd = 2):=hv2
   rw [hv2] at HC1 HC2 HC3
   rw [hv2]
   obtain ⟨Pb,Sb,hb0,hs0⟩:=uP w #[.bool P.mx,.string P.nm,.bool P.p,.slice P.a P.na P.ca,.slice P.d P.nd P.cd,.slice P.va P.vn P.vc,.slice P.ra P.rn P.rc] 31 #[.int .i64 2,.bool s.p,.slice s.a s.na s.ca,.slice s.d s.nd s.cd,.slice s.xa s.xn s.xc,.slice s.za s.zn s.zc,.slice s.ta s.tn s.tc,.int .i64 s.nn] 35
   have p0:=Pb 0 _ rfl
   have p1:=Pb 1 _ rfl
   have p2:=Pb 2 _ rfl
   have p3:=Pb 3 _ rfl
   have p4:=Pb 4 _ rfl
   have p5:=Pb 5 _ rfl
   have p6:=Pb 6 _ rfl
   go_enter Tryz.func5,Tryz.ntmps5
   go_wp2_with fail
   clear p0 p1 p2 p3 p4 p5 p6 
   generalize (w.alloc (.cells #[.bool P.mx,.string P.nm,.bool P.p,.slice P.a P.na P.ca,.slice P.d P.nd P.cd,.slice P.va P.vn P.vc,.slice P.ra P.rn P.rc] 31)).alloc (.cells #[.int .i64 2,.bool s.p,.slice s.a s.na s.ca,.slice s.d s.nd s.cd,.slice s.xa s.xn s.xc,.slice s.za s.zn s.zc,.slice s.ta s.tn s.tc,.int .i64 s.nn] 35) = W0 at *
   refine (HOP W0 hb0).mono ?_
   rintro e W1 ⟨bo,rfl,hop,h1⟩
   have hb1:=aB hb0 h1
   replace Pb:=Pb.below h1
   replace Sb:=Sb.below h1
   clear h1 hb0 HOP
   cases bo
   ·clear hv1 hv2
    have HO:Hid (∀ j,j < P.vn→(P.V j).whole = true→(P.V j).hlo = true∧(P.V j).hhi = true):=hop.1 rfl
    clear hop
    have p0:=Pb 0 _ rfl
    have p1:=Pb 1 _ rfl
    have p2:=Pb 2 _ rfl
    have p3:=Pb 3 _ rfl
    have p4:=Pb 4 _ rfl
    have p5:=Pb 5 _ rfl
    have p6:=Pb 6 _ rfl
    have s0:=Sb 0 _ rfl
    have s1:=Sb 1 _ rfl
    have s2:=Sb 2 _ rfl
    have s3:=Sb 3 _ rfl
    have s4:=Sb 4 _ rfl
    have s5:=Sb 5 _ rfl
    have s6:=Sb 6 _ rfl
    have s7:=Sb 7 _ rfl
    go_wp2_with fail
    clear s0 s1 s2 s3 s4 s5 s6 s7 p0 p1 p2 p3 p4 p5 p6
    refine (HC2 W1 hb1).mono ?_
    rintro e z3 ⟨h3,⟨vv,rfl,⟨pv,rfl⟩,hn⟩ | ⟨rfl,q4⟩⟩
    ·have hb4:=aB hb1 h3
     have HN:Hid (¬ uX P s):=fun ha=>absurd (HV.out.symm.trans ha.1) (by decide)
     clear hn h3 HC1 HC2 HC3
     go_wp2
     go_ret
     exact ⟨hb4,.inl ⟨_,rfl,⟨_,rfl⟩,HN.out⟩⟩
    ·have hb4:=aB hb1 h3
     have HF:Hid (Fnd P s):=.inr (.inl ⟨HV.out,fun n Y hY hW=>by have h5:=(q4 n Y hY hW).1;unfold Srch.inf at h5;rw [HV.out] at h5;exact absurd h5 (by decide)⟩)
     clear h3 HC1 HC2 HC3
     go_wp2
     go_ret
     exact ⟨hb4,.inr ⟨rfl,HF.out⟩⟩
   ·clear hv1 hv2 HC1 HC2 HC3
    have HN:Hid (¬ uX P s):=fun ha=>by have:=hop.2 ha.2.1;cases this
    obtain ⟨ec,pp,rfl⟩:=EO.below hb1
    clear hop
    have s0:=Sb 0 _ rfl
    go_wp2
    go_ret
    exact ⟨hb1,.inl ⟨_,rfl,⟨_,rfl⟩,HN.out⟩⟩
  ·by_cases hv3:s.vd = 3
   ·have HV:Hid (s.vd = 3):=hv3
    rw [hv3] at HC1 HC2 HC3
    rw [hv3]
    obtain ⟨Pb,Sb,hb0,hs0⟩:=uP w #[.bool P.mx,.string P.nm,.bool P.p,.slice P.a P.na P.ca,.slice P.d P.nd P.cd,.slice P.va P.vn P.vc,.slice P.ra P.rn P.rc] 31 #[.int .i64 3,.bool s.p,.slice s.a s.na s.ca,.slice s.d s.nd s.cd,.slice s.xa s.xn s.xc,.slice s.za s.zn s.zc,.slice s.ta s.tn s.tc,.int .i64 s.nn] 35
    have p0:=Pb 0 _ rfl
    have p1:=Pb 1 _ rfl
    have p2:=Pb 2 _ rfl
    have p3:=Pb 3 _ rfl
    have p4:=Pb 4 _ rfl
    have p5:=Pb 5 _ rfl
    have p6:=Pb 6 _ rfl
    go_enter Tryz.func5,Tryz.ntmps5
    go_wp2_with fail
    clear p0 p1 p2 p3 p4 p5 p6 
    generalize (w.alloc (.cells #[.bool P.mx,.string P.nm,.bool P.p,.slice P.a P.na P.ca,.slice P.d P.nd P.cd,.slice P.va P.vn P.vc,.slice P.ra P.rn P.rc] 31)).alloc (.cells #[.int .i64 3,.bool s.p,.slice s.a s.na s.ca,.slice s.d s.nd s.cd,.slice s.xa s.xn s.xc,.slice s.za s.zn s.zc,.slice s.ta s.tn s.tc,.int .i64 s.nn] 35) = W0 at *
    refine (HOP W0 hb0).mono ?_
    rintro e W1 ⟨bo,rfl,hop,h1⟩
    have hb1:=aB hb0 h1
    replace Pb:=Pb.below h1
    replace Sb:=Sb.below h1
    clear h1 hb0 HOP
    cases bo
    ·clear hv1 hv2 hv3
     have HO:Hid (∀ j,j < P.vn→(P.V j).whole = true→(P.V j).hlo = true∧(P.V j).hhi = true):=hop.1 rfl
     clear hop
     have p0:=Pb 0 _ rfl
     have p1:=Pb 1 _ rfl
     have p2:=Pb 2 _ rfl
     have p3:=Pb 3 _ rfl
     have p4:=Pb 4 _ rfl
     have p5:=Pb 5 _ rfl
     have p6:=Pb 6 _ rfl
     have s0:=Sb 0 _ rfl
     have s1:=Sb 1 _ rfl
     have s2:=Sb 2 _ rfl
     have s3:=Sb 3 _ rfl
     have s4:=Sb 4 _ rfl
     have s5:=Sb 5 _ rfl
     have s6:=Sb 6 _ rfl
     have s7:=Sb 7 _ rfl
     go_wp2_with fail
     clear s0 s1 s2 s3 s4 s5 s6 s7 p0 p1 p2 p3 p4 p5 p6
     refine (HC3 W1 hb1).mono ?_
     rintro e z3 ⟨h3,⟨vv,rfl,⟨pv,rfl⟩⟩ | ⟨rfl,q1,q2,q3,q4,q5⟩⟩
     ·have hb4:=aB hb1 h3
      have HN:Hid (¬ uX P s):=fun ha=>absurd (HV.out.symm.trans ha.1) (by decide)
      clear  h3 HC1 HC2 HC3
      go_wp2
      go_ret
      exact ⟨hb4,.inl ⟨_,rfl,⟨_,rfl⟩,HN.out⟩⟩
     ·have hb4:=aB hb1 h3
      have HF:Hid (Fnd P s):=.inr (.inr ⟨HV.out,q1,q2,q3,q4,q5,fun j hj hw=>aH1 q4 hj (HO.out j hj hw).1 (HO.out j hj hw).2⟩)
      clear h3 HC1 HC2 HC3
      go_wp2
      go_ret
      exact ⟨hb4,.inr ⟨rfl,HF.out⟩⟩
    ·clear hv1 hv2 hv3 HC1 HC2 HC3
     have HN:Hid (¬ uX P s):=fun ha=>by have:=hop.2 ha.2.1;cases this
     obtain ⟨ec,pp,rfl⟩:=EO.below hb1
     clear hop
     have s0:=Sb 0 _ rfl
     go_wp2
     go_ret
     exact ⟨hb1,.inl ⟨_,rfl,⟨_,rfl⟩,HN.out⟩⟩
   ·have n1:(s.vd == 1) = false:=by simpa using hv1
    have n2:(s.vd == 2) = false:=by simpa using hv2
    have n3:(s.vd == 3) = false:=by simpa using hv3
    obtain ⟨Pb,Sb,hb0,hs0⟩:=uP w #[.bool P.mx,.string P.nm,.bool P.p,.slice P.a P.na P.ca,.slice P.d P.nd P.cd,.slice P.va P.vn P.vc,.slice P.ra P.rn P.rc] 31 #[.int .i64 s.vd,.bool s.p,.slice s.a s.na s.ca,.slice s.d s.nd s.cd,.slice s.xa s.xn s.xc,.slice s.za s.zn s.zc,.slice s.ta s.tn s.tc,.int .i64 s.nn] 35
    have p0:=Pb 0 _ rfl
    have p1:=Pb 1 _ rfl
    have p2:=Pb 2 _ rfl
    have p3:=Pb 3 _ rfl
    have p4:=Pb 4 _ rfl
    have p5:=Pb 5 _ rfl
    have p6:=Pb 6 _ rfl
    go_enter Tryz.func5,Tryz.ntmps5
    go_wp2_with fail
    clear p0 p1 p2 p3 p4 p5 p6 
    generalize (w.alloc (.cells #[.bool P.mx,.string P.nm,.bool P.p,.slice P.a P.na P.ca,.slice P.d P.nd P.cd,.slice P.va P.vn P.vc,.slice P.ra P.rn P.rc] 31)).alloc (.cells #[.int .i64 s.vd,.bool s.p,.slice s.a s.na s.ca,.slice s.d s.nd s.cd,.slice s.xa s.xn s.xc,.slice s.za s.zn s.zc,.slice s.ta s.tn s.tc,.int .i64 s.nn] 35) = W0 at *
    refine (HOP W0 hb0).mono ?_
    rintro e W1 ⟨bo,rfl,hop,h1⟩
    have hb1:=aB hb0 h1
    replace Pb:=Pb.below h1
    replace Sb:=Sb.below h1
    clear h1 hb0 HOP
    cases bo
    ·have HN:Hid (¬ uX P s):=fun ha=>hv1 ha.1
     obtain ⟨ec,pp,rfl⟩:=EH.d.below hb1
     clear hop HC1 HC2 HC3 hv1 hv2 hv3
     have s0:=Sb 0 _ rfl
     go_wp2
     go_ret
     exact ⟨hb1,.inl ⟨_,rfl,⟨_,rfl⟩,HN.out⟩⟩
    ·clear hv1 hv2 hv3 HC1 HC2 HC3
     have HN:Hid (¬ uX P s):=fun ha=>by have:=hop.2 ha.2.1;cases this
     obtain ⟨ec,pp,rfl⟩:=EO.below hb1
     clear hop
     have s0:=Sb 0 _ rfl
     go_wp2
     go_ret
     exact ⟨hb1,.inl ⟨_,rfl,⟨_,rfl⟩,HN.out⟩⟩
def sPr (va:Option Addr):Prob:=⟨false,⟨#[]⟩,false,none,0,0,none,0,0,va,1,1,none,0,0,0,fun _=>⟨⟨#[]⟩,((1:Int):Rat),true,((3:Int):Rat),true,((4:Int):Rat),true⟩,fun _=>1,fun _=>⟨⟨#[]⟩,0,fun _=>⟨0,0⟩,false,0,false,0⟩,fun _=>1,1,100⟩
section
variable (va:Option Addr)
theorem s_holds:bY (sPr va) 1 (fun _=>((3:Int):Rat)):=by
 refine ⟨rfl,fun j hj=>?_,fun i hi=>absurd hi (Nat.not_lt_zero _)⟩
 rw [iM]
 refine ⟨fun _=>?_,fun _=>?_⟩
 ·show ((3:Int):Rat)≤((3:Int):Rat)
  rw [q3];grind
 ·show ((3:Int):Rat)≤((4:Int):Rat)
  rw [q3,q4];grind
theorem aS0:Whl (sPr va) 1 (fun _=>((3:Int):Rat)):=⟨rfl,fun _ _ _=>rfl⟩
theorem aM4:vlu (sPr va) (fun _=>((3:Int):Rat)) = ((3:Int):Rat):=by kernel_rfl
theorem aS1:lft (sPr va) (fun _=>0) 0 = 1:=by kernel_rfl
theorem s_ok:okS (sPr va) (fun _=>0):=by
 unfold okS
 rw [if_neg (by show ¬ (false = true);decide)]
 exact ⟨fun i hi=>absurd hi (Nat.not_lt_zero _),fun j hj=>⟨fun _=>rfl,fun _=>rfl⟩⟩
theorem s_pv:pvS (sPr va) (fun _=>0) = ((3:Int):Rat):=by
 unfold pvS
 rw [if_neg (by show ¬ (false = true);decide)]
 show (0:Rat) + 0 + (0 + pb (lft (sPr va) (fun _=>0) 0) ((3:Int):Rat) ((4:Int):Rat)) = ((3:Int):Rat)
 rw [aS1,q3,q4]
 unfold pb
 rw [if_pos (by grind)]
 grind
end
def sCr (f3:Bool) (c3:Option Addr) (n3 k3:Nat) (d3:Option Addr) (m3 l3:Nat) (xa:Option Addr):Crt:=⟨1,f3,c3,n3,k3,d3,m3,l3,xa,1,1,none,0,0,none,0,0,((3:Int):Rat),fun _=>((3:Int):Rat),fun _=>0,fun _=>0,fun _=>1,fun _=>1,fun _=>1,1,50⟩
def sNd (C:Crt):Nod:=⟨false,0,false,none,0,0,0,0,0,C⟩
def sSr (f3:Bool) (c3:Option Addr) (n3 k3:Nat) (d3:Option Addr) (m3 l3:Nat) (xa xa2 ta:Option Addr):Srch:=⟨1,f3,c3,n3,k3,d3,m3,l3,xa,1,1,none,0,0,ta,1,1,1,((3:Int):Rat),fun _=>((3:Int):Rat),fun _=>0,fun _=>sNd (sCr f3 c3 n3 k3 d3 m3 l3 xa2),fun _=>1,fun _=>1,fun _=>60,1,200⟩
theorem aS2 (f3:Bool) (c3:Option Addr) (n3 k3:Nat) (d3:Option Addr) (m3 l3:Nat) (va xa xa2 ta:Option Addr):uX (sPr va) (sSr f3 c3 n3 k3 d3 m3 l3 xa xa2 ta):=by
 refine ⟨rfl,fun _ _ _=>⟨rfl,rfl⟩,rfl,s_holds va,aS0 va,aM4 va,Nat.zero_lt_one,fun _=>rfl,rfl,⟨rfl,rfl,rfl,s_holds va,aM4 va,s_ok va,s_pv va⟩,?_⟩
 show ¬ btr (sPr va) ((3:Int):Rat) ((3:Int):Rat)
 unfold btr
 rw [if_neg (by show ¬ (false = true);decide)]
 exact fun h=>by rw [q3] at h;grind
theorem aS5 (U:World) (c0 c1 c2 c3 c4 c5:Array Value) (t0 t1 t2 t3 t4 t5:TypeId) (V1 V2 V3 V4 V5 V6:World) (h1:V1 = U.alloc (.cells c0 t0)) (h2:V2 = V1.alloc (.cells c1 t1)) (h3:V3 = V2.alloc (.cells c2 t2)) (h4:V4 = V3.alloc (.cells c3 t3)) (h5:V5 = V4.alloc (.cells c4 t4)) (h6:V6 = V5.alloc (.cells c5 t5)) :
 Below U.heap.size U V4∧Below U.heap.size U V6∧Rw t0 V6 U.heap.size c0∧Rw t2 V6 (U.heap.size + 2) c2∧Rw t3 V5 (U.heap.size + 3) c3∧Rw t4 V6 (U.heap.size + 4) c4∧BoxC V6 (U.heap.size + 5) c5.toList∧V1.heap.size = U.heap.size + 1∧V2.heap.size = U.heap.size + 2∧V3.heap.size = U.heap.size + 3∧V4.heap.size = U.heap.size + 4∧V5.heap.size = U.heap.size + 5∧V6.heap.size = U.heap.size + 6:=by
 have e0:Below U.heap.size U V1:=by rw [h1];exact aG _ _
 have e1:Below V1.heap.size V1 V2:=by rw [h2];exact aG _ _
 have e2:Below V2.heap.size V2 V3:=by rw [h3];exact aG _ _
 have e3:Below V3.heap.size V3 V4:=by rw [h4];exact aG _ _
 have e4:Below V4.heap.size V4 V5:=by rw [h5];exact aG _ _
 have e5:Below V5.heap.size V5 V6:=by rw [h6];exact aG _ _
 have z1:V1.heap.size = U.heap.size + 1:=by rw [h1];exact World.size_alloc _ _
 have z2:V2.heap.size = U.heap.size + 2:=by rw [h2,World.size_alloc,z1]
 have z3:V3.heap.size = U.heap.size + 3:=by rw [h3,World.size_alloc,z2]
 have z4:V4.heap.size = U.heap.size + 4:=by rw [h4,World.size_alloc,z3]
 have z5:V5.heap.size = U.heap.size + 5:=by rw [h5,World.size_alloc,z4]
 have z6:V6.heap.size = U.heap.size + 6:=by rw [h6,World.size_alloc,z5]
 have r0:Rw t0 V1 U.heap.size c0:=by rw [h1];exact Rw.new _ _ _
 have r2:Rw t2 V3 V2.heap.size c2:=by rw [h3];exact Rw.new _ _ _
 have r3:Rw t3 V4 V3.heap.size c3:=by rw [h4];exact Rw.new _ _ _
 have r4:Rw t4 V5 V4.heap.size c4:=by rw [h5];exact Rw.new _ _ _
 have r5:BoxC V6 V5.heap.size c5.toList:=by rw [h6];exact aJ _ _ _
 rw [z2] at r2
 rw [z3] at r3
 rw [z4] at r4
 rw [z5] at r5
 have e35:=aB (aB e3 e4) e5
 have b4:=aB (aB (aB e0 e1) e2) e3
 exact ⟨b4,aB (aB b4 e4) e5,r0.below (aB (aB e1 e2) e35),r2.below e35,r3.below e4,r4.below e5,r5,z1,z2,z3,z4,z5,z6⟩
theorem s_hP {V:World} {B:Nat} {f1:Bool} {c1 d1:Option Addr} {n1 k1 m1 l1:Nat} {f3:Bool} {c3 d3:Option Addr} {n3 k3 m3 l3:Nat} {f4:Bool} {c4 d4:Option Addr} {n4 k4 m4 l4:Nat} (V6:Rw 45 V B #[.string ⟨#[]⟩,.bool f1,.slice c1 n1 k1,.slice d1 m1 l1,.bool true,.bool f3,.slice c3 n3 k3,.slice d3 m3 l3,.bool true,.bool f4,.slice c4 n4 k4,.slice d4 m4 l4,.bool true]) (t1:TR V f1 c1 n1 k1 d1 m1 l1 ((1:Int):Rat) 1) (t3:TR V f3 c3 n3 k3 d3 m3 l3 ((3:Int):Rat) 1) (t4:TR V f4 c4 n4 k4 d4 m4 l4 ((4:Int):Rat) 1):PQ V (sPr (some ⟨B,0,none⟩)) :=
 ⟨mG _,Nat.le_refl _,(mG V).sz (Nat.le_refl _),.inr ⟨B,0,rfl,fun i hi=>by
  obtain rfl:i = 0:=Nat.lt_one_iff.1 hi
  exact ⟨V6.cell 0,⟨_,_,_,_,_,_,_,V6.cell 1,V6.cell 2,V6.cell 3,t1⟩,V6.cell 4,⟨_,_,_,_,_,_,_,V6.cell 5,V6.cell 6,V6.cell 7,t3⟩,V6.cell 8,⟨_,_,_,_,_,_,_,V6.cell 9,V6.cell 10,V6.cell 11,t4⟩,V6.cell 12,Nat.le_refl _,t1.sz (Nat.le_refl _),t3.sz (Nat.le_refl _),t4.sz (Nat.le_refl _),Nat.zero_le _⟩⟩,.inl rfl,(show 1 + tot (fun _=>1) 1 + tot (fun _=>1) 0 + 0≤100 by decide),Nat.le_refl _,Nat.le_refl _⟩
theorem s_hC {V:World} {B:Nat} {f3:Bool} {c3 d3:Option Addr} {n3 k3 m3 l3:Nat} (X6:Rw 27 V B #[.bool f3,.slice c3 n3 k3,.slice d3 m3 l3]) (t3:TR V f3 c3 n3 k3 d3 m3 l3 ((3:Int):Rat) 1):CQ V (sCr f3 c3 n3 k3 d3 m3 l3 (some ⟨B,0,none⟩)) :=
 have hl3:∀ i,i < 1→1≤1∧SzR ((3:Int):Rat) 1:=fun _ _=>⟨Nat.le_refl _,t3.sz (Nat.le_refl _)⟩
 ⟨t3,Nat.le_refl _,t3.sz (Nat.le_refl _),.inr ⟨B,0,rfl,fun i hi=>by
  obtain rfl:i = 0:=Nat.lt_one_iff.1 hi
  exact ⟨_,_,_,_,_,_,_,X6.cell 0,X6.cell 1,X6.cell 2,t3⟩⟩,hl3,.inl rfl,fun i hi=>absurd hi (Nat.not_lt_zero _),.inl rfl,fun i hi=>absurd hi (Nat.not_lt_zero _),(show 1 + tot (fun _=>1) 1 + tot (fun _=>1) 0 + tot (fun _=>1) 0≤50 by decide),Nat.le_refl _,Nat.le_refl _⟩
theorem s_hS {V:World} {B2 B4 B5:Nat} {f3:Bool} {c3 d3:Option Addr} {n3 k3 m3 l3:Nat} (Y6:Rw 27 V B4 #[.bool f3,.slice c3 n3 k3,.slice d3 m3 l3]) (N6:BoxC V B5 (#[.bool false,.int .i64 0,.bool false,.slice none 0 0,.int .i64 0,.int .i64 0,.int .i64 1,.bool f3,.slice c3 n3 k3,.slice d3 m3 l3,.slice (some ⟨B2,0,none⟩) 1 1,.slice none 0 0,.slice none 0 0]:Array Value).toList) (hC0:CQ V (sCr f3 c3 n3 k3 d3 m3 l3 (some ⟨B2,0,none⟩))) (t3:TR V f3 c3 n3 k3 d3 m3 l3 ((3:Int):Rat) 1):SQ V (sSr f3 c3 n3 k3 d3 m3 l3 (some ⟨B4,0,none⟩) (some ⟨B2,0,none⟩) (some ⟨B5,0,none⟩)) :=
 have hl3:∀ i,i < 1→1≤1∧SzR ((3:Int):Rat) 1:=fun _ _=>⟨Nat.le_refl _,t3.sz (Nat.le_refl _)⟩
 have hnil:TI V false none 0 0 0 1:=((GI.nil V 0).le (Nat.zero_le 1)).ti
 ⟨t3,Nat.le_refl _,t3.sz (Nat.le_refl _),.inr ⟨B4,0,rfl,fun i hi=>by
  obtain rfl:i = 0:=Nat.lt_one_iff.1 hi
  exact ⟨_,_,_,_,_,_,_,Y6.cell 0,Y6.cell 1,Y6.cell 2,t3⟩⟩,hl3,.inl rfl,fun i hi=>absurd hi (Nat.not_lt_zero _),.inr ⟨B5,0,rfl,fun i hi=>by
  obtain rfl:i = 0:=Nat.lt_one_iff.1 hi
  exact ⟨fun j u hu=>by have:=N6 j u hu;rw [show 0 + 0 * 13 + j = j by omega];exact this,⟨1,hnil,Nat.le_refl _,(show 1 + 50≤60 by decide)⟩,hC0,(show -9223372036854775808≤(0:Int)∧(0:Int)≤9223372036854775807 by decide),(show -9223372036854775808≤(0:Int)∧(0:Int)≤9223372036854775807 by decide),(show -9223372036854775808≤(0:Int)∧(0:Int)≤9223372036854775807 by decide)⟩⟩,(show 1 + tot (fun _=>1) 1 + tot (fun _=>1) 0 + tot (fun _=>60) 1≤200 by decide),Nat.le_refl _,Nat.le_refl _,Nat.le_refl _,(show -9223372036854775808≤(1:Int)∧(1:Int)≤9223372036854775807 by decide)⟩
theorem aS3 (w:World) (hT:TB w) {eS eP eV eR eD eT eW eO:Value} {pB:Addr} (EH:EE w eS eP eV (.iface 173 (.pointer (some pB))) eR eD) (ET:Errs w 3 eT) (EW:Errs w 6 eW) (EO:Errs w 0 eO) :
 Calls Tryz.prog 4 #[] w fun e w'=>e = .returned (.bool true)∧Below w.heap.size w w':=by
 go_enter Tryz.func4,Tryz.ntmps4
 go_wp2_with fail
 refine (ofD 3 w (by decide) (by decide)).mono ?_
 rintro e w1 ⟨f3,c3,n3,k3,d3,m3,l3,rfl,G3,h1⟩
 have hz:=aG w1 (.cells #[.bool f3,.slice c3 n3 k3,.slice d3 m3 l3] 27)
 have V3:=aN w1 (.bool f3) (.slice c3 n3 k3) (.slice d3 m3 l3) 27
 replace G3:=G3.below hz
 have hb1:=aB h1 hz
 clear h1 hz
 go_wp2_with fail
 generalize w1.alloc (.cells #[.bool f3,.slice c3 n3 k3,.slice d3 m3 l3] 27) = U at *
 obtain ⟨HT,hHT⟩:∃ HT,w1.heap.size = HT:=⟨_,rfl⟩
 rw [hHT] at V3 ⊢
 clear hHT w1
 have HBX:∀ w',Below U.heap.size U w'→(w'.cell? ⟨HT,0,none⟩ = some (.bool f3)∧w'.cell? ⟨HT,1,none⟩ = some (.slice c3 n3 k3)∧w'.cell? ⟨HT,2,none⟩ = some (.slice d3 m3 l3)):=fun w' h=>⟨(V3.below h).c0,(V3.below h).c1,(V3.below h).c2⟩
 refine xE (fun a0 a' w'=>∃ (u1 u2 u3 u4 u5 u6:Value) (RV:Nat) (f1:Bool) (c1:Option Addr) (n1 k1:Nat) (d1:Option Addr) (m1 l1:Nat) (f4:Bool) (c4:Option Addr) (n4 k4:Nat) (d4:Option Addr) (m4 l4:Nat),a' = (((((((a0.put (some 7) u1).put (some 8) u2).put (some 9) u3).put (some 10) u4).put (some 11) u5).put (some 12) u6).put (some 2) (.pointer (some ⟨RV,0,none⟩)))∧w'.rangeAt RV 0 [.string ⟨#[]⟩,.bool f1,.slice c1 n1 k1,.slice d1 m1 l1,.bool true,.bool f3,.slice c3 n3 k3,.slice d3 m3 l3,.bool true,.bool f4,.slice c4 n4 k4,.slice d4 m4 l4,.bool true]∧GR w' U.heap.size f1 c1 n1 k1 d1 m1 l1 ((1:Int):Rat) 1∧GR w' U.heap.size f4 c4 n4 k4 d4 m4 l4 ((4:Int):Rat) 1∧Below U.heap.size U w') ?_ ?_
 ·refine wp_region_noPanic (aU 7 HBX (by kernel_rfl) ?_)
  have hc0:Below U.heap.size U U.drew:=aK _
  generalize U.drew = z0 at *
  refine wpAnyG.tT 1 (v:=.agg #[.bool f3,.slice c3 n3 k3,.slice d3 m3 l3]) (by decide) 7 (by kernel_rfl) (by rfl) ?y1 (HBX _ hc0) ?_
  case y1 =>
   rintro w' ⟨q0,q1,q2⟩
   simp only [lgA,lgZ,lgS]
   go_simp
  simp only [lgA,lgZ,lgS,Act.put,lsA,lsZ,lsS]
  refine wpAnyG.tT 2 (v:=.agg #[.bool true,.bool f3,.slice c3 n3 k3,.slice d3 m3 l3]) (by decide) 7 (by kernel_rfl) (by rfl) ?y2 (HBX _ hc0) ?_
  case y2 =>
   rintro w' ⟨q0,q1,q2⟩
   simp only [lgA,lgZ,lgS]
   go_simp
  simp only [lgA,lgZ,lgS,Act.put,lsA,lsZ,lsS]
  refine wpAnyG.two 0 6 (by kernel_rfl) (by decide) (by decide) (by rfl) (by rfl) (fun K hK=>?_) (fun K hK=>?_)
  ·simp only [lgA,lgZ]
   go_simp
   refine (ofD 1 z0 (by decide) (by decide)).mono ?_
   rintro e z1 ⟨f1,c1,n1,k1,d1,m1,l1,rfl,A1,hk⟩
   have hc1:=aB hc0 hk
   replace A1:=A1.mono (B':=U.heap.size) hc0.size
   dsimp only
   refine hK _ _ ⟨fun _=>HBX _ hc1,fun _=>trivial⟩ ?_
   clear hK K hk
   refine wpAnyG.two 3 6 (by kernel_rfl) (by decide) (by decide) (by rfl) (by rfl) (fun K hK=>?_) (fun K hK=>?_)
   ·simp only [lgA,lgZ,lgS]
    go_simp
    refine (ofD 4 z1 (by decide) (by decide)).mono ?_
    rintro e z2 ⟨f4,c4,n4,k4,d4,m4,l4,rfl,B2,hk⟩
    have hc2:=aB hc1 hk
    replace B2:=B2.mono (B':=U.heap.size) hc1.size
    have A2:=A1.below hk
    dsimp only
    refine hK _ _ ⟨fun _=>HBX _ hc2,fun _=>trivial⟩ ?_
    clear hK K hk
    refine wpAnyG.tT 4 (v:=.agg #[.bool true,.bool f4,.slice c4 n4 k4,.slice d4 m4 l4]) (by decide) 7 (by kernel_rfl) (by rfl) ?y4 (HBX _ hc2) ?_
    case y4 =>
     rintro w' ⟨q0,q1,q2⟩
     simp only [lgA,lgZ,lgS]
     go_simp
    simp only [lgA,lgZ,lgS,Act.put,lsA,lsZ,lsS]
    refine wpAnyG.tT 5 (v:=.agg #[.string ⟨#[]⟩,.bool f1,.slice c1 n1 k1,.slice d1 m1 l1,.bool true,.bool f3,.slice c3 n3 k3,.slice d3 m3 l3,.bool true,.bool f4,.slice c4 n4 k4,.slice d4 m4 l4,.bool true]) (by decide) 7 (by kernel_rfl) (by rfl) ?y5 (HBX _ hc2) ?_
    case y5 =>
     rintro w' ⟨q0,q1,q2⟩
     simp only [lgA,lgZ,lgS]
     go_simp
    simp only [lgA,lgZ,lgS,Act.put,lsA,lsZ,lsS]
    refine wpAnyG.one 6 (by kernel_rfl) (by decide) (by rfl) (fun K hK=>?_)
    simp only [lgA,lgZ,lgS]
    go_simp
    have hx:=aG z2 (.cells #[.string ⟨#[]⟩,.bool false,.slice none 0 0,.slice none 0 0,.bool false,.bool false,.slice none 0 0,.slice none 0 0,.bool false,.bool false,.slice none 0 0,.slice none 0 0,.bool false] 45)
    have VA3:=Rw.new 45 z2 #[.string ⟨#[]⟩,.bool false,.slice none 0 0,.slice none 0 0,.bool false,.bool false,.slice none 0 0,.slice none 0 0,.bool false,.bool false,.slice none 0 0,.slice none 0 0,.bool false]
    have hc3:=aB hc2 hx
    have hR0:U.heap.size≤z2.heap.size:=hc2.size
    have A3:=A2.below hx
    have B3:=B2.below hx
    refine hK _ _ ⟨fun _=>HBX _ hc3,fun _=>trivial⟩ ?_
    clear hK K hx
    generalize z2.alloc (.cells #[.string ⟨#[]⟩,.bool false,.slice none 0 0,.slice none 0 0,.bool false,.bool false,.slice none 0 0,.slice none 0 0,.bool false,.bool false,.slice none 0 0,.slice none 0 0,.bool false] 45) = z3 at *
    refine wpAnyG.one 7 (by kernel_rfl) (by decide) (by rfl) (fun K hK=>?_)
    simp only [lgA,lgZ,lgS]
    have hth:z3.there z2.heap.size 0 13:=fun j hj=>⟨by rw [VA3.cell,Nat.zero_add,Array.getElem?_eq_getElem (by simpa using hj)];rfl,VA3.frozen _⟩
    have O:=fH z2.heap.size [.string ⟨#[]⟩,.bool f1,.slice c1 n1 k1,.slice d1 m1 l1,.bool true,.bool f3,.slice c3 n3 k3,.slice d3 m3 l3,.bool true,.bool f4,.slice c4 n4 k4,.slice d4 m4 l4,.bool true] 0 z3
    have kO:Kb U.heap.size [45] z3 (z3.setCells z2.heap.size 0 [.string ⟨#[]⟩,.bool f1,.slice c1 n1 k1,.slice d1 m1 l1,.bool true,.bool f3,.slice c3 n3 k3,.slice d3 m3 l3,.bool true,.bool f4,.slice c4 n4 k4,.slice d4 m4 l4,.bool true]):=jV VA3 hR0 O
    have hrg:=World.rangeAt_setCells_same z3 z2.heap.size 0 [.string ⟨#[]⟩,.bool f1,.slice c1 n1 k1,.slice d1 m1 l1,.bool true,.bool f3,.slice c3 n3 k3,.slice d3 m3 l3,.bool true,.bool f4,.slice c4 n4 k4,.slice d4 m4 l4,.bool true] hth
    refine wp_store_mid 45 _ _ rfl z2.heap.size 0 #[.string ⟨#[]⟩,.bool f1,.slice c1 n1 k1,.slice d1 m1 l1,.bool true,.bool f3,.slice c3 n3 k3,.slice d3 m3 l3,.bool true,.bool f4,.slice c4 n4 k4,.slice d4 m4 l4,.bool true] rfl rfl hth kJ (by simp [Value.oneCell']) ?_
    refine hK _ _ ⟨fun h=>absurd h (by decide),fun _=>trivial⟩ ?_
    clear hK K
    refine wpAnyG.done (by kernel_rfl) (NoPanic.normal ?_)
    exact ⟨rfl,_,_,_,_,_,_,z2.heap.size,f1,c1,n1,k1,d1,m1,l1,f4,c4,n4,k4,d4,m4,l4,rfl,hrg,A3.kb kO (by decide),B3.kb kO (by decide),hc3.trans kO.below⟩
   ·simp only [lgA,lgZ,lgS]
    go_simp
    have hx:=aG z1 (.cells #[.string ⟨#[]⟩,.bool false,.slice none 0 0,.slice none 0 0,.bool false,.bool false,.slice none 0 0,.slice none 0 0,.bool false,.bool false,.slice none 0 0,.slice none 0 0,.bool false] 45)
    have VA2:=Rw.new 45 z1 #[.string ⟨#[]⟩,.bool false,.slice none 0 0,.slice none 0 0,.bool false,.bool false,.slice none 0 0,.slice none 0 0,.bool false,.bool false,.slice none 0 0,.slice none 0 0,.bool false]
    have hc2:=aB hc1 hx
    have hR0:U.heap.size≤z1.heap.size:=hc1.size
    have A2:=A1.below hx
    refine hK _ _ ⟨fun _=>HBX _ hc2,fun _=>trivial⟩ ?_
    clear hK K hx
    generalize z1.alloc (.cells #[.string ⟨#[]⟩,.bool false,.slice none 0 0,.slice none 0 0,.bool false,.bool false,.slice none 0 0,.slice none 0 0,.bool false,.bool false,.slice none 0 0,.slice none 0 0,.bool false] 45) = z2 at *
    refine wpAnyG.one 3 (by kernel_rfl) (by decide) (by rfl) (fun K hK=>?_)
    simp only [lgA,lgZ,lgS]
    go_simp
    refine (ofD 4 z2 (by decide) (by decide)).mono ?_
    rintro e z3 ⟨f4,c4,n4,k4,d4,m4,l4,rfl,B3,hk⟩
    have hc3:=aB hc2 hk
    replace B3:=B3.mono (B':=U.heap.size) hc2.size
    have A3:=A2.below hk
    have VA3:=VA2.below hk
    dsimp only
    refine hK _ _ ⟨fun _=>HBX _ hc3,fun _=>trivial⟩ ?_
    clear hK K hk
    refine wpAnyG.tT 4 (v:=.agg #[.bool true,.bool f4,.slice c4 n4 k4,.slice d4 m4 l4]) (by decide) 7 (by kernel_rfl) (by rfl) ?y4 (HBX _ hc3) ?_
    case y4 =>
     rintro w' ⟨q0,q1,q2⟩
     simp only [lgA,lgZ,lgS]
     go_simp
    simp only [lgA,lgZ,lgS,Act.put,lsA,lsZ,lsS]
    refine wpAnyG.tT 5 (v:=.agg #[.string ⟨#[]⟩,.bool f1,.slice c1 n1 k1,.slice d1 m1 l1,.bool true,.bool f3,.slice c3 n3 k3,.slice d3 m3 l3,.bool true,.bool f4,.slice c4 n4 k4,.slice d4 m4 l4,.bool true]) (by decide) 7 (by kernel_rfl) (by rfl) ?y5 (HBX _ hc3) ?_
    case y5 =>
     rintro w' ⟨q0,q1,q2⟩
     simp only [lgA,lgZ,lgS]
     go_simp
    simp only [lgA,lgZ,lgS,Act.put,lsA,lsZ,lsS]
    refine wpAnyG.one 7 (by kernel_rfl) (by decide) (by rfl) (fun K hK=>?_)
    simp only [lgA,lgZ,lgS]
    have hth:z3.there z1.heap.size 0 13:=fun j hj=>⟨by rw [VA3.cell,Nat.zero_add,Array.getElem?_eq_getElem (by simpa using hj)];rfl,VA3.frozen _⟩
    have O:=fH z1.heap.size [.string ⟨#[]⟩,.bool f1,.slice c1 n1 k1,.slice d1 m1 l1,.bool true,.bool f3,.slice c3 n3 k3,.slice d3 m3 l3,.bool true,.bool f4,.slice c4 n4 k4,.slice d4 m4 l4,.bool true] 0 z3
    have kO:Kb U.heap.size [45] z3 (z3.setCells z1.heap.size 0 [.string ⟨#[]⟩,.bool f1,.slice c1 n1 k1,.slice d1 m1 l1,.bool true,.bool f3,.slice c3 n3 k3,.slice d3 m3 l3,.bool true,.bool f4,.slice c4 n4 k4,.slice d4 m4 l4,.bool true]):=jV VA3 hR0 O
    have hrg:=World.rangeAt_setCells_same z3 z1.heap.size 0 [.string ⟨#[]⟩,.bool f1,.slice c1 n1 k1,.slice d1 m1 l1,.bool true,.bool f3,.slice c3 n3 k3,.slice d3 m3 l3,.bool true,.bool f4,.slice c4 n4 k4,.slice d4 m4 l4,.bool true] hth
    refine wp_store_mid 45 _ _ rfl z1.heap.size 0 #[.string ⟨#[]⟩,.bool f1,.slice c1 n1 k1,.slice d1 m1 l1,.bool true,.bool f3,.slice c3 n3 k3,.slice d3 m3 l3,.bool true,.bool f4,.slice c4 n4 k4,.slice d4 m4 l4,.bool true] rfl rfl hth kJ (by simp [Value.oneCell']) ?_
    refine hK _ _ ⟨fun h=>absurd h (by decide),fun _=>trivial⟩ ?_
    clear hK K
    refine wpAnyG.done (by kernel_rfl) (NoPanic.normal ?_)
    exact ⟨rfl,_,_,_,_,_,_,z1.heap.size,f1,c1,n1,k1,d1,m1,l1,f4,c4,n4,k4,d4,m4,l4,rfl,hrg,A3.kb kO (by decide),B3.kb kO (by decide),hc3.trans kO.below⟩
  ·simp only [lgA,lgZ,lgS]
   go_simp
   have hx:=aG z0 (.cells #[.string ⟨#[]⟩,.bool false,.slice none 0 0,.slice none 0 0,.bool false,.bool false,.slice none 0 0,.slice none 0 0,.bool false,.bool false,.slice none 0 0,.slice none 0 0,.bool false] 45)
   have VA1:=Rw.new 45 z0 #[.string ⟨#[]⟩,.bool false,.slice none 0 0,.slice none 0 0,.bool false,.bool false,.slice none 0 0,.slice none 0 0,.bool false,.bool false,.slice none 0 0,.slice none 0 0,.bool false]
   have hc1:=aB hc0 hx
   have hR0:U.heap.size≤z0.heap.size:=hc0.size
   refine hK _ _ ⟨fun _=>HBX _ hc1,fun _=>trivial⟩ ?_
   clear hK K hx
   generalize z0.alloc (.cells #[.string ⟨#[]⟩,.bool false,.slice none 0 0,.slice none 0 0,.bool false,.bool false,.slice none 0 0,.slice none 0 0,.bool false,.bool false,.slice none 0 0,.slice none 0 0,.bool false] 45) = z1 at *
   refine wpAnyG.one 0 (by kernel_rfl) (by decide) (by rfl) (fun K hK=>?_)
   simp only [lgA,lgZ]
   go_simp
   refine (ofD 1 z1 (by decide) (by decide)).mono ?_
   rintro e z2 ⟨f1,c1,n1,k1,d1,m1,l1,rfl,A2,hk⟩
   have hc2:=aB hc1 hk
   replace A2:=A2.mono (B':=U.heap.size) hc1.size
   have VA2:=VA1.below hk
   dsimp only
   refine hK _ _ ⟨fun _=>HBX _ hc2,fun _=>trivial⟩ ?_
   clear hK K hk
   refine wpAnyG.one 3 (by kernel_rfl) (by decide) (by rfl) (fun K hK=>?_)
   simp only [lgA,lgZ,lgS]
   go_simp
   refine (ofD 4 z2 (by decide) (by decide)).mono ?_
   rintro e z3 ⟨f4,c4,n4,k4,d4,m4,l4,rfl,B3,hk⟩
   have hc3:=aB hc2 hk
   replace B3:=B3.mono (B':=U.heap.size) hc2.size
   have VA3:=VA2.below hk
   have A3:=A2.below hk
   dsimp only
   refine hK _ _ ⟨fun _=>HBX _ hc3,fun _=>trivial⟩ ?_
   clear hK K hk
   refine wpAnyG.tT 4 (v:=.agg #[.bool true,.bool f4,.slice c4 n4 k4,.slice d4 m4 l4]) (by decide) 7 (by kernel_rfl) (by rfl) ?y4 (HBX _ hc3) ?_
   case y4 =>
    rintro w' ⟨q0,q1,q2⟩
    simp only [lgA,lgZ,lgS]
    go_simp
   simp only [lgA,lgZ,lgS,Act.put,lsA,lsZ,lsS]
   refine wpAnyG.tT 5 (v:=.agg #[.string ⟨#[]⟩,.bool f1,.slice c1 n1 k1,.slice d1 m1 l1,.bool true,.bool f3,.slice c3 n3 k3,.slice d3 m3 l3,.bool true,.bool f4,.slice c4 n4 k4,.slice d4 m4 l4,.bool true]) (by decide) 7 (by kernel_rfl) (by rfl) ?y5 (HBX _ hc3) ?_
   case y5 =>
    rintro w' ⟨q0,q1,q2⟩
    simp only [lgA,lgZ,lgS]
    go_simp
   simp only [lgA,lgZ,lgS,Act.put,lsA,lsZ,lsS]
   refine wpAnyG.one 7 (by kernel_rfl) (by decide) (by rfl) (fun K hK=>?_)
   simp only [lgA,lgZ,lgS]
   have hth:z3.there z0.heap.size 0 13:=fun j hj=>⟨by rw [VA3.cell,Nat.zero_add,Array.getElem?_eq_getElem (by simpa using hj)];rfl,VA3.frozen _⟩
   have O:=fH z0.heap.size [.string ⟨#[]⟩,.bool f1,.slice c1 n1 k1,.slice d1 m1 l1,.bool true,.bool f3,.slice c3 n3 k3,.slice d3 m3 l3,.bool true,.bool f4,.slice c4 n4 k4,.slice d4 m4 l4,.bool true] 0 z3
   have kO:Kb U.heap.size [45] z3 (z3.setCells z0.heap.size 0 [.string ⟨#[]⟩,.bool f1,.slice c1 n1 k1,.slice d1 m1 l1,.bool true,.bool f3,.slice c3 n3 k3,.slice d3 m3 l3,.bool true,.bool f4,.slice c4 n4 k4,.slice d4 m4 l4,.bool true]):=jV VA3 hR0 O
   have hrg:=World.rangeAt_setCells_same z3 z0.heap.size 0 [.string ⟨#[]⟩,.bool f1,.slice c1 n1 k1,.slice d1 m1 l1,.bool true,.bool f3,.slice c3 n3 k3,.slice d3 m3 l3,.bool true,.bool f4,.slice c4 n4 k4,.slice d4 m4 l4,.bool true] hth
   refine wp_store_mid 45 _ _ rfl z0.heap.size 0 #[.string ⟨#[]⟩,.bool f1,.slice c1 n1 k1,.slice d1 m1 l1,.bool true,.bool f3,.slice c3 n3 k3,.slice d3 m3 l3,.bool true,.bool f4,.slice c4 n4 k4,.slice d4 m4 l4,.bool true] rfl rfl hth kJ (by simp [Value.oneCell']) ?_
   refine hK _ _ ⟨fun h=>absurd h (by decide),fun _=>trivial⟩ ?_
   clear hK K
   refine wpAnyG.done (by kernel_rfl) (NoPanic.normal ?_)
   exact ⟨rfl,_,_,_,_,_,_,z0.heap.size,f1,c1,n1,k1,d1,m1,l1,f4,c4,n4,k4,d4,m4,l4,rfl,hrg,A3.kb kO (by decide),B3.kb kO (by decide),hc3.trans kO.below⟩
 ·rintro a' U2 ⟨u1,u2,u3,u4,u5,u6,RV,f1,c1,n1,k1,d1,m1,l1,f4,c4,n4,k4,d4,m4,l4,rfl,hrg,G1,G4,h2⟩
  have hb2:=aB hb1 h2
  replace G3:=G3.below h2
  replace V3:=V3.below h2
  clear h2 HBX hb1
  obtain ⟨x0,x1,x2,_,_,_⟩:=id V3
  have hHT:HT < U2.heap.size:=block_lt_of_cell x0
  have v0:U2.cell? ⟨RV,0,none⟩ = some (.string ⟨#[]⟩):=hrg 0 _ rfl
  have v1:U2.cell? ⟨RV,1,none⟩ = some (.bool f1):=hrg 1 _ rfl
  have v2:U2.cell? ⟨RV,2,none⟩ = some (.slice c1 n1 k1):=hrg 2 _ rfl
  have v3:U2.cell? ⟨RV,3,none⟩ = some (.slice d1 m1 l1):=hrg 3 _ rfl
  have v4:U2.cell? ⟨RV,4,none⟩ = some (.bool true):=hrg 4 _ rfl
  have v5:U2.cell? ⟨RV,5,none⟩ = some (.bool f3):=hrg 5 _ rfl
  have v6:U2.cell? ⟨RV,6,none⟩ = some (.slice c3 n3 k3):=hrg 6 _ rfl
  have v7:U2.cell? ⟨RV,7,none⟩ = some (.slice d3 m3 l3):=hrg 7 _ rfl
  have v8:U2.cell? ⟨RV,8,none⟩ = some (.bool true):=hrg 8 _ rfl
  have v9:U2.cell? ⟨RV,9,none⟩ = some (.bool f4):=hrg 9 _ rfl
  have v10:U2.cell? ⟨RV,10,none⟩ = some (.slice c4 n4 k4):=hrg 10 _ rfl
  have v11:U2.cell? ⟨RV,11,none⟩ = some (.slice d4 m4 l4):=hrg 11 _ rfl
  have v12:U2.cell? ⟨RV,12,none⟩ = some (.bool true):=hrg 12 _ rfl
  have hRV:RV < U2.heap.size:=block_lt_of_cell v0
  obtain ⟨b4,b6,V6,X6,N5,Y6,N6,z1,z2,z3,z4,z5,z6⟩:=aS5 U2 (#[.string ⟨#[]⟩,.bool f1,.slice c1 n1 k1,.slice d1 m1 l1,.bool true,.bool f3,.slice c3 n3 k3,.slice d3 m3 l3,.bool true,.bool f4,.slice c4 n4 k4,.slice d4 m4 l4,.bool true]) (#[.bool false,.string ⟨#[]⟩,.bool false,.slice none 0 0,.slice none 0 0,.slice (some ⟨U2.heap.size,0,none⟩) 1 1,.slice none 0 0]) (#[.bool f3,.slice c3 n3 k3,.slice d3 m3 l3]) (#[.bool false,.int .i64 0,.bool false,.slice none 0 0,.int .i64 0,.int .i64 0,.int .i64 1,.bool f3,.slice c3 n3 k3,.slice d3 m3 l3,.slice (some ⟨U2.heap.size + 2,0,none⟩) 1 1,.slice none 0 0,.slice none 0 0]) (#[.bool f3,.slice c3 n3 k3,.slice d3 m3 l3]) (#[.bool false,.int .i64 0,.bool false,.slice none 0 0,.int .i64 0,.int .i64 0,.int .i64 1,.bool f3,.slice c3 n3 k3,.slice d3 m3 l3,.slice (some ⟨U2.heap.size + 2,0,none⟩) 1 1,.slice none 0 0,.slice none 0 0]) 45 31 27 49 27 49 _ _ _ _ _ _ rfl rfl rfl rfl rfl rfl
  have X4:=V3.below b4
  have y0:=X4.c0
  have y1:=X4.c1
  have y2:=X4.c2
  have n0':=N5.cell 0
  have n1':=N5.cell 1
  have n2':=N5.cell 2
  have n3':=N5.cell 3
  have n4':=N5.cell 4
  have n5':=N5.cell 5
  have n6':=N5.cell 6
  have n7':=N5.cell 7
  have n8':=N5.cell 8
  have n9':=N5.cell 9
  have n10':=N5.cell 10
  have n11':=N5.cell 11
  have n12':=N5.cell 12
  have bA:=aB hb2 b6
  have t3:=(G3.below b6).tr
  have t1:=(G1.below b6).tr
  have t4:=(G4.below b6).tr
  have hP0:=s_hP V6 t1 t3 t4
  have hC0:=s_hC X6 t3
  have hS0:=s_hS Y6 N6 hC0 t3
  have HCK:=(show Hid (Calls _ _ _ _ _) from aM3 _ _ _ hP0 hS0 (show 100 + 200≤1048576 by decide) (hT.below bA) (EH.below bA) (ET.below bA) (EW.below bA) (EO.below bA))
  clear hP0 hS0 hC0 N6 Y6 X6 V6 t1 t3 t4 G1 G3 G4
  simp only [Act.put,List.setIfInBounds_toArray,List.set_cons_zero,List.set_cons_succ]
  go_wp2_with fail
  refine HCK.out.mono ?_
  rintro e w9 ⟨h9,⟨v,rfl,_,hn⟩ | ⟨rfl,_⟩⟩
  ·exact absurd (aS2 f3 c3 n3 k3 d3 m3 l3 _ _ _ _) hn
  ·have hb9:=aB bA h9
   clear HCK h9
   go_wp2
   go_ret
   exact ⟨rfl,hb9⟩
end Go.Proofs.YtnokmjmefipplaaGreatDoor
namespace Go.Proofs.YtnokmjmefipplaaGreatDoor
open Go.RowKit
theorem zD (P:Prob) (s:Srch) {xa:Option Addr} {nx xc:Nat} {X:Nat→Rat} {Zx:Nat→Nat} {p:Bool} {a:Option Addr} {na ca:Nat} {d:Option Addr} {nd cd:Nat} {m:Rat} {Kx Km:Nat} (w:World) (hP:PQ w P) (hS:SQ w s) (hx:LQ w xa nx X Zx) (hzx:∀ i,i < nx→1≤Zx i∧SzR (X i) (Zx i)) (htx:tot Zx nx≤Kx) (hm:TR w p a na ca d nd cd m Km) (hKm:1≤Km) (hK:P.K + s.K + Kx + Km≤1048576) (hT:TB w)
 {eS eP eV eB eR eD eT eW eO:Value} (EH:EE w eS eP eV eB eR eD) (ET:Errs w 3 eT) (EW:Errs w 6 eW) (EO:Errs w 0 eO) :
 Calls Tryz.prog 3 #[P.val,s.val,.slice xa nx xc,.agg #[.bool p,.slice a na ca,.slice d nd cd]] w fun e w'=>e = .returned (.bool true)∧Below w.heap.size w w':=by
 obtain ⟨pB,rfl⟩:=EH.b.2
 refine xI P s w hP hS hx hzx htx hm hKm hK (fun w1 hb=>aS3 w1 (hT.below hb) (EH.below hb) (ET.below hb) (EW.below hb) (EO.below hb)) (fun w1 hb=>?_)
 refine (aM3 P s w1 (hP.below hb) (hS.below hb) (by omega) (hT.below hb) (EH.below hb) (ET.below hb) (EW.below hb) (EO.below hb)).mono ?_
 rintro e w' ⟨h1,⟨v,rfl,⟨q,rfl⟩,_⟩ | h2⟩
 ·exact ⟨h1,.inl ⟨_,_,rfl⟩⟩
 ·exact ⟨h1,.inr h2⟩
end Go.Proofs.YtnokmjmefipplaaGreatDoor

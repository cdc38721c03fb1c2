import Derived.Test.YtnkpbjmfdfjeiaaGreatDoorSoKb
import Derived.Test.YtnkpbjmfdfjeiaaGreatDoorSoZ
import Derived.Test.YtnkpbjmfdfjeiaaGreatDoorSoFAll
import Derived.Test.YtnkpbjmfdfjeiaaGreatDoorSoD1
import Derived.Test.YtnkpbjmfdfjeiaaGreatDoorSoD2
import Derived.Test.YtnkpbjmfdfjeiaaGreatDoorSoD3
import Derived.Test.YtnkpbjmfdfjeiaaGreatDoorPuH
import Derived.Test.YtnkpbjmfdfjeiaaGreatDoorQ3CmAll
namespace Go.Proofs.YtnkpbjmfdfjeiaaGreatDoor
open Go.RowKit
theorem readD (P:Prob) (s:ByteArray) (w:World) (hP:PQ w P) (hK:P.K≤1048576) (hs:s.size≤1048576) (HN:∀ t:ByteArray,t.size≤1048576→NumA t) :
  Calls Tryz.prog 5 #[P.val,.string s] w fun en w'=>ReadR P s w en w':=by
 by_cases h:∃ v m,1≤v∧v≤3∧s.data.toList = wdV v ++ 10 :: m
 ·obtain ⟨v,m,h1,h2,h3⟩:=h
  rcases (by omega:v = 1∨v = 2∨v = 3) with rfl | rfl | rfl
  ·exact readD1 P s w hP hK hs HN h3
  ·exact readD2 P s w hP hK hs HN h3
  ·exact readD3 P s w hP hK hs HN h3
 ·exact readD0 P s w hP hK hs fun v m h1 h2 h3=>h ⟨v,m,h1,h2,h3⟩
theorem Got.lenU {w:World} {B B':Nat} {a a':Option Addr} {n c n' c':Nat} {x:Int} {S S':Nat} (h:Got w B (.slice a n c) x S) (h':Got w B' (.slice a' n' c') x S'):n = n':=by
 obtain ⟨xs,h1,h2,h3,_⟩:=h
 obtain ⟨ys,g1,g2,g3,_⟩:=h'
 have e:=nf_unique h2 g2 (h3.trans g3.symm)
 have e1:n = xs.length:=by
  rcases h1.2 with ⟨q,q2⟩ | ⟨g,cap,cur,q,_⟩
  ·simp only [Value.slice.injEq] at q;omega
  ·simp only [Value.slice.injEq] at q;exact q.2.1
 have e2:n' = ys.length:=by
  rcases g1.2 with ⟨q,q2⟩ | ⟨g,cap,cur,q,_⟩
  ·simp only [Value.slice.injEq] at q;omega
  ·simp only [Value.slice.injEq] at q;exact q.2.1
 rw [e1,e2,e]
theorem GR.lens {w:World} {B B':Nat} {f f':Bool} {c c2:Option Addr} {n k n2 k2:Nat} {d d2:Option Addr} {m l m2 l2:Nat} {r:Rat} {S S':Nat} (h:GR w B f c n k d m l r S) (h':GR w B' f' c2 n2 k2 d2 m2 l2 r S'):n = n2∧m = m2 :=
 ⟨h.1.parts.2.lenU h'.1.parts.2,h.2.lenU h'.2⟩
theorem NL.off {w w':World} {F g:Nat} {v:Value} {n:Nat} {X:Nat→Rat} (h:NL w F v n X) (o:Off g w w') (hg:g < F):NL w' F v n X:=by
 obtain ⟨E,h1,h2⟩:=h
 refine ⟨E,h1.kept (grown_off o) (fun k e e2=>?_),fun i hi=>?_⟩
 ·have:=(h1.lt k e).1
  simp only [Option.some.injEq] at e2
  omega
 ·obtain ⟨f,c,m,k,c',m',k',e,G⟩:=h2 i hi
  exact ⟨f,c,m,k,c',m',k',e,G.off o hg⟩
theorem nl_sm {w:World} {F F':Nat} {a b:Option Addr} {n ca cb:Nat} {X Y:Nat→Rat} (h:NL w F (.slice a n ca) n X) (h':NL w F' (.slice b n cb) n Y) (e:∀ i,i < n→X i = Y i):n = 0∨∃ ga gb,a = some ⟨ga,0,none⟩∧b = some ⟨gb,0,none⟩∧∀ i,i < n→SmE w ga gb i:=by
 obtain ⟨E,h1,h2⟩:=h
 obtain ⟨E',g1,g2⟩:=h'
 rcases h1.cell with h0 | ⟨ga,ea,hc⟩
 ·exact .inl h0
 rcases g1.cell with h0 | ⟨gb,eb,hd⟩
 ·exact .inl h0
 refine .inr ⟨ga,gb,ea,eb,fun i hi=>?_⟩
 obtain ⟨f1,c1,n1,k1,d1,m1,l1,e1,G1⟩:=h2 i hi
 obtain ⟨f2,c2,n2,k2,d2,m2,l2,e2,G2⟩:=g2 i hi
 rw [← e i hi] at G2
 obtain ⟨rfl,rfl⟩:=G1.lens G2
 have x0:=hc i hi 0 (.bool f1) (by rw [e1];rfl)
 have x1:=hc i hi 1 (.slice c1 n1 k1) (by rw [e1];rfl)
 have x2:=hc i hi 2 (.slice d1 m1 l1) (by rw [e1];rfl)
 have y0:=hd i hi 0 (.bool f2) (by rw [e2];rfl)
 have y1:=hd i hi 1 (.slice c2 n1 k2) (by rw [e2];rfl)
 have y2:=hd i hi 2 (.slice d2 m1 l2) (by rw [e2];rfl)
 exact ⟨f1,c1,n1,k1,d1,m1,l1,f2,c2,k2,d2,l2,X i,x0,x1,x2,y0,y1,y2,G1.tr,G2.tr⟩
theorem trZ19 (w:World):TR w false none 0 0 none 0 0 0 5000000:=TR.up (S:=1) ⟨0,0,((GI.nil _ 0).le (by decide)).ti,(Num.nil _).le1,by simp⟩ (by decide)
theorem box2_19 (w:World) (c0:Array Value) (t0:TypeId) (c1:Array Value) (t1:TypeId):let W:=(w.alloc (.cells c0 t0)).alloc (.cells c1 t1);BoxC W w.heap.size c0.toList∧BoxC W (w.heap.size + 1) c1.toList∧Below w.heap.size w W∧W.heap.size = w.heap.size + 2:=by
 have e1:(w.alloc (.cells c0 t0)).heap.size = w.heap.size + 1:=by simp
 have P1:=box_new (w.alloc (.cells c0 t0)) c1 t1
 rw [e1] at P1
 exact ⟨(box_new w c0 t0).below (bel_d0 _ _),P1,bel_a (bel_d0 _ _),by simp⟩
set_option maxRecDepth 100000 in
set_option maxHeartbeats 16000000 in
theorem solveReads_walk (P:Prob) (s:ByteArray) (w:World) (hP:PQ w P) (hK:P.K≤1048576) (hs:s.size≤1048576) (hT:TB w) {e5 e8 e3 ev:Value} (E5:Errs w 2 e5) (E8:Errs w 4 e8) (E3':Errs w 3 e3) (EV:Errs w 0 ev) :
  Calls Tryz.prog 3 #[P.val,.string s] w fun e w'=>e = .returned (.bool true)∧Below w.heap.size w w':=by
 have HNN:Hid (∀ t:ByteArray,t.size≤1048576→NumA t):=num_all hT E5 E8 E3'
 have hE:E3 w:=⟨⟨_,E5⟩,⟨_,E8⟩,⟨_,E3'⟩⟩
 have HPW:Hid (PQ w P):=hP
 have HEV:Hid (Errs w 0 ev):=EV
 have hEl:0 < w.heap.size:=World.block_lt_of_cell? _ _ EV.1
 have hvn:P.vn≤1048576:=by have:=hP.all;have:=tot_len P.ZV P.vn;omega
 have hrn:P.rn≤1048576:=by have:=hP.all;have:=tot_len P.ZR P.rn;omega
 clear hP E5 E8 E3' EV
 have hb0:=bel_d0 w (.cells #[.bool P.mx,.string P.nm,.bool P.p,.slice P.a P.na P.ca,.slice P.d P.nd P.cd,.slice P.va P.vn P.vc,.slice P.ra P.rn P.rc] 31)
 have RP:=Rw.new 31 w #[.bool P.mx,.string P.nm,.bool P.p,.slice P.a P.na P.ca,.slice P.d P.nd P.cd,.slice P.va P.vn P.vc,.slice P.ra P.rn P.rc]
 have q0:=(RP.cell 0).trans (show _ = some (Value.bool P.mx) from rfl)
 have q1:=(RP.cell 1).trans (show _ = some (Value.string P.nm) from rfl)
 have q2:=(RP.cell 2).trans (show _ = some (Value.bool P.p) from rfl)
 have q3:=(RP.cell 3).trans (show _ = some (Value.slice P.a P.na P.ca) from rfl)
 have q4:=(RP.cell 4).trans (show _ = some (Value.slice P.d P.nd P.cd) from rfl)
 have q5:=(RP.cell 5).trans (show _ = some (Value.slice P.va P.vn P.vc) from rfl)
 have q6:=(RP.cell 6).trans (show _ = some (Value.slice P.ra P.rn P.rc) from rfl)
 go_enter Tryz.func3,Tryz.ntmps3
 go_wp2_with fail
 clear q0 q1 q2 q3 q4 q5 q6
 generalize w.alloc (.cells #[.bool P.mx,.string P.nm,.bool P.p,.slice P.a P.na P.ca,.slice P.d P.nd P.cd,.slice P.va P.vn P.vc,.slice P.ra P.rn P.rc] 31) = W0 at *
 refine (beyondQ P W0 (HPW.out.below hb0) hK).mono ?_
 rintro e w1 ⟨bb,rfl,hx⟩
 replace RP:=RP.below hx
 replace hb0:=bel_tr hb0 hx
 clear hx
 cases bb
 case true =>
  go_wp2
  go_ret
  exact ⟨rfl,hb0⟩
 case false =>
  have q0:=(RP.cell 0).trans (show _ = some (Value.bool P.mx) from rfl)
  have q1:=(RP.cell 1).trans (show _ = some (Value.string P.nm) from rfl)
  have q2:=(RP.cell 2).trans (show _ = some (Value.bool P.p) from rfl)
  have q3:=(RP.cell 3).trans (show _ = some (Value.slice P.a P.na P.ca) from rfl)
  have q4:=(RP.cell 4).trans (show _ = some (Value.slice P.d P.nd P.cd) from rfl)
  have q5:=(RP.cell 5).trans (show _ = some (Value.slice P.va P.vn P.vc) from rfl)
  have q6:=(RP.cell 6).trans (show _ = some (Value.slice P.ra P.rn P.rc) from rfl)
  go_wp2_with fail
  clear q0 q1 q2 q3 q4 q5 q6
  refine (readD P s w1 (HPW.out.below hb0) hK hs HNN.out).mono ?_
  rintro e w2 ⟨hb2,hD⟩
  replace RP:=RP.below hb2
  have hb2w:=bel_tr hb0 hb2
  have hz1:=hb0.size
  have hz2:=hb2.size
  have HB12:Hid (Below w1.heap.size w1 w2):=hb2
  clear hb2 hb0
  rcases hD with ⟨v,R,cs,hv1,hv3,hnw,hA,hC,rfl⟩ | ⟨hno,rfl⟩
  ·obtain ⟨p1,a1,na1,ca1,d1,nd1,cd1,xa1,xc1,ya1,yc1,za1,zc1,rfl,GV1,NX1,NY1,NZ1⟩:=hC
   have HNO:Hid (¬ (Whl19 P∨NoAns P.vn (vnm P) P.rn (unm P) s.data.toList)):=fun h=>h.elim hnw fun h=>h v R hv1 hv3 hA
   have HAA:Hid (Ans v P.vn (vnm P) P.rn (unm P) s.data.toList R):=hA
   have HGV1:Hid (v = 1∧GR w2 w1.heap.size p1 a1 na1 ca1 d1 nd1 cd1 ((R 1).getD 0 0) 5000000∨¬ v = 1∧p1 = false∧a1 = none∧na1 = 0∧ca1 = 0∧d1 = none∧nd1 = 0∧cd1 = 0):=GV1
   have HNX1:Hid (NL w2 w1.heap.size (.slice xa1 (nvV v P.vn) xc1) (nvV v P.vn) (xR v R)):=NX1
   have HNY1:Hid (NL w2 w1.heap.size (.slice ya1 (nrV v P.rn) yc1) (nrV v P.rn) (yR v P.vn R)):=NY1
   have HNZ1:Hid (NL w2 w1.heap.size (.slice za1 (nzV v P.vn) zc1) (nzV v P.vn) (zR v R)):=NZ1
   have HV:Hid (1≤v∧v≤3):=⟨hv1,hv3⟩
   clear hA hnw GV1 NX1 NY1 NZ1
   have hBX:nvV v P.vn≤1048576∧nrV v P.rn≤1048576∧nzV v P.vn≤1048576:=by unfold nvV nrV nzV;refine ⟨?_,?_,?_⟩ <;> split <;> omega
   generalize hnX:nvV v P.vn = nX at *
   generalize hnY:nrV v P.rn = nY at *
   generalize hnZ:nzV v P.vn = nZ at *
   have HnX:Hid (nvV v P.vn = nX):=hnX
   have HnY:Hid (nrV v P.rn = nY):=hnY
   have HnZ:Hid (nzV v P.vn = nZ):=hnZ
   clear hnX hnY hnZ
   have hx3:=bel_d0 w2 (.cells #[.int .i64 (v:Int),.bool p1,.slice a1 na1 ca1,.slice d1 nd1 cd1,.slice xa1 nX xc1,.slice ya1 nY yc1,.slice za1 nZ zc1] 35)
   have R5:=Rw.new 35 w2 #[.int .i64 (v:Int),.bool p1,.slice a1 na1 ca1,.slice d1 nd1 cd1,.slice xa1 nX xc1,.slice ya1 nY yc1,.slice za1 nZ zc1]
   replace RP:=RP.below hx3
   have hb3w:=bel_tr hb2w hx3
   have hz3:(w2.alloc (.cells #[.int .i64 (v:Int),.bool p1,.slice a1 na1 ca1,.slice d1 nd1 cd1,.slice xa1 nX xc1,.slice ya1 nY yc1,.slice za1 nZ zc1] 35)).heap.size = w2.heap.size + 1:=by simp
   have HZ3:Hid ((w2.alloc (.cells #[.int .i64 (v:Int),.bool p1,.slice a1 na1 ca1,.slice d1 nd1 cd1,.slice xa1 nX xc1,.slice ya1 nY yc1,.slice za1 nZ zc1] 35)).heap.size = w2.heap.size + 1):=hz3
   have HB23:Hid (Below w2.heap.size w2 (w2.alloc (.cells #[.int .i64 (v:Int),.bool p1,.slice a1 na1 ca1,.slice d1 nd1 cd1,.slice xa1 nX xc1,.slice ya1 nY yc1,.slice za1 nZ zc1] 35))):=hx3
   clear hx3 hz3 hb2w
   go_wp2_with fail
   generalize hq2:w2.heap.size = b5 at *
   generalize w2.alloc (.cells #[.int .i64 (v:Int),.bool p1,.slice a1 na1 ca1,.slice d1 nd1 cd1,.slice xa1 nX xc1,.slice ya1 nY yc1,.slice za1 nZ zc1] 35) = w3 at *
   refine (lentQ s w3 hs).mono ?_
   rintro e w4 ⟨gL,cL,rfl,hcL,hLB,hgL,hgl4,hb4⟩
   have hz3:=HZ3.out
   have hz4:=hb4.size
   replace RP:=RP.below hb4
   replace R5:=R5.below hb4
   have hb4w:=bel_tr hb3w hb4
   have HB34:Hid (Below w3.heap.size w3 w4):=hb4
   clear hb4 hb3w
   have q0:=(RP.cell 0).trans (show _ = some (Value.bool P.mx) from rfl)
   have q1:=(RP.cell 1).trans (show _ = some (Value.string P.nm) from rfl)
   have q2:=(RP.cell 2).trans (show _ = some (Value.bool P.p) from rfl)
   have q3:=(RP.cell 3).trans (show _ = some (Value.slice P.a P.na P.ca) from rfl)
   have q4:=(RP.cell 4).trans (show _ = some (Value.slice P.d P.nd P.cd) from rfl)
   have q5:=(RP.cell 5).trans (show _ = some (Value.slice P.va P.vn P.vc) from rfl)
   have q6:=(RP.cell 6).trans (show _ = some (Value.slice P.ra P.rn P.rc) from rfl)
   go_wp2_with fail
   clear q0 q1 q2 q3 q4 q5 q6
   refine (readQ P s (gL:=gL) (cL:=cL) (ev:=ev) w4 (HPW.out.below hb4w) hK hs (fun u hu=>(hLB.below hgl4 hu).conv) (hT.below hb4w) (hE.below hb4w) (HEV.out.below hb4w) HNN.out).mono ?_
   rintro e w5 ⟨hb5,hPr⟩
   have hz5:=hb5.size
   replace R5:=R5.below hb5
   have hb5w:=bel_tr hb4w hb5
   have hLB5:=hLB.below hgl4 hb5
   have HB45:Hid (Below w4.heap.size w4 w5):=hb5
   clear hb5 hb4w hLB RP
   rcases hPr with ⟨v',R',cs',hv1',hv3',_,hA',hC',rfl⟩ | ⟨h,_⟩
   ·obtain rfl:v' = v:=by
     obtain ⟨m,e⟩:=hA'.head
     obtain ⟨m',e'⟩:=HAA.out.head
     rw [e] at e'
     exact wd_eq hv1' hv3' HV.out.1 HV.out.2 (nob_split (.inr rfl) wd_nob wd_nob (fun b t hbt=>by simp only [List.cons.injEq] at hbt;exact .inr hbt.1.symm) e').1
    have HR:Hid (∀ t,t < lnsN v' P.vn P.rn→R' t = R t):=(Lns.uniq hA' HAA.out).1
    obtain ⟨p2,a2,na2,ca2,d2,nd2,cd2,xa2,xc2,ya2,yc2,za2,zc2,rfl,GV2,NX2,NY2,NZ2⟩:=hC'
    rw [HnX.out,HnY.out,HnZ.out]
    rw [HnX.out] at NX2
    rw [HnY.out] at NY2
    rw [HnZ.out] at NZ2
    have HGV2:Hid (v' = 1∧GR w5 w4.heap.size p2 a2 na2 ca2 d2 nd2 cd2 ((R' 1).getD 0 0) 5000000∨¬ v' = 1∧p2 = false∧a2 = none∧na2 = 0∧ca2 = 0∧d2 = none∧nd2 = 0∧cd2 = 0):=GV2
    have HNX2:Hid (NL w5 w4.heap.size (.slice xa2 nX xc2) nX (xR v' R')):=NX2
    have HNY2:Hid (NL w5 w4.heap.size (.slice ya2 nY yc2) nY (yR v' P.vn R')):=NY2
    have HNZ2:Hid (NL w5 w4.heap.size (.slice za2 nZ zc2) nZ (zR v' R')):=NZ2
    clear hA' GV2 NX2 NY2 NZ2 hv1' hv3' hv1 hv3
    have hx6:=bel_d0 w5 (.cells #[.int .i64 (v':Int),.bool p2,.slice a2 na2 ca2,.slice d2 nd2 cd2,.slice xa2 nX xc2,.slice ya2 nY yc2,.slice za2 nZ zc2] 35)
    have R8:=Rw.new 35 w5 #[.int .i64 (v':Int),.bool p2,.slice a2 na2 ca2,.slice d2 nd2 cd2,.slice xa2 nX xc2,.slice ya2 nY yc2,.slice za2 nZ zc2]
    replace R5:=R5.below hx6
    have hb6w:=bel_tr hb5w hx6
    have hLB6:=hLB5.below (by omega) hx6
    have HZ6:Hid ((w5.alloc (.cells #[.int .i64 (v':Int),.bool p2,.slice a2 na2 ca2,.slice d2 nd2 cd2,.slice xa2 nX xc2,.slice ya2 nY yc2,.slice za2 nZ zc2] 35)).heap.size = w5.heap.size + 1):=by show _ = _;simp
    have HB56:Hid (Below w5.heap.size w5 (w5.alloc (.cells #[.int .i64 (v':Int),.bool p2,.slice a2 na2 ca2,.slice d2 nd2 cd2,.slice xa2 nX xc2,.slice ya2 nY yc2,.slice za2 nZ zc2] 35))):=hx6
    clear hx6 hb5w hLB5
    go_wp2_with fail
    generalize hq5:w5.heap.size = b8 at *
    generalize w5.alloc (.cells #[.int .i64 (v':Int),.bool p2,.slice a2 na2 ca2,.slice d2 nd2 cd2,.slice xa2 nX xc2,.slice ya2 nY yc2,.slice za2 nZ zc2] 35) = w6 at *
    refine (unspoiltQ s w6 hs hLB6 hcL).mono ?_
    rintro e w7 ⟨rfl,O7⟩
    have R5':=R5.off O7 (by omega)
    have R8':=R8.off O7 (by omega)
    have hb7w:Below w.heap.size w w7:=hb6w.trans (O7.below (by omega))
    have hz7:=O7.size
    clear hLB6 R5 R8
    have HB27:Hid (Below w2.heap.size w2 w7):=by
     have h1:=(HB23.out.trans (HB34.out.mono (by omega))).trans (HB45.out.mono (by omega))
     have h2:=(h1.trans (HB56.out.mono (by omega))).trans (O7.below (by omega))
     show Below _ _ _
     rw [hq2]
     exact h2
    have HB56':Hid (Below w5.heap.size w5 w6):=by show Below _ _ _;rw [hq5];exact HB56.out
    have MX2:Hid (NL w7 w4.heap.size (.slice xa2 nX xc2) nX (xR v' R')):=(HNX2.out.below HB56'.out).off O7 hgl4
    have MY2:Hid (NL w7 w4.heap.size (.slice ya2 nY yc2) nY (yR v' P.vn R')):=(HNY2.out.below HB56'.out).off O7 hgl4
    have MZ2:Hid (NL w7 w4.heap.size (.slice za2 nZ zc2) nZ (zR v' R')):=(HNZ2.out.below HB56'.out).off O7 hgl4
    have MX1:Hid (NL w7 w1.heap.size (.slice xa1 nX xc1) nX (xR v' R)):=HNX1.out.below HB27.out
    have MY1:Hid (NL w7 w1.heap.size (.slice ya1 nY yc1) nY (yR v' P.vn R)):=HNY1.out.below HB27.out
    have MZ1:Hid (NL w7 w1.heap.size (.slice za1 nZ zc1) nZ (zR v' R)):=HNZ1.out.below HB27.out
    have HVL:Hid (∃ r,TR w7 p2 a2 na2 ca2 d2 nd2 cd2 r 5000000∧TR w7 p1 a1 na1 ca1 d1 nd1 cd1 r 5000000∧na2 = na1∧nd2 = nd1):=by
     rcases HGV1.out with ⟨e1,G1⟩ | ⟨e1,rfl,rfl,rfl,rfl,rfl,rfl,rfl⟩
     ·rcases HGV2.out with ⟨_,G2⟩ | ⟨e2,_⟩
      ·have e3:R' 1 = R 1:=HR.out 1 (by rw [e1];show 1 < 2 + _ + _ + 1;omega)
       rw [e3] at G2
       have G1':=G1.below HB27.out
       have G2':=(G2.below HB56'.out).off O7 hgl4
       exact ⟨_,G2'.tr,G1'.tr,(G2'.lens G1').1,(G2'.lens G1').2⟩
      ·exact absurd e1 e2
     ·rcases HGV2.out with ⟨e2,_⟩ | ⟨_,rfl,rfl,rfl,rfl,rfl,rfl,rfl⟩
      ·exact absurd e2 e1
      ·exact ⟨0,trZ19 _,trZ19 _,rfl,rfl⟩
    have SX:Hid (nX = 0∨∃ ga gb,xa2 = some ⟨ga,0,none⟩∧xa1 = some ⟨gb,0,none⟩∧∀ i,i < nX→SmE w7 ga gb i):=nl_sm MX2.out MX1.out fun i hi=>by
     unfold xR;rw [HR.out _ (var_lt (by rw [HnX.out];exact hi))]
    have SY:Hid (nY = 0∨∃ ga gb,ya2 = some ⟨ga,0,none⟩∧ya1 = some ⟨gb,0,none⟩∧∀ i,i < nY→SmE w7 ga gb i):=nl_sm MY2.out MY1.out fun i hi=>by
     unfold yR;rw [HR.out _ (row_lt (by rw [HnY.out];exact hi))]
    have SZ:Hid (nZ = 0∨∃ ga gb,za2 = some ⟨ga,0,none⟩∧za1 = some ⟨gb,0,none⟩∧∀ i,i < nZ→SmE w7 ga gb i):=nl_sm MZ2.out MZ1.out fun i hi=>by
     unfold zR;rw [HR.out _ (var_lt (v:=v') (vn:=P.vn) (by
      have:=HnZ.out
      unfold nzV at this
      unfold nvV
      split at this
      ·rename_i e;rw [if_neg (by omega)];omega
      ·omega))]
    clear HB12 HB23 HB34 HB45 HB56 HB56' HB27 MX1 MX2 MY1 MY2 MZ1 MZ2 HNX1 HNY1 HNZ1 HNX2 HNY2 HNZ2 HGV1 HGV2 HR HAA HNO HPW HNN HEV
    have y0:=(R8'.cell 0).trans (show _ = some (Value.int .i64 (v':Int)) from rfl)
    have y1:=(R8'.cell 1).trans (show _ = some (Value.bool p2) from rfl)
    have y2:=(R8'.cell 2).trans (show _ = some (Value.slice a2 na2 ca2) from rfl)
    have y3:=(R8'.cell 3).trans (show _ = some (Value.slice d2 nd2 cd2) from rfl)
    have y4:=(R8'.cell 4).trans (show _ = some (Value.slice xa2 nX xc2) from rfl)
    have y5:=(R8'.cell 5).trans (show _ = some (Value.slice ya2 nY yc2) from rfl)
    have y6:=(R8'.cell 6).trans (show _ = some (Value.slice za2 nZ zc2) from rfl)
    have z0:=(R5'.cell 0).trans (show _ = some (Value.int .i64 (v':Int)) from rfl)
    have z1:=(R5'.cell 1).trans (show _ = some (Value.bool p1) from rfl)
    have z2:=(R5'.cell 2).trans (show _ = some (Value.slice a1 na1 ca1) from rfl)
    have z3:=(R5'.cell 3).trans (show _ = some (Value.slice d1 nd1 cd1) from rfl)
    have z4:=(R5'.cell 4).trans (show _ = some (Value.slice xa1 nX xc1) from rfl)
    have z5:=(R5'.cell 5).trans (show _ = some (Value.slice ya1 nY yc1) from rfl)
    have z6:=(R5'.cell 6).trans (show _ = some (Value.slice za1 nZ zc1) from rfl)
    go_wp2_with fail
    clear y0 y1 y2 y3 y4 y5 y6 z0 z1 z2 z3 z4 z5 z6
    refine (sameLQ w7 (by omega) SX.out).mono ?_
    rintro e w8 ⟨rfl,hx⟩
    replace hb7w:=bel_tr hb7w hx
    replace R5':=R5'.below hx
    replace R8':=R8'.below hx
    replace HVL:Hid (∃ r,TR w8 p2 a2 na2 ca2 d2 nd2 cd2 r 5000000∧TR w8 p1 a1 na1 ca1 d1 nd1 cd1 r 5000000∧na2 = na1∧nd2 = nd1):=HVL.out.imp fun r h=>⟨h.1.below hx,h.2.1.below hx,h.2.2⟩
    replace SY:Hid (nY = 0∨∃ ga gb,ya2 = some ⟨ga,0,none⟩∧ya1 = some ⟨gb,0,none⟩∧∀ i,i < nY→SmE w8 ga gb i):=SY.out.imp id fun ⟨ga,gb,h1,h2,h3⟩=>⟨ga,gb,h1,h2,fun i hi=>(h3 i hi).below hx⟩
    replace SZ:Hid (nZ = 0∨∃ ga gb,za2 = some ⟨ga,0,none⟩∧za1 = some ⟨gb,0,none⟩∧∀ i,i < nZ→SmE w8 ga gb i):=SZ.out.imp id fun ⟨ga,gb,h1,h2,h3⟩=>⟨ga,gb,h1,h2,fun i hi=>(h3 i hi).below hx⟩
    clear hx
    have y0:=(R8'.cell 0).trans (show _ = some (Value.int .i64 (v':Int)) from rfl)
    have y1:=(R8'.cell 1).trans (show _ = some (Value.bool p2) from rfl)
    have y2:=(R8'.cell 2).trans (show _ = some (Value.slice a2 na2 ca2) from rfl)
    have y3:=(R8'.cell 3).trans (show _ = some (Value.slice d2 nd2 cd2) from rfl)
    have y4:=(R8'.cell 4).trans (show _ = some (Value.slice xa2 nX xc2) from rfl)
    have y5:=(R8'.cell 5).trans (show _ = some (Value.slice ya2 nY yc2) from rfl)
    have y6:=(R8'.cell 6).trans (show _ = some (Value.slice za2 nZ zc2) from rfl)
    have z0:=(R5'.cell 0).trans (show _ = some (Value.int .i64 (v':Int)) from rfl)
    have z1:=(R5'.cell 1).trans (show _ = some (Value.bool p1) from rfl)
    have z2:=(R5'.cell 2).trans (show _ = some (Value.slice a1 na1 ca1) from rfl)
    have z3:=(R5'.cell 3).trans (show _ = some (Value.slice d1 nd1 cd1) from rfl)
    have z4:=(R5'.cell 4).trans (show _ = some (Value.slice xa1 nX xc1) from rfl)
    have z5:=(R5'.cell 5).trans (show _ = some (Value.slice ya1 nY yc1) from rfl)
    have z6:=(R5'.cell 6).trans (show _ = some (Value.slice za1 nZ zc1) from rfl)
    go_wp2_with fail
    clear y0 y1 y2 y3 y4 y5 y6 z0 z1 z2 z3 z4 z5 z6
    refine (sameLQ w8 (by omega) SY.out).mono ?_
    rintro e w9 ⟨rfl,hx⟩
    replace hb7w:=bel_tr hb7w hx
    replace R5':=R5'.below hx
    replace R8':=R8'.below hx
    replace HVL:Hid (∃ r,TR w9 p2 a2 na2 ca2 d2 nd2 cd2 r 5000000∧TR w9 p1 a1 na1 ca1 d1 nd1 cd1 r 5000000∧na2 = na1∧nd2 = nd1):=HVL.out.imp fun r h=>⟨h.1.below hx,h.2.1.below hx,h.2.2⟩
    replace SZ:Hid (nZ = 0∨∃ ga gb,za2 = some ⟨ga,0,none⟩∧za1 = some ⟨gb,0,none⟩∧∀ i,i < nZ→SmE w9 ga gb i):=SZ.out.imp id fun ⟨ga,gb,h1,h2,h3⟩=>⟨ga,gb,h1,h2,fun i hi=>(h3 i hi).below hx⟩
    clear hx
    have y0:=(R8'.cell 0).trans (show _ = some (Value.int .i64 (v':Int)) from rfl)
    have y1:=(R8'.cell 1).trans (show _ = some (Value.bool p2) from rfl)
    have y2:=(R8'.cell 2).trans (show _ = some (Value.slice a2 na2 ca2) from rfl)
    have y3:=(R8'.cell 3).trans (show _ = some (Value.slice d2 nd2 cd2) from rfl)
    have y4:=(R8'.cell 4).trans (show _ = some (Value.slice xa2 nX xc2) from rfl)
    have y5:=(R8'.cell 5).trans (show _ = some (Value.slice ya2 nY yc2) from rfl)
    have y6:=(R8'.cell 6).trans (show _ = some (Value.slice za2 nZ zc2) from rfl)
    have z0:=(R5'.cell 0).trans (show _ = some (Value.int .i64 (v':Int)) from rfl)
    have z1:=(R5'.cell 1).trans (show _ = some (Value.bool p1) from rfl)
    have z2:=(R5'.cell 2).trans (show _ = some (Value.slice a1 na1 ca1) from rfl)
    have z3:=(R5'.cell 3).trans (show _ = some (Value.slice d1 nd1 cd1) from rfl)
    have z4:=(R5'.cell 4).trans (show _ = some (Value.slice xa1 nX xc1) from rfl)
    have z5:=(R5'.cell 5).trans (show _ = some (Value.slice ya1 nY yc1) from rfl)
    have z6:=(R5'.cell 6).trans (show _ = some (Value.slice za1 nZ zc1) from rfl)
    go_wp2_with fail
    clear y0 y1 y2 y3 y4 y5 y6 z0 z1 z2 z3 z4 z5 z6
    refine (sameLQ w9 (by omega) SZ.out).mono ?_
    rintro e w10 ⟨rfl,hx⟩
    replace hb7w:=bel_tr hb7w hx
    replace R5':=R5'.below hx
    replace R8':=R8'.below hx
    replace HVL:Hid (∃ r,TR w10 p2 a2 na2 ca2 d2 nd2 cd2 r 5000000∧TR w10 p1 a1 na1 ca1 d1 nd1 cd1 r 5000000∧na2 = na1∧nd2 = nd1):=HVL.out.imp fun r h=>⟨h.1.below hx,h.2.1.below hx,h.2.2⟩
    clear hx
    obtain ⟨B0,B1,hbA,hzA⟩:=box2_19 w10 #[.bool p2,.slice a2 na2 ca2,.slice d2 nd2 cd2] 27 #[.bool p1,.slice a1 na1 ca1,.slice d1 nd1 cd1] 27
    have SV:Hid (1 = 0∨∃ ga gb,(some ⟨w10.heap.size,0,none⟩:Option Addr) = some ⟨ga,0,none⟩∧(some ⟨w10.heap.size + 1,0,none⟩:Option Addr) = some ⟨gb,0,none⟩∧∀ i,i < 1→SmE ((w10.alloc (.cells #[.bool p2,.slice a2 na2 ca2,.slice d2 nd2 cd2] 27)).alloc (.cells #[.bool p1,.slice a1 na1 ca1,.slice d1 nd1 cd1] 27)) ga gb i):=by
     obtain ⟨r,T2,T1,rfl,rfl⟩:=HVL.out
     refine .inr ⟨_,_,rfl,rfl,fun i hi=>?_⟩
     obtain rfl:i = 0:=by omega
     exact ⟨p2,a2,na2,ca2,d2,nd2,cd2,p1,a1,ca1,d1,cd1,r,B0 0 _ rfl,B0 1 _ rfl,B0 2 _ rfl,B1 0 _ rfl,B1 1 _ rfl,B1 2 _ rfl,T2.below hbA,T1.below hbA⟩
    have R5a:=R5'.below (bel_d0 w10 (.cells #[.bool p2,.slice a2 na2 ca2,.slice d2 nd2 cd2] 27))
    have y0:=(R8'.cell 0).trans (show _ = some (Value.int .i64 (v':Int)) from rfl)
    have y1:=(R8'.cell 1).trans (show _ = some (Value.bool p2) from rfl)
    have y2:=(R8'.cell 2).trans (show _ = some (Value.slice a2 na2 ca2) from rfl)
    have y3:=(R8'.cell 3).trans (show _ = some (Value.slice d2 nd2 cd2) from rfl)
    have y4:=(R8'.cell 4).trans (show _ = some (Value.slice xa2 nX xc2) from rfl)
    have y5:=(R8'.cell 5).trans (show _ = some (Value.slice ya2 nY yc2) from rfl)
    have y6:=(R8'.cell 6).trans (show _ = some (Value.slice za2 nZ zc2) from rfl)
    have z0:=(R5'.cell 0).trans (show _ = some (Value.int .i64 (v':Int)) from rfl)
    have z1:=(R5'.cell 1).trans (show _ = some (Value.bool p1) from rfl)
    have z2:=(R5'.cell 2).trans (show _ = some (Value.slice a1 na1 ca1) from rfl)
    have z3:=(R5'.cell 3).trans (show _ = some (Value.slice d1 nd1 cd1) from rfl)
    have z4:=(R5'.cell 4).trans (show _ = some (Value.slice xa1 nX xc1) from rfl)
    have z5:=(R5'.cell 5).trans (show _ = some (Value.slice ya1 nY yc1) from rfl)
    have z6:=(R5'.cell 6).trans (show _ = some (Value.slice za1 nZ zc1) from rfl)
    have u0:=(R5a.cell 0).trans (show _ = some (Value.int .i64 (v':Int)) from rfl)
    have u1:=(R5a.cell 1).trans (show _ = some (Value.bool p1) from rfl)
    have u2:=(R5a.cell 2).trans (show _ = some (Value.slice a1 na1 ca1) from rfl)
    have u3:=(R5a.cell 3).trans (show _ = some (Value.slice d1 nd1 cd1) from rfl)
    have u4:=(R5a.cell 4).trans (show _ = some (Value.slice xa1 nX xc1) from rfl)
    have u5:=(R5a.cell 5).trans (show _ = some (Value.slice ya1 nY yc1) from rfl)
    have u6:=(R5a.cell 6).trans (show _ = some (Value.slice za1 nZ zc1) from rfl)
    go_wp2_with fail
    clear y0 y1 y2 y3 y4 y5 y6 z0 z1 z2 z3 z4 z5 z6
    clear u0 u1 u2 u3 u4 u5 u6 R5a
    replace hb7w:=bel_tr hb7w hbA
    replace R5':=R5'.below hbA
    replace R8':=R8'.below hbA
    clear B0 B1 hbA hzA HVL SX SY SZ
    generalize (w10.alloc (.cells #[.bool p2,.slice a2 na2 ca2,.slice d2 nd2 cd2] 27)).alloc (.cells #[.bool p1,.slice a1 na1 ca1,.slice d1 nd1 cd1] 27) = w11 at *
    refine (sameLQ w11 (by decide) SV.out).mono ?_
    rintro e w12 ⟨rfl,hx⟩
    replace hb7w:=bel_tr hb7w hx
    replace R5':=R5'.below hx
    replace R8':=R8'.below hx
    clear hx SV
    have y0:=(R8'.cell 0).trans (show _ = some (Value.int .i64 (v':Int)) from rfl)
    have y1:=(R8'.cell 1).trans (show _ = some (Value.bool p2) from rfl)
    have y2:=(R8'.cell 2).trans (show _ = some (Value.slice a2 na2 ca2) from rfl)
    have y3:=(R8'.cell 3).trans (show _ = some (Value.slice d2 nd2 cd2) from rfl)
    have y4:=(R8'.cell 4).trans (show _ = some (Value.slice xa2 nX xc2) from rfl)
    have y5:=(R8'.cell 5).trans (show _ = some (Value.slice ya2 nY yc2) from rfl)
    have y6:=(R8'.cell 6).trans (show _ = some (Value.slice za2 nZ zc2) from rfl)
    have z0:=(R5'.cell 0).trans (show _ = some (Value.int .i64 (v':Int)) from rfl)
    have z1:=(R5'.cell 1).trans (show _ = some (Value.bool p1) from rfl)
    have z2:=(R5'.cell 2).trans (show _ = some (Value.slice a1 na1 ca1) from rfl)
    have z3:=(R5'.cell 3).trans (show _ = some (Value.slice d1 nd1 cd1) from rfl)
    have z4:=(R5'.cell 4).trans (show _ = some (Value.slice xa1 nX xc1) from rfl)
    have z5:=(R5'.cell 5).trans (show _ = some (Value.slice ya1 nY yc1) from rfl)
    have z6:=(R5'.cell 6).trans (show _ = some (Value.slice za1 nZ zc1) from rfl)
    by_cases hv:(v':Int) = 1
    ·go_wp2
     go_ret
     exact ⟨rfl,hb7w⟩
    ·have hvb:((v':Int) != 1) = true:=by simpa using hv
     go_wp2
     go_ret
     exact ⟨rfl,hb7w⟩
   ·exact absurd h HNO.out
  ·unfold Z7
   have hx3:=bel_d0 w2 (.cells #[.int .i64 0,.bool false,.slice none 0 0,.slice none 0 0,.slice none 0 0,.slice none 0 0,.slice none 0 0] 35)
   have R5:=Rw.new 35 w2 #[.int .i64 0,.bool false,.slice none 0 0,.slice none 0 0,.slice none 0 0,.slice none 0 0,.slice none 0 0]
   replace RP:=RP.below hx3
   have hb3w:=bel_tr hb2w hx3
   have hz3:(w2.alloc (.cells #[.int .i64 0,.bool false,.slice none 0 0,.slice none 0 0,.slice none 0 0,.slice none 0 0,.slice none 0 0] 35)).heap.size = w2.heap.size + 1:=by simp
   have HZ3:Hid ((w2.alloc (.cells #[.int .i64 0,.bool false,.slice none 0 0,.slice none 0 0,.slice none 0 0,.slice none 0 0,.slice none 0 0] 35)).heap.size = w2.heap.size + 1):=hz3
   have HB23:Hid (Below w2.heap.size w2 (w2.alloc (.cells #[.int .i64 0,.bool false,.slice none 0 0,.slice none 0 0,.slice none 0 0,.slice none 0 0,.slice none 0 0] 35))):=hx3
   clear hx3 hz3 hb2w
   go_wp2_with fail
   generalize hq2:w2.heap.size = b5 at *
   generalize w2.alloc (.cells #[.int .i64 0,.bool false,.slice none 0 0,.slice none 0 0,.slice none 0 0,.slice none 0 0,.slice none 0 0] 35) = w3 at *
   refine (lentQ s w3 hs).mono ?_
   rintro e w4 ⟨gL,cL,rfl,hcL,hLB,hgL,hgl4,hb4⟩
   have hz3:=HZ3.out
   have hz4:=hb4.size
   replace RP:=RP.below hb4
   replace R5:=R5.below hb4
   have hb4w:=bel_tr hb3w hb4
   have HB34:Hid (Below w3.heap.size w3 w4):=hb4
   clear hb4 hb3w
   have q0:=(RP.cell 0).trans (show _ = some (Value.bool P.mx) from rfl)
   have q1:=(RP.cell 1).trans (show _ = some (Value.string P.nm) from rfl)
   have q2:=(RP.cell 2).trans (show _ = some (Value.bool P.p) from rfl)
   have q3:=(RP.cell 3).trans (show _ = some (Value.slice P.a P.na P.ca) from rfl)
   have q4:=(RP.cell 4).trans (show _ = some (Value.slice P.d P.nd P.cd) from rfl)
   have q5:=(RP.cell 5).trans (show _ = some (Value.slice P.va P.vn P.vc) from rfl)
   have q6:=(RP.cell 6).trans (show _ = some (Value.slice P.ra P.rn P.rc) from rfl)
   go_wp2_with fail
   clear q0 q1 q2 q3 q4 q5 q6
   refine (readQ P s (gL:=gL) (cL:=cL) (ev:=ev) w4 (HPW.out.below hb4w) hK hs (fun u hu=>(hLB.below hgl4 hu).conv) (hT.below hb4w) (hE.below hb4w) (HEV.out.below hb4w) HNN.out).mono ?_
   rintro e w5 ⟨hb5,hPr⟩
   have hz5:=hb5.size
   replace R5:=R5.below hb5
   have hb5w:=bel_tr hb4w hb5
   have hLB5:=hLB.below hgl4 hb5
   have HB45:Hid (Below w4.heap.size w4 w5):=hb5
   clear hb5 hb4w hLB RP
   rcases hPr with ⟨v,R,cs,hv1,hv3,hnw,hA,_,_⟩ | ⟨_,rfl⟩
   ·rcases hno with h | h
    ·exact absurd h hnw
    ·exact absurd hA (h v R hv1 hv3)
   clear hno
   have hx6:=bel_d0 w5 (.cells #[.int .i64 0,.bool false,.slice none 0 0,.slice none 0 0,.slice none 0 0,.slice none 0 0,.slice none 0 0] 35)
   have R8:=Rw.new 35 w5 #[.int .i64 0,.bool false,.slice none 0 0,.slice none 0 0,.slice none 0 0,.slice none 0 0,.slice none 0 0]
   replace R5:=R5.below hx6
   have hb6w:=bel_tr hb5w hx6
   have hLB6:=hLB5.below (by omega) hx6
   have HZ6:Hid ((w5.alloc (.cells #[.int .i64 0,.bool false,.slice none 0 0,.slice none 0 0,.slice none 0 0,.slice none 0 0,.slice none 0 0] 35)).heap.size = w5.heap.size + 1):=by show _ = _;simp
   have HB56:Hid (Below w5.heap.size w5 (w5.alloc (.cells #[.int .i64 0,.bool false,.slice none 0 0,.slice none 0 0,.slice none 0 0,.slice none 0 0,.slice none 0 0] 35))):=hx6
   clear hx6 hb5w hLB5
   go_wp2_with fail
   generalize hq5:w5.heap.size = b8 at *
   generalize w5.alloc (.cells #[.int .i64 0,.bool false,.slice none 0 0,.slice none 0 0,.slice none 0 0,.slice none 0 0,.slice none 0 0] 35) = w6 at *
   refine (unspoiltQ s w6 hs hLB6 hcL).mono ?_
   rintro e w7 ⟨rfl,O7⟩
   have R5':=R5.off O7 (by omega)
   have R8':=R8.off O7 (by omega)
   have hb7w:Below w.heap.size w w7:=hb6w.trans (O7.below (by omega))
   have hz7:=O7.size
   clear hLB6 R5 R8
   have EV7:Errs w7 0 ev:=HEV.out.below hb7w
   obtain ⟨ec,pp,rfl⟩:=EV7
   obtain ⟨i,hi,hcmp⟩:=Option.map_eq_some_iff.1 Tryz.errCompR
   obtain ⟨jj,hj,_⟩:=Option.map_eq_some_iff.1 Tryz.errSizeR
   have heq:=run_eql_iface_ptr_same (P:=Tryz.prog) w7 pp Tryz.underlying41 Tryz.underlying218 hi hcmp hj
   have y0:=(R8'.cell 0).trans (show _ = some (Value.int .i64 0) from rfl)
   have y1:=(R8'.cell 1).trans (show _ = some (Value.bool false) from rfl)
   have y2:=(R8'.cell 2).trans (show _ = some (Value.slice none 0 0) from rfl)
   have y3:=(R8'.cell 3).trans (show _ = some (Value.slice none 0 0) from rfl)
   have y4:=(R8'.cell 4).trans (show _ = some (Value.slice none 0 0) from rfl)
   have y5:=(R8'.cell 5).trans (show _ = some (Value.slice none 0 0) from rfl)
   have y6:=(R8'.cell 6).trans (show _ = some (Value.slice none 0 0) from rfl)
   clear HB12 HB23 HB34 HB45 HB56
   go_wp2_with fail
   refine (signD w7 (trZ19 w7) (by decide) (by decide)).mono ?_
   rintro e w8 ⟨rfl,hx⟩
   replace hb7w:=bel_tr hb7w hx
   go_wp2
   go_ret
   exact ⟨rfl,hb7w⟩
end Go.Proofs.YtnkpbjmfdfjeiaaGreatDoor

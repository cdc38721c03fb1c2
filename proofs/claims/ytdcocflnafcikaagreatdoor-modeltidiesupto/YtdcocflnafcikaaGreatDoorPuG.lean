import Derived.Test.YtdcocflnafcikaaGreatDoorPtGAll
import Derived.Test.YtdcocflnafcikaaGreatDoorPsE
namespace Go.Proofs.YtdcocflnafcikaaGreatDoor
open Go.RowKit
set_option maxRecDepth 100000 in
set_option maxHeartbeats 16000000 in
theorem kept7Q (w:World) {P:Prob} {R Rr N:Nat} {F:Nat→Fr} {A:Nat→Bk} {va vn vd vg:Value} {G:PF} {Q O:Prob} {gv gr:Nat} (h:LP w P R Rr N F A va vn vd vg G Q O gv gr) (hK:P.K≤1048576) :
 Calls Tryz.prog 11 #[.pointer (some ⟨R,0,none⟩)] w fun e w'=>e = .returned (.bool true)∧Below w.heap.size w w':=by
 have HM:Hid (Mks w Q gv gr):=h.mks
 have e3:=HM.out.2.2.1
 have e4:=HM.out.2.2.2.1
 have hKQ:Q.K≤1048576:=by rw [h.cq.K];exact hK
 have hvn:Q.vn≤1048576:=by have:=h.pq.all;have:=aZ Q.ZV Q.vn;omega
 have hrn:Q.rn≤1048576:=by have:=h.pq.all;have:=aZ Q.ZR Q.rn;omega
 have HNT:Hid (∀ i,i<Q.rn→(Q.R i).nt≤1048576):=fun i hi=>by
  rcases h.pq.r with h0|⟨rb,ro,hra,hew⟩
  ·omega
  obtain ⟨ta,tc,Zt,r1,hLT,htot,htc⟩:=(hew i hi).terms
  have:=aZ Zt (Q.R i).nt
  have:=dF (Z:=Q.ZR) hi
  have:=h.pq.all
  omega
 have HS:∀ w',Below w.heap.size w w'→Calls Tryz.prog 10 #[.agg #[.bool Q.mx,.string Q.nm,.bool Q.p,.slice Q.a Q.na Q.ca,.slice Q.d Q.nd Q.cd,.slice Q.va Q.vn Q.vc,.slice Q.ra Q.rn Q.rc],.agg #[.bool O.mx,.string O.nm,.bool O.p,.slice O.a O.na O.ca,.slice O.d O.nd O.cd,.slice O.va O.vn O.vc,.slice O.ra O.rn O.rc]] w' fun e w''=>e = .returned (.bool true)∧Below w'.heap.size w' w'':=fun w' hb =>
  yV Q O w' (TPF.sam (h.pq.below hb) (h.po.below hb) (h.tq.below hb) (h.to.below hb) hKQ (h.co.mx.trans h.cq.mx.symm) (h.co.nm.trans h.cq.nm.symm) (h.co.vn.trans h.cq.vn.symm) (h.co.rn.trans h.cq.rn.symm) (h.co.V.trans h.cq.V.symm) (h.co.R.trans h.cq.R.symm))
 have HK3:=kept3Q w h.lj h.hn h.hF
 have Bx:=h.box
 clear h hKQ
 have b14:=Bx 14 _ rfl
 go_enter Tryz.func11,Tryz.ntmps11
 go_wp2_with fail
 refine HK3.mono ?_
 rintro e w1 ⟨rfl,h1⟩
 replace Bx:=Bx.below h1
 clear HK3 b14
 have c0:=Bx 0 _ rfl
 have c1:=Bx 1 _ rfl
 have c2:=Bx 2 _ rfl
 have c3:=Bx 3 _ rfl
 have c4:=Bx 4 _ rfl
 have c5:=Bx 5 _ rfl
 have c6:=Bx 6 _ rfl
 have c7:=Bx 7 _ rfl
 have c8:=Bx 8 _ rfl
 have c9:=Bx 9 _ rfl
 have c10:=Bx 10 _ rfl
 have c11:=Bx 11 _ rfl
 have c12:=Bx 12 _ rfl
 have c13:=Bx 13 _ rfl
 have HBX:∀ w',Below w1.heap.size w1 w'→(w'.cell? ⟨R,0,none⟩=some (.bool Q.mx)∧w'.cell? ⟨R,1,none⟩=some (.string Q.nm)∧w'.cell? ⟨R,2,none⟩=some (.bool Q.p)∧w'.cell? ⟨R,3,none⟩=some (.slice Q.a Q.na Q.ca)∧w'.cell? ⟨R,4,none⟩=some (.slice Q.d Q.nd Q.cd)∧w'.cell? ⟨R,5,none⟩=some (.slice Q.va Q.vn Q.vc)∧w'.cell? ⟨R,6,none⟩=some (.slice Q.ra Q.rn Q.rc)∧w'.cell? ⟨R,7,none⟩=some (.bool O.mx)∧w'.cell? ⟨R,8,none⟩=some (.string O.nm)∧w'.cell? ⟨R,9,none⟩=some (.bool O.p)∧w'.cell? ⟨R,10,none⟩=some (.slice O.a O.na O.ca)∧w'.cell? ⟨R,11,none⟩=some (.slice O.d O.nd O.cd)∧w'.cell? ⟨R,12,none⟩=some (.slice O.va O.vn O.vc)∧w'.cell? ⟨R,13,none⟩=some (.slice O.ra O.rn O.rc)):=fun w' h=>⟨aB h c0,aB h c1,aB h c2,aB h c3,aB h c4,aB h c5,aB h c6,aB h c7,aB h c8,aB h c9,aB h c10,aB h c11,aB h c12,aB h c13⟩
 clear c0 c1 c2 c3 c4 c5 c6 c7 c8 c9 c10 c11 c12 c13
 go_wp2_with fail
 refine wp_region_noPanic (aT HBX (by kernel_rfl) ?_)
 have hc0:Below w1.heap.size w1 w1.drew:=aS _
 generalize w1.drew=z0 at *
 refine wpAnyG.tA 0 (v:=.pointer (some ⟨R,0,none⟩)) (by decide) 9 (by kernel_rfl) (by rfl) ?y0 (HBX _ hc0) ?_
 case y0 =>
  rintro w' ⟨f0,f1,f2,f3,f4,f5,f6,f7,f8,f9,f10,f11,f12,f13⟩
  simp only [lgA,lgZ]
  go_simp
 simp only [lgA,lgZ,Act.put,lsA,lsZ,lsS]
 refine wpAnyG.tA 1 (v:=.pointer (some ⟨R,0,none⟩)) (by decide) 9 (by kernel_rfl) (by rfl) ?y1 (HBX _ hc0) ?_
 case y1 =>
  rintro w' ⟨f0,f1,f2,f3,f4,f5,f6,f7,f8,f9,f10,f11,f12,f13⟩
  simp only [lgA,lgZ,lgS]
  go_simp
 simp only [lgA,lgZ,lgS,Act.put,lsA,lsZ,lsS]
 refine wpAnyG.tA 2 (v:=.pointer (some ⟨R,0,none⟩)) (by decide) 9 (by kernel_rfl) (by rfl) ?y2 (HBX _ hc0) ?_
 case y2 =>
  rintro w' ⟨f0,f1,f2,f3,f4,f5,f6,f7,f8,f9,f10,f11,f12,f13⟩
  simp only [lgA,lgZ,lgS]
  go_simp
 simp only [lgA,lgZ,lgS,Act.put,lsA,lsZ,lsS]
 refine wpAnyG.tA 3 (v:=.agg #[.bool Q.mx,.string Q.nm,.bool Q.p,.slice Q.a Q.na Q.ca,.slice Q.d Q.nd Q.cd,.slice Q.va Q.vn Q.vc,.slice Q.ra Q.rn Q.rc]) (by decide) 9 (by kernel_rfl) (by rfl) ?y3 (HBX _ hc0) ?_
 case y3 =>
  rintro w' ⟨f0,f1,f2,f3,f4,f5,f6,f7,f8,f9,f10,f11,f12,f13⟩
  simp only [lgA,lgZ,lgS]
  go_simp
 simp only [lgA,lgZ,lgS,Act.put,lsA,lsZ,lsS]
 refine wpAnyG.tA 4 (v:=.pointer (some ⟨R,0,none⟩)) (by decide) 9 (by kernel_rfl) (by rfl) ?y4 (HBX _ hc0) ?_
 case y4 =>
  rintro w' ⟨f0,f1,f2,f3,f4,f5,f6,f7,f8,f9,f10,f11,f12,f13⟩
  simp only [lgA,lgZ,lgS]
  go_simp
 simp only [lgA,lgZ,lgS,Act.put,lsA,lsZ,lsS]
 refine wpAnyG.tA 5 (v:=.pointer (some ⟨R,0,none⟩)) (by decide) 9 (by kernel_rfl) (by rfl) ?y5 (HBX _ hc0) ?_
 case y5 =>
  rintro w' ⟨f0,f1,f2,f3,f4,f5,f6,f7,f8,f9,f10,f11,f12,f13⟩
  simp only [lgA,lgZ,lgS]
  go_simp
 simp only [lgA,lgZ,lgS,Act.put,lsA,lsZ,lsS]
 refine wpAnyG.tA 6 (v:=.pointer (some ⟨R,7,none⟩)) (by decide) 9 (by kernel_rfl) (by rfl) ?y6 (HBX _ hc0) ?_
 case y6 =>
  rintro w' ⟨f0,f1,f2,f3,f4,f5,f6,f7,f8,f9,f10,f11,f12,f13⟩
  simp only [lgA,lgZ,lgS]
  go_simp
 simp only [lgA,lgZ,lgS,Act.put,lsA,lsZ,lsS]
 refine wpAnyG.tA 7 (v:=.agg #[.bool O.mx,.string O.nm,.bool O.p,.slice O.a O.na O.ca,.slice O.d O.nd O.cd,.slice O.va O.vn O.vc,.slice O.ra O.rn O.rc]) (by decide) 9 (by kernel_rfl) (by rfl) ?y7 (HBX _ hc0) ?_
 case y7 =>
  rintro w' ⟨f0,f1,f2,f3,f4,f5,f6,f7,f8,f9,f10,f11,f12,f13⟩
  simp only [lgA,lgZ,lgS]
  go_simp
 simp only [lgA,lgZ,lgS,Act.put,lsA,lsZ,lsS]
 refine wpAnyG.one 8 (by kernel_rfl) (by decide) (by rfl) (fun K hK=>?_)
 simp only [lgA,lgZ,lgS]
 go_simp
 refine (HS z0 (aF h1 hc0)).mono ?_
 rintro e z1 ⟨rfl,hk1⟩
 have hc1:Below w1.heap.size w1 z1:=aF hc0 hk1
 dsimp only
 refine hK _ _ (HBX _ hc1) ?_
 clear hK K
 refine wpAnyG.one 9 (by kernel_rfl) (by decide) (by rfl) (fun K hK=>?_)
 simp only [lgA,lgZ,lgS]
 go_simp
 refine hK _ _ (HBX _ hc1) ?_
 clear hK K
 refine wpAnyG.done (by kernel_rfl) (NoPanic.normal ?_)
 replace Bx:=Bx.below hc1
 have hb1:=aF h1 hc1
 clear HBX HS hk1 hc0 hc1 h1
 have k5:=Bx 5 _ rfl
 have k6:=Bx 6 _ rfl
 obtain ⟨m,em⟩:∃ m,m=Q.vn+3:=⟨_,rfl⟩
 obtain ⟨m2,em2⟩:∃ m2,m2=Q.rn+3:=⟨_,rfl⟩
 have hw1:IntKind.i64.wrap ((Q.vn:Int)+3)=(m:Int):=by rw [IntKind.wrap_i64];omega
 have hw2:IntKind.i64.wrap ((Q.rn:Int)+3)=(m2:Int):=by rw [IntKind.wrap_i64];omega
 have hm1:(m:Int)≤(Q.vc:Int):=by omega
 have hm2:(m2:Int)≤(Q.rc:Int):=by omega
 have hm3:(0:Int)≤(m:Int):=by omega
 have hm4:(0:Int)≤(m2:Int):=by omega
 have EM:Hid (m=Q.vn+3∧m2=Q.rn+3):=⟨em,em2⟩
 rw [HM.out.1] at k5
 rw [HM.out.2.1] at k6
 clear em em2
 go_wp2_with fail
 have HBX:∀ w',Below z1.heap.size z1 w'→(w'.cell? ⟨R,5,none⟩=some (.slice (some ⟨gv,0,none⟩) Q.vn Q.vc)):=fun w' h=>aB h k5
 refine wp_region_noPanic (aT HBX (by kernel_rfl) ?_)
 have hc0:Below z1.heap.size z1 z1.drew:=aS _
 generalize z1.drew=x0 at *
 refine wpAnyG.tA 0 (v:=.pointer (some ⟨R,0,none⟩)) (by decide) 13 (by kernel_rfl) (by rfl) ?y0 (HBX _ hc0) ?_
 case y0 =>
  rintro w' f0
  simp only [lgA,lgZ]
  go_simp
 simp only [lgA,lgZ,Act.put,lsA,lsZ,lsS]
 refine wpAnyG.tA 1 (v:=.pointer (some ⟨R,0,none⟩)) (by decide) 13 (by kernel_rfl) (by rfl) ?y1 (HBX _ hc0) ?_
 case y1 =>
  rintro w' f0
  simp only [lgA,lgZ,lgS]
  go_simp
 simp only [lgA,lgZ,lgS,Act.put,lsA,lsZ,lsS]
 refine wpAnyG.tA 2 (v:=.pointer (some ⟨R,0,none⟩)) (by decide) 13 (by kernel_rfl) (by rfl) ?y2 (HBX _ hc0) ?_
 case y2 =>
  rintro w' f0
  simp only [lgA,lgZ,lgS]
  go_simp
 simp only [lgA,lgZ,lgS,Act.put,lsA,lsZ,lsS]
 refine wpAnyG.tA 3 (v:=.pointer (some ⟨R,5,none⟩)) (by decide) 13 (by kernel_rfl) (by rfl) ?y3 (HBX _ hc0) ?_
 case y3 =>
  rintro w' f0
  simp only [lgA,lgZ,lgS]
  go_simp
 simp only [lgA,lgZ,lgS,Act.put,lsA,lsZ,lsS]
 refine wpAnyG.tA 4 (v:=.slice (some ⟨gv,0,none⟩) Q.vn Q.vc) (by decide) 13 (by kernel_rfl) (by rfl) ?y4 (HBX _ hc0) ?_
 case y4 =>
  rintro w' f0
  simp only [lgA,lgZ,lgS]
  go_simp
 simp only [lgA,lgZ,lgS,Act.put,lsA,lsZ,lsS]
 refine wpAnyG.tA 5 (v:=.pointer (some ⟨R,0,none⟩)) (by decide) 13 (by kernel_rfl) (by rfl) ?y5 (HBX _ hc0) ?_
 case y5 =>
  rintro w' f0
  simp only [lgA,lgZ,lgS]
  go_simp
 simp only [lgA,lgZ,lgS,Act.put,lsA,lsZ,lsS]
 refine wpAnyG.tA 6 (v:=.pointer (some ⟨R,0,none⟩)) (by decide) 13 (by kernel_rfl) (by rfl) ?y6 (HBX _ hc0) ?_
 case y6 =>
  rintro w' f0
  simp only [lgA,lgZ,lgS]
  go_simp
 simp only [lgA,lgZ,lgS,Act.put,lsA,lsZ,lsS]
 refine wpAnyG.tA 7 (v:=.pointer (some ⟨R,0,none⟩)) (by decide) 13 (by kernel_rfl) (by rfl) ?y7 (HBX _ hc0) ?_
 case y7 =>
  rintro w' f0
  simp only [lgA,lgZ,lgS]
  go_simp
 simp only [lgA,lgZ,lgS,Act.put,lsA,lsZ,lsS]
 refine wpAnyG.tA 8 (v:=.pointer (some ⟨R,5,none⟩)) (by decide) 13 (by kernel_rfl) (by rfl) ?y8 (HBX _ hc0) ?_
 case y8 =>
  rintro w' f0
  simp only [lgA,lgZ,lgS]
  go_simp
 simp only [lgA,lgZ,lgS,Act.put,lsA,lsZ,lsS]
 refine wpAnyG.tA 9 (v:=.slice (some ⟨gv,0,none⟩) Q.vn Q.vc) (by decide) 13 (by kernel_rfl) (by rfl) ?y9 (HBX _ hc0) ?_
 case y9 =>
  rintro w' f0
  simp only [lgA,lgZ,lgS]
  go_simp
 simp only [lgA,lgZ,lgS,Act.put,lsA,lsZ,lsS]
 refine wpAnyG.tA 10 (v:=.int .i64 (Q.vn:Int)) (by decide) 13 (by kernel_rfl) (by rfl) ?y10 (HBX _ hc0) ?_
 case y10 =>
  rintro w' f0
  simp only [lgA,lgZ,lgS]
  go_simp
 simp only [lgA,lgZ,lgS,Act.put,lsA,lsZ,lsS]
 refine wpAnyG.tA 11 (v:=.int .i64 (m:Int)) (by decide) 13 (by kernel_rfl) (by rfl) ?y11 (HBX _ hc0) ?_
 case y11 =>
  rintro w' f0
  simp only [lgA,lgZ,lgS]
  go_simp
 simp only [lgA,lgZ,lgS,Act.put,lsA,lsZ,lsS]
 refine wpAnyG.tA 12 (v:=.slice (some ⟨gv,0,none⟩) m Q.vc) (by decide) 13 (by kernel_rfl) (by rfl) ?y12 (HBX _ hc0) ?_
 case y12 =>
  rintro w' f0
  simp only [lgA,lgZ,lgS]
  go_simp
 simp only [lgA,lgZ,lgS,Act.put,lsA,lsZ,lsS]
 refine wpAnyG.one 13 (by kernel_rfl) (by decide) (by rfl) (fun K hK=>?_)
 simp only [lgA,lgZ,lgS]
 go_simp
 refine hK _ _ (HBX _ hc0) ?_
 clear hK K
 refine wpAnyG.done (by kernel_rfl) (NoPanic.normal ?_)
 replace Bx:=Bx.below hc0
 replace hb1:=aF hb1 hc0
 replace k6:=aB hc0 k6
 clear HBX hc0
 go_wp2_with fail
 have HBX:∀ w',Below x0.heap.size x0 w'→(w'.cell? ⟨R,6,none⟩=some (.slice (some ⟨gr,0,none⟩) Q.rn Q.rc)):=fun w' h=>aB h k6
 refine wp_region_noPanic (aT HBX (by kernel_rfl) ?_)
 have hc0:Below x0.heap.size x0 x0.drew:=aS _
 generalize x0.drew=y0 at *
 refine wpAnyG.tA 0 (v:=.pointer (some ⟨R,0,none⟩)) (by decide) 13 (by kernel_rfl) (by rfl) ?y0 (HBX _ hc0) ?_
 case y0 =>
  rintro w' f0
  simp only [lgA,lgZ]
  go_simp
 simp only [lgA,lgZ,Act.put,lsA,lsZ,lsS]
 refine wpAnyG.tA 1 (v:=.pointer (some ⟨R,0,none⟩)) (by decide) 13 (by kernel_rfl) (by rfl) ?y1 (HBX _ hc0) ?_
 case y1 =>
  rintro w' f0
  simp only [lgA,lgZ,lgS]
  go_simp
 simp only [lgA,lgZ,lgS,Act.put,lsA,lsZ,lsS]
 refine wpAnyG.tA 2 (v:=.pointer (some ⟨R,0,none⟩)) (by decide) 13 (by kernel_rfl) (by rfl) ?y2 (HBX _ hc0) ?_
 case y2 =>
  rintro w' f0
  simp only [lgA,lgZ,lgS]
  go_simp
 simp only [lgA,lgZ,lgS,Act.put,lsA,lsZ,lsS]
 refine wpAnyG.tA 3 (v:=.pointer (some ⟨R,6,none⟩)) (by decide) 13 (by kernel_rfl) (by rfl) ?y3 (HBX _ hc0) ?_
 case y3 =>
  rintro w' f0
  simp only [lgA,lgZ,lgS]
  go_simp
 simp only [lgA,lgZ,lgS,Act.put,lsA,lsZ,lsS]
 refine wpAnyG.tA 4 (v:=.slice (some ⟨gr,0,none⟩) Q.rn Q.rc) (by decide) 13 (by kernel_rfl) (by rfl) ?y4 (HBX _ hc0) ?_
 case y4 =>
  rintro w' f0
  simp only [lgA,lgZ,lgS]
  go_simp
 simp only [lgA,lgZ,lgS,Act.put,lsA,lsZ,lsS]
 refine wpAnyG.tA 5 (v:=.pointer (some ⟨R,0,none⟩)) (by decide) 13 (by kernel_rfl) (by rfl) ?y5 (HBX _ hc0) ?_
 case y5 =>
  rintro w' f0
  simp only [lgA,lgZ,lgS]
  go_simp
 simp only [lgA,lgZ,lgS,Act.put,lsA,lsZ,lsS]
 refine wpAnyG.tA 6 (v:=.pointer (some ⟨R,0,none⟩)) (by decide) 13 (by kernel_rfl) (by rfl) ?y6 (HBX _ hc0) ?_
 case y6 =>
  rintro w' f0
  simp only [lgA,lgZ,lgS]
  go_simp
 simp only [lgA,lgZ,lgS,Act.put,lsA,lsZ,lsS]
 refine wpAnyG.tA 7 (v:=.pointer (some ⟨R,0,none⟩)) (by decide) 13 (by kernel_rfl) (by rfl) ?y7 (HBX _ hc0) ?_
 case y7 =>
  rintro w' f0
  simp only [lgA,lgZ,lgS]
  go_simp
 simp only [lgA,lgZ,lgS,Act.put,lsA,lsZ,lsS]
 refine wpAnyG.tA 8 (v:=.pointer (some ⟨R,6,none⟩)) (by decide) 13 (by kernel_rfl) (by rfl) ?y8 (HBX _ hc0) ?_
 case y8 =>
  rintro w' f0
  simp only [lgA,lgZ,lgS]
  go_simp
 simp only [lgA,lgZ,lgS,Act.put,lsA,lsZ,lsS]
 refine wpAnyG.tA 9 (v:=.slice (some ⟨gr,0,none⟩) Q.rn Q.rc) (by decide) 13 (by kernel_rfl) (by rfl) ?y9 (HBX _ hc0) ?_
 case y9 =>
  rintro w' f0
  simp only [lgA,lgZ,lgS]
  go_simp
 simp only [lgA,lgZ,lgS,Act.put,lsA,lsZ,lsS]
 refine wpAnyG.tA 10 (v:=.int .i64 (Q.rn:Int)) (by decide) 13 (by kernel_rfl) (by rfl) ?y10 (HBX _ hc0) ?_
 case y10 =>
  rintro w' f0
  simp only [lgA,lgZ,lgS]
  go_simp
 simp only [lgA,lgZ,lgS,Act.put,lsA,lsZ,lsS]
 refine wpAnyG.tA 11 (v:=.int .i64 (m2:Int)) (by decide) 13 (by kernel_rfl) (by rfl) ?y11 (HBX _ hc0) ?_
 case y11 =>
  rintro w' f0
  simp only [lgA,lgZ,lgS]
  go_simp
 simp only [lgA,lgZ,lgS,Act.put,lsA,lsZ,lsS]
 refine wpAnyG.tA 12 (v:=.slice (some ⟨gr,0,none⟩) m2 Q.rc) (by decide) 13 (by kernel_rfl) (by rfl) ?y12 (HBX _ hc0) ?_
 case y12 =>
  rintro w' f0
  simp only [lgA,lgZ,lgS]
  go_simp
 simp only [lgA,lgZ,lgS,Act.put,lsA,lsZ,lsS]
 refine wpAnyG.one 13 (by kernel_rfl) (by decide) (by rfl) (fun K hK=>?_)
 simp only [lgA,lgZ,lgS]
 go_simp
 refine hK _ _ (HBX _ hc0) ?_
 clear hK K
 refine wpAnyG.done (by kernel_rfl) (NoPanic.normal ?_)
 replace Bx:=Bx.below hc0
 replace hb1:=aF hb1 hc0
 clear HBX hc0
 go_wp2_with fail
 generalize y0=wA at *
 clear hw1 hw2 k5 k6
 go_loopw [7] (fun s7 wr=>∃ (k:Nat),k≤3∧s7 = .int .i64 k∧Below wA.heap.size wA wr) (fun s7 _=>3-(intOf s7).toNat)
 case atStart=>exact ⟨0,by omega,rfl,Below.refl _ _⟩
 case round =>
  obtain ⟨k,hk,rfl,hbr⟩:=hrel
  by_cases hlt:k<3
  ·have hkI:(k:Int)<3:=by omega
   obtain ⟨x,ex⟩:∃ x,x=Q.vn+k:=⟨_,rfl⟩
   obtain ⟨y,ey⟩:∃ y,y=Q.rn+k:=⟨_,rfl⟩
   have hE1:=EM.out.1
   have hE2:=EM.out.2
   have hx1:IntKind.i64.wrap ((Q.vn:Int)+(k:Int))=(x:Int):=by rw [IntKind.wrap_i64];omega
   have hy1:IntKind.i64.wrap ((Q.rn:Int)+(k:Int))=(y:Int):=by rw [IntKind.wrap_i64];omega
   have hx2:(x:Int)<(m:Int):=by omega
   have hy2:(y:Int)<(m2:Int):=by omega
   have hx3:(x:Int)*13=((x*13:Nat):Int):=by omega
   have hy3:(y:Int)*10=((y*10:Nat):Int):=by omega
   have n1:=aB (aF hb1 hbr) (HM.out.2.2.2.2.1 k hlt).1
   have n2:=aB (aF hb1 hbr) (HM.out.2.2.2.2.1 k hlt).2
   rw [← ex] at n1
   rw [← ey] at n2
   have k5:=(Bx.below hbr) 5 _ rfl
   have k6:=(Bx.below hbr) 6 _ rfl
   clear hE1 hE2 ex ey
   go_wp2
   go_roundw
   case rel=>first|exact ⟨k+1,by omega,by go_num,hbr⟩|((repeat apply Exists.intro);refine ⟨?_,rfl⟩;exact ⟨k+1,by omega,by go_num,hbr⟩)
   case measure=>simp [intOf];omega
  ·have hkI:¬ (k:Int)<3:=by omega
   go_wp2
   generalize wr=wB at *
   have hbB:=aF hb1 hbr
   replace Bx:=Bx.below hbr
   clear hbr hb1
   go_loopw [8] (fun s8 wr=>∃ (i:Nat),i≤Q.rn∧s8 = .int .i64 i∧Below wB.heap.size wB wr) (fun s8 _=>Q.rn-(intOf s8).toNat)
   case atStart=>exact ⟨0,by omega,rfl,Below.refl _ _⟩
   case round =>
    obtain ⟨i,hi,rfl,hbr⟩:=hrel
    have k6:=(Bx.below hbr) 6 _ rfl
    by_cases hlt2:i<Q.rn
    ·have hkJ:(i:Int)<(Q.rn:Int):=by omega
     have hkJ2:(i:Int)*10=((i*10:Nat):Int):=by omega
     obtain ⟨g,cap,t1,t2,t3⟩:=HM.out.2.2.2.2.2 i hlt2
     have hn1:=HNT.out i hlt2
     obtain ⟨nt,ent⟩:∃ nt,nt=(Q.R i).nt:=⟨_,rfl⟩
     rw [← ent] at t1 t2 t3 hn1
     have T3:Hid (∀ j,j<3→w.cell? ⟨g,(nt+j)*4,none⟩=some (.int .i64 (-77))):=t3
     clear ent t3
     replace t1:=aB (aF hbB hbr) t1
     obtain ⟨m3,em3⟩:∃ m3,m3=nt+3:=⟨_,rfl⟩
     have hw3:IntKind.i64.wrap ((nt:Int)+3)=(m3:Int):=by rw [IntKind.wrap_i64];omega
     have hm5:(m3:Int)≤(cap:Int):=by omega
     have hm6:(0:Int)≤(m3:Int):=by omega
     have EM3:Hid (m3=nt+3):=em3
     rw [HM.out.2.1] at k6
     clear em3
     go_wp2
     generalize wr=wC at *
     go_loopw [11] (fun s11 wr=>∃ (k:Nat),k≤3∧s11 = .int .i64 k∧Below wC.heap.size wC wr) (fun s11 _=>3-(intOf s11).toNat)
     case atStart=>exact ⟨0,by omega,rfl,Below.refl _ _⟩
     case round =>
      obtain ⟨q,hq,rfl,hbq⟩:=hrel
      by_cases hlt3:q<3
      ·have hkQ:(q:Int)<3:=by omega
       obtain ⟨x,ex⟩:∃ x,x=nt+q:=⟨_,rfl⟩
       have hE3:=EM3.out
       have hx1:IntKind.i64.wrap ((nt:Int)+(q:Int))=(x:Int):=by rw [IntKind.wrap_i64];omega
       have hx2:(x:Int)<(m3:Int):=by omega
       have hx3:(x:Int)*4=((x*4:Nat):Int):=by omega
       have n1:=aB (aF (aF hbB hbr) hbq) (T3.out q hlt3)
       rw [← ex] at n1
       clear hE3 ex
       go_wp2
       go_roundw
       case rel=>first|exact ⟨q+1,by omega,by go_num,hbq⟩|((repeat apply Exists.intro);refine ⟨?_,rfl⟩;exact ⟨q+1,by omega,by go_num,hbq⟩)
       case measure=>simp [intOf];omega
      ·have hkQ:¬ (q:Int)<3:=by omega
       have hbr':=aF hbr hbq
       clear hbr hbq t1 T3 k6
       go_wp2
       go_roundw
       case rel=>first|exact ⟨i+1,by omega,by go_num,hbr'⟩|((repeat apply Exists.intro);refine ⟨?_,rfl⟩;exact ⟨i+1,by omega,by go_num,hbr'⟩)
       case measure=>simp [intOf];omega
    ·have hkJ:¬ (i:Int)<(Q.rn:Int):=by omega
     go_wp2
     go_ret
     exact ⟨rfl,aF hbB hbr⟩
end Go.Proofs.YtdcocflnafcikaaGreatDoor

import Derived.Test.YtdcocflnafcikaaGreatDoorMvBAll
import Derived.Test.YtdcocflnafcikaaGreatDoorTdC
import Derived.Test.YtdcocflnafcikaaGreatDoorPsE
import Derived.Test.YtdcocflnafcikaaGreatDoorPuG
import Derived.Test.YtdcocflnafcikaaGreatDoorPuH
import Derived.Test.YtdcocflnafcikaaGreatDoorPuF
import Derived.Test.YtdcocflnafcikaaGreatDoorPqFAll
import Derived.Test.YtdcocflnafcikaaGreatDoorPqEAll
namespace Go.Proofs.YtdcocflnafcikaaGreatDoor
open Go.RowKit
set_option maxRecDepth 100000 in
set_option maxHeartbeats 16000000 in
theorem xH (P:Prob) (w:World) (hP:PQ w P) (hK:P.K≤1048576) (hT:TB w)
 (HA:∀ w1,Below w.heap.size w w1→Calls Tryz.prog 6 #[] w1 fun e w'=>e = .returned (.bool true)∧Below w1.heap.size w1 w') :
 Calls Tryz.prog 3 #[P.val] w fun e w'=>e = .returned (.bool true)∧Below w.heap.size w w':=by
 have Pb:=aN w #[.bool P.mx,.string P.nm,.bool P.p,.slice P.a P.na P.ca,.slice P.d P.nd P.cd,.slice P.va P.vn P.vc,.slice P.ra P.rn P.rc] 31
 have hb:=aG w (.cells #[.bool P.mx,.string P.nm,.bool P.p,.slice P.a P.na P.ca,.slice P.d P.nd P.cd,.slice P.va P.vn P.vc,.slice P.ra P.rn P.rc] 31)
 unfold Prob.val
 have p0:=Pb 0 _ rfl
 have p1:=Pb 1 _ rfl
 have p2:=Pb 2 _ rfl
 have p3:=Pb 3 _ rfl
 have p4:=Pb 4 _ rfl
 have p5:=Pb 5 _ rfl
 have p6:=Pb 6 _ rfl
 go_enter Tryz.func3,Tryz.ntmps3
 go_wp2_with fail
 generalize w.alloc (.cells #[.bool P.mx,.string P.nm,.bool P.p,.slice P.a P.na P.ca,.slice P.d P.nd P.cd,.slice P.va P.vn P.vc,.slice P.ra P.rn P.rc] 31)=W at *
 refine (beyondQ P W (hP.below hb) hK).mono ?_
 clear p0 p1 p2 p3 p4 p5 p6
 rintro e w1 ⟨bb,rfl,h1⟩
 replace Pb:=Pb.below h1
 replace hb:=aF hb h1
 clear h1
 cases bb
 rotate_left
 ·go_wp2
  go_ret
  exact ⟨rfl,hb⟩
 go_wp2_with fail
 refine (HA w1 hb).mono ?_
 rintro e w2 ⟨rfl,h1⟩
 replace Pb:=Pb.below h1
 replace hb:=aF hb h1
 clear h1 HA
 have p0:=Pb 0 _ rfl
 have p1:=Pb 1 _ rfl
 have p2:=Pb 2 _ rfl
 have p3:=Pb 3 _ rfl
 have p4:=Pb 4 _ rfl
 have p5:=Pb 5 _ rfl
 have p6:=Pb 6 _ rfl
 go_wp2_with fail
 refine (lend7G P w2 (hP.below hb) hK).mono ?_
 clear p0 p1 p2 p3 p4 p5 p6
 rintro e w3 ⟨R,Rr,N,F,A,va,vn,vd,vg,G,Q,O,gv,gr,rfl,hL,h1,hRr⟩
 replace hRr:w.heap.size≤Rr:=Nat.le_trans hb.size hRr
 replace Pb:=Pb.below h1
 replace hb:=aF hb h1
 clear h1
 obtain ⟨EVo,ERo,xvo,xro,tvo,ETo,xto,Ho,So⟩:=hL.pap hK
 obtain ⟨Co,eCo⟩:∃ Co,Co=w3.heap.size:=⟨_,rfl⟩
 rw [← eCo] at Ho So
 have hCo:Co≤w3.heap.size:=by omega
 clear eCo
 have hQK:Q.K≤1048576:=by rw [hL.cq.K];exact hK
 have hcq:=hL.cq
 have c0:=hL.box 0 _ rfl
 have c1:=hL.box 1 _ rfl
 have c2:=hL.box 2 _ rfl
 have c3:=hL.box 3 _ rfl
 have c4:=hL.box 4 _ rfl
 have c5:=hL.box 5 _ rfl
 have c6:=hL.box 6 _ rfl
 have HT1:=yJ Q w3 hL.pq (hL.pq.tk hQK) (hT.below hb)
 go_wp2_with fail
 refine HT1.mono ?_
 clear HT1
 clear c0 c1 c2 c3 c4 c5 c6
 rintro e w4 ⟨v,rfl,hX,h1⟩
 obtain ⟨Qa,ca,EVa,ERa,xva,xra,tva,ETa,xta,rfl,pa,ta,ka,Ha,Sa⟩:=hX.pap hL.pq hQK
 clear hX
 obtain ⟨Ba,eBa⟩:∃ Ba,Ba=w3.heap.size:=⟨_,rfl⟩
 rw [← eBa] at Ha Sa
 obtain ⟨Ca,eCa⟩:∃ Ca,Ca=w4.heap.size:=⟨_,rfl⟩
 rw [← eCa] at Ha Sa
 have hBa:Co≤Ba:=by omega
 have hCa:Ca≤w4.heap.size:=by omega
 replace ka:=ka.cpy hcq
 replace ta:=ta.cpy hcq
 have hs4:=h1.size
 have hBa2:w.heap.size≤Ba:=by rw [eBa];exact hb.size
 clear eBa eCa
 replace hb:=aF hb h1
 replace Pb:=Pb.below h1
 replace hL:=hL.below h1
 replace Ho:=Ho.below h1
 clear h1
 have e0:Qa.val = .agg #[.bool Qa.mx,.string Qa.nm,.bool Qa.p,.slice Qa.a Qa.na Qa.ca,.slice Qa.d Qa.nd Qa.cd,.slice Qa.va Qa.vn Qa.vc,.slice Qa.ra Qa.rn Qa.rc]:=rfl
 rw [e0]
 clear e0
 have BQa:=aN w4 #[.bool Qa.mx,.string Qa.nm,.bool Qa.p,.slice Qa.a Qa.na Qa.ca,.slice Qa.d Qa.nd Qa.cd,.slice Qa.va Qa.vn Qa.vc,.slice Qa.ra Qa.rn Qa.rc] 31
 have x1:=aG w4 (.cells #[.bool Qa.mx,.string Qa.nm,.bool Qa.p,.slice Qa.a Qa.na Qa.ca,.slice Qa.d Qa.nd Qa.cd,.slice Qa.va Qa.vn Qa.vc,.slice Qa.ra Qa.rn Qa.rc] 31)
 obtain ⟨RA,hRA⟩:∃ R,R=w4.heap.size:=⟨_,rfl⟩
 rw [← hRA] at BQa
 replace hb:=aF hb x1
 replace Pb:=Pb.below x1
 replace hL:=hL.below x1
 replace Ho:=Ho.below x1
 replace Ha:=Ha.below x1
 replace ka:=ka.below x1
 have c0:=hL.box 0 _ rfl
 have c1:=hL.box 1 _ rfl
 have c2:=hL.box 2 _ rfl
 have c3:=hL.box 3 _ rfl
 have c4:=hL.box 4 _ rfl
 have c5:=hL.box 5 _ rfl
 have c6:=hL.box 6 _ rfl
 have hs5:=x1.size
 have HT2:=yJ Q (w4.alloc (.cells #[.bool Qa.mx,.string Qa.nm,.bool Qa.p,.slice Qa.a Qa.na Qa.ca,.slice Qa.d Qa.nd Qa.cd,.slice Qa.va Qa.vn Qa.vc,.slice Qa.ra Qa.rn Qa.rc] 31)) hL.pq (hL.pq.tk hQK) (hT.below hb)
 go_wp2_with fail
 rw [← hRA]
 generalize w4.alloc (.cells #[.bool Qa.mx,.string Qa.nm,.bool Qa.p,.slice Qa.a Qa.na Qa.ca,.slice Qa.d Qa.nd Qa.cd,.slice Qa.va Qa.vn Qa.vc,.slice Qa.ra Qa.rn Qa.rc] 31)=W4 at *
 refine HT2.mono ?_
 clear HT2 x1 hRA
 clear c0 c1 c2 c3 c4 c5 c6
 rintro e w5 ⟨v,rfl,hX,h1⟩
 obtain ⟨Qb,cb,EVb,ERb,xvb,xrb,tvb,ETb,xtb,rfl,pb,tb,kb,Hb,Sb⟩:=hX.pap hL.pq hQK
 clear hX
 obtain ⟨Bb,eBb⟩:∃ Bb,Bb=W4.heap.size:=⟨_,rfl⟩
 rw [← eBb] at Hb Sb
 obtain ⟨Cb,eCb⟩:∃ Cb,Cb=w5.heap.size:=⟨_,rfl⟩
 rw [← eCb] at Hb Sb
 have hBb:Ca≤Bb:=by omega
 have hBb2:Co≤Bb:=by omega
 have hBb3:w.heap.size≤Bb:=by rw [eBb];exact hb.size
 clear eBb eCb
 replace kb:=kb.cpy hcq
 replace tb:=tb.cpy hcq
 replace hb:=aF hb h1
 replace Pb:=Pb.below h1
 replace hL:=hL.below h1
 replace Ho:=Ho.below h1
 replace Ha:=Ha.below h1
 replace ka:=ka.below h1
 replace BQa:=BQa.below h1
 clear h1
 have e0:Qb.val = .agg #[.bool Qb.mx,.string Qb.nm,.bool Qb.p,.slice Qb.a Qb.na Qb.ca,.slice Qb.d Qb.nd Qb.cd,.slice Qb.va Qb.vn Qb.vc,.slice Qb.ra Qb.rn Qb.rc]:=rfl
 rw [e0]
 clear e0
 have BQb:=aN w5 #[.bool Qb.mx,.string Qb.nm,.bool Qb.p,.slice Qb.a Qb.na Qb.ca,.slice Qb.d Qb.nd Qb.cd,.slice Qb.va Qb.vn Qb.vc,.slice Qb.ra Qb.rn Qb.rc] 31
 have x1:=aG w5 (.cells #[.bool Qb.mx,.string Qb.nm,.bool Qb.p,.slice Qb.a Qb.na Qb.ca,.slice Qb.d Qb.nd Qb.cd,.slice Qb.va Qb.vn Qb.vc,.slice Qb.ra Qb.rn Qb.rc] 31)
 obtain ⟨RB,hRB⟩:∃ R,R=w5.heap.size:=⟨_,rfl⟩
 rw [← hRB] at BQb
 replace hb:=aF hb x1
 replace Pb:=Pb.below x1
 replace hL:=hL.below x1
 replace Ho:=Ho.below x1
 replace Ha:=Ha.below x1
 replace ka:=ka.below x1
 replace BQa:=BQa.below x1
 replace Hb:=Hb.below x1
 replace kb:=kb.below x1
 have p0:=Pb 0 _ rfl
 have p1:=Pb 1 _ rfl
 have p2:=Pb 2 _ rfl
 have p3:=Pb 3 _ rfl
 have p4:=Pb 4 _ rfl
 have p5:=Pb 5 _ rfl
 have p6:=Pb 6 _ rfl
 have HT3:=tidyD P (w5.alloc (.cells #[.bool Qb.mx,.string Qb.nm,.bool Qb.p,.slice Qb.a Qb.na Qb.ca,.slice Qb.d Qb.nd Qb.cd,.slice Qb.va Qb.vn Qb.vc,.slice Qb.ra Qb.rn Qb.rc] 31)) (hP.below hb) hK
 go_wp2_with fail
 rw [← hRB]
 generalize w5.alloc (.cells #[.bool Qb.mx,.string Qb.nm,.bool Qb.p,.slice Qb.a Qb.na Qb.ca,.slice Qb.d Qb.nd Qb.cd,.slice Qb.va Qb.vn Qb.vc,.slice Qb.ra Qb.rn Qb.rc] 31)=W5 at *
 refine HT3.mono ?_
 clear HT3 x1 hRB
 clear p0 p1 p2 p3 p4 p5 p6
 rintro e w6 ⟨v,rfl,hTO,h1⟩
 obtain ⟨Qw,rfl,pw,tw,kw⟩:=hTO.prob hP hK
 clear hTO
 replace hb:=aF hb h1
 replace Pb:=Pb.below h1
 replace hL:=hL.below h1
 replace Ho:=Ho.below h1
 replace Ha:=Ha.below h1
 replace ka:=ka.below h1
 replace BQa:=BQa.below h1
 replace Hb:=Hb.below h1
 replace kb:=kb.below h1
 replace BQb:=BQb.below h1
 clear h1
 have e0:Qw.val = .agg #[.bool Qw.mx,.string Qw.nm,.bool Qw.p,.slice Qw.a Qw.na Qw.ca,.slice Qw.d Qw.nd Qw.cd,.slice Qw.va Qw.vn Qw.vc,.slice Qw.ra Qw.rn Qw.rc]:=rfl
 rw [e0]
 clear e0
 have BQw:=aN w6 #[.bool Qw.mx,.string Qw.nm,.bool Qw.p,.slice Qw.a Qw.na Qw.ca,.slice Qw.d Qw.nd Qw.cd,.slice Qw.va Qw.vn Qw.vc,.slice Qw.ra Qw.rn Qw.rc] 31
 have x1:=aG w6 (.cells #[.bool Qw.mx,.string Qw.nm,.bool Qw.p,.slice Qw.a Qw.na Qw.ca,.slice Qw.d Qw.nd Qw.cd,.slice Qw.va Qw.vn Qw.vc,.slice Qw.ra Qw.rn Qw.rc] 31)
 obtain ⟨RW,hRW⟩:∃ R,R=w6.heap.size:=⟨_,rfl⟩
 rw [← hRW] at BQw
 replace hb:=aF hb x1
 replace Pb:=Pb.below x1
 replace hL:=hL.below x1
 replace Ho:=Ho.below x1
 replace Ha:=Ha.below x1
 replace ka:=ka.below x1
 replace BQa:=BQa.below x1
 replace Hb:=Hb.below x1
 replace kb:=kb.below x1
 replace BQb:=BQb.below x1
 replace kw:=kw.below x1
 have a0:=BQa 0 _ rfl
 have a1:=BQa 1 _ rfl
 have a2:=BQa 2 _ rfl
 have a3:=BQa 3 _ rfl
 have a4:=BQa 4 _ rfl
 have a5:=BQa 5 _ rfl
 have a6:=BQa 6 _ rfl
 have y0:=BQw 0 _ rfl
 have y1:=BQw 1 _ rfl
 have y2:=BQw 2 _ rfl
 have y3:=BQw 3 _ rfl
 have y4:=BQw 4 _ rfl
 have y5:=BQw 5 _ rfl
 have y6:=BQw 6 _ rfl
 have HS1:=yV Qa Qw (w6.alloc (.cells #[.bool Qw.mx,.string Qw.nm,.bool Qw.p,.slice Qw.a Qw.na Qw.ca,.slice Qw.d Qw.nd Qw.cd,.slice Qw.va Qw.vn Qw.vc,.slice Qw.ra Qw.rn Qw.rc] 31)) (ka.sam2 ta kw tw hP hK)
 rw [hRW] at y0 y1 y2 y3 y4 y5 y6
 go_wp2_with fail
 rw [← hRW]
 generalize w6.alloc (.cells #[.bool Qw.mx,.string Qw.nm,.bool Qw.p,.slice Qw.a Qw.na Qw.ca,.slice Qw.d Qw.nd Qw.cd,.slice Qw.va Qw.vn Qw.vc,.slice Qw.ra Qw.rn Qw.rc] 31)=W6 at *
 refine HS1.mono ?_
 clear HS1 x1 hRW
 clear a0 a1 a2 a3 a4 a5 a6 y0 y1 y2 y3 y4 y5 y6
 rintro e w7 ⟨rfl,h1⟩
 replace hb:=aF hb h1
 replace Pb:=Pb.below h1
 replace hL:=hL.below h1
 replace Ho:=Ho.below h1
 replace Ha:=Ha.below h1
 replace ka:=ka.below h1
 replace BQa:=BQa.below h1
 replace Hb:=Hb.below h1
 replace kb:=kb.below h1
 replace BQb:=BQb.below h1
 replace kw:=kw.below h1
 replace BQw:=BQw.below h1
 clear h1
 have a0:=BQb 0 _ rfl
 have a1:=BQb 1 _ rfl
 have a2:=BQb 2 _ rfl
 have a3:=BQb 3 _ rfl
 have a4:=BQb 4 _ rfl
 have a5:=BQb 5 _ rfl
 have a6:=BQb 6 _ rfl
 have y0:=BQw 0 _ rfl
 have y1:=BQw 1 _ rfl
 have y2:=BQw 2 _ rfl
 have y3:=BQw 3 _ rfl
 have y4:=BQw 4 _ rfl
 have y5:=BQw 5 _ rfl
 have y6:=BQw 6 _ rfl
 have HS2:=yV Qb Qw w7 (kb.sam2 tb kw tw hP hK)
 go_wp2_with fail
 refine HS2.mono ?_
 clear HS2
 clear a0 a1 a2 a3 a4 a5 a6 y0 y1 y2 y3 y4 y5 y6
 rintro e w8 ⟨rfl,h1⟩
 replace hb:=aF hb h1
 replace Pb:=Pb.below h1
 replace hL:=hL.below h1
 replace Ho:=Ho.below h1
 replace Ha:=Ha.below h1
 replace ka:=ka.below h1
 replace BQa:=BQa.below h1
 replace Hb:=Hb.below h1
 replace kb:=kb.below h1
 replace BQb:=BQb.below h1
 replace kw:=kw.below h1
 replace BQw:=BQw.below h1
 clear h1
 go_wp2_with fail
 refine (kept7Q w8 hL hK).mono ?_
 rintro e w9 ⟨rfl,h1⟩
 replace hb:=aF hb h1
 replace Pb:=Pb.below h1
 replace hL:=hL.below h1
 replace Ho:=Ho.below h1
 replace Ha:=Ha.below h1
 replace ka:=ka.below h1
 replace BQa:=BQa.below h1
 replace Hb:=Hb.below h1
 replace kb:=kb.below h1
 replace BQb:=BQb.below h1
 replace kw:=kw.below h1
 replace BQw:=BQw.below h1
 clear h1 kw ka kb BQw
 go_wp2_with fail
 have a0:=BQa 0 _ rfl
 have a1:=BQa 1 _ rfl
 have a2:=BQa 2 _ rfl
 have a3:=BQa 3 _ rfl
 have a4:=BQa 4 _ rfl
 have a5:=BQa 5 _ rfl
 have a6:=BQa 6 _ rfl
 have y0:=BQb 0 _ rfl
 have y1:=BQb 1 _ rfl
 have y2:=BQb 2 _ rfl
 have y3:=BQb 3 _ rfl
 have y4:=BQb 4 _ rfl
 have y5:=BQb 5 _ rfl
 have y6:=BQb 6 _ rfl
 have c0:=hL.box 0 _ rfl
 have c1:=hL.box 1 _ rfl
 have c2:=hL.box 2 _ rfl
 have c3:=hL.box 3 _ rfl
 have c4:=hL.box 4 _ rfl
 have c5:=hL.box 5 _ rfl
 have c6:=hL.box 6 _ rfl
 have HBX:∀ w',Below w9.heap.size w9 w'→(w'.cell? ⟨RA,0,none⟩=some (.bool Qa.mx)∧w'.cell? ⟨RA,1,none⟩=some (.string Qa.nm)∧w'.cell? ⟨RA,2,none⟩=some (.bool Qa.p)∧w'.cell? ⟨RA,3,none⟩=some (.slice Qa.a Qa.na Qa.ca)∧w'.cell? ⟨RA,4,none⟩=some (.slice Qa.d Qa.nd Qa.cd)∧w'.cell? ⟨RA,5,none⟩=some (.slice Qa.va Qa.vn Qa.vc)∧w'.cell? ⟨RA,6,none⟩=some (.slice Qa.ra Qa.rn Qa.rc)∧w'.cell? ⟨RB,0,none⟩=some (.bool Qb.mx)∧w'.cell? ⟨RB,1,none⟩=some (.string Qb.nm)∧w'.cell? ⟨RB,2,none⟩=some (.bool Qb.p)∧w'.cell? ⟨RB,3,none⟩=some (.slice Qb.a Qb.na Qb.ca)∧w'.cell? ⟨RB,4,none⟩=some (.slice Qb.d Qb.nd Qb.cd)∧w'.cell? ⟨RB,5,none⟩=some (.slice Qb.va Qb.vn Qb.vc)∧w'.cell? ⟨RB,6,none⟩=some (.slice Qb.ra Qb.rn Qb.rc)∧w'.cell? ⟨R,0,none⟩=some (.bool Q.mx)∧w'.cell? ⟨R,1,none⟩=some (.string Q.nm)∧w'.cell? ⟨R,2,none⟩=some (.bool Q.p)∧w'.cell? ⟨R,3,none⟩=some (.slice Q.a Q.na Q.ca)∧w'.cell? ⟨R,4,none⟩=some (.slice Q.d Q.nd Q.cd)∧w'.cell? ⟨R,5,none⟩=some (.slice Q.va Q.vn Q.vc)∧w'.cell? ⟨R,6,none⟩=some (.slice Q.ra Q.rn Q.rc)):=fun w' h=>⟨aB h a0,aB h a1,aB h a2,aB h a3,aB h a4,aB h a5,aB h a6,aB h y0,aB h y1,aB h y2,aB h y3,aB h y4,aB h y5,aB h y6,aB h c0,aB h c1,aB h c2,aB h c3,aB h c4,aB h c5,aB h c6⟩
 have S3:∀ z:World,SL (z.alloc (.cells #[.bool Qa.mx,.string Qa.nm,.bool Qa.p,.slice Qa.a Qa.na Qa.ca,.slice Qa.d Qa.nd Qa.cd,.slice Qa.va Qa.vn Qa.vc,.slice Qa.ra Qa.rn Qa.rc,.bool Qb.mx,.string Qb.nm,.bool Qb.p,.slice Qb.a Qb.na Qb.ca,.slice Qb.d Qb.nd Qb.cd,.slice Qb.va Qb.vn Qb.vc,.slice Qb.ra Qb.rn Qb.rc,.bool Q.mx,.string Q.nm,.bool Q.p,.slice Q.a Q.na Q.ca,.slice Q.d Q.nd Q.cd,.slice Q.va Q.vn Q.vc,.slice Q.ra Q.rn Q.rc] 31)) z.heap.size 31 7 (.slice (some ⟨z.heap.size,0,none⟩) 3 3) 3 (fun i=>pcl (fD Qa Qb Q i)):=fun z=>(sl_tri (a:=pcl Qa) (b:=pcl Qb) (d:=pcl Q) rfl rfl rfl (Nat.le_refl _)).congr fun i hi=>by
  rcases (by omega:i=0∨i=1∨i=2) with rfl|rfl|rfl <;> rfl
 refine wp_region_noPanic (aU 6 HBX (by kernel_rfl) ?_)
 have hc0:Below w9.heap.size w9 w9.drew:=aS _
 generalize w9.drew=v0 at *
 refine wpAnyG.take 2 (v:=.pointer (some ⟨R,0,none⟩)) (by decide) (by kernel_rfl) (fun _ _ _ h=>h) 3 (fun _=>True) (by rfl) (aP (by decide) (by decide)) (fun _ _ _ _=>trivial) (by kernel_rfl) (by kernel_rfl) (by kernel_rfl) (by rfl) ?y2 ⟨fun _=>HBX _ hc0,fun _=>trivial⟩ (by rfl) ?_
 case y2 =>
  rintro w' -
  simp only [lgA,lgZ,lgS]
  go_simp
 simp only [lgA,lgZ,lgS,Act.put,lsA,lsZ,lsS]
 refine wpAnyG.take 3 (v:=.pointer (some ⟨R,0,none⟩)) (by decide) (by kernel_rfl) (fun _ _ _ h=>h) 4 (fun _=>True) (by rfl) (aP (by decide) (by decide)) (fun _ _ _ _=>trivial) (by kernel_rfl) (by kernel_rfl) (by kernel_rfl) (by rfl) ?y3 ⟨fun _=>HBX _ hc0,fun _=>trivial⟩ (by rfl) ?_
 case y3 =>
  rintro w' -
  simp only [lgA,lgZ,lgS]
  go_simp
 simp only [lgA,lgZ,lgS,Act.put,lsA,lsZ,lsS]
 refine wpAnyG.take 4 (v:=.pointer (some ⟨R,0,none⟩)) (by decide) (by kernel_rfl) (fun _ _ _ h=>h) 5 (fun _=>True) (by rfl) (aP (by decide) (by decide)) (fun _ _ _ _=>trivial) (by kernel_rfl) (by kernel_rfl) (by kernel_rfl) (by rfl) ?y4 ⟨fun _=>HBX _ hc0,fun _=>trivial⟩ (by rfl) ?_
 case y4 =>
  rintro w' -
  simp only [lgA,lgZ,lgS]
  go_simp
 simp only [lgA,lgZ,lgS,Act.put,lsA,lsZ,lsS]
 refine wpAnyG.tT 0 (v:=.agg #[.bool Qa.mx,.string Qa.nm,.bool Qa.p,.slice Qa.a Qa.na Qa.ca,.slice Qa.d Qa.nd Qa.cd,.slice Qa.va Qa.vn Qa.vc,.slice Qa.ra Qa.rn Qa.rc]) (by decide) 6 (by kernel_rfl) (by rfl) ?y0 (HBX _ hc0) ?_
 case y0 =>
  rintro w' ⟨f0,f1,f2,f3,f4,f5,f6,f7,f8,f9,f10,f11,f12,f13,f14,f15,f16,f17,f18,f19,f20⟩
  simp only [lgA,lgZ]
  go_simp
 simp only [lgA,lgZ,Act.put,lsA,lsZ,lsS]
 refine wpAnyG.tT 1 (v:=.agg #[.bool Qb.mx,.string Qb.nm,.bool Qb.p,.slice Qb.a Qb.na Qb.ca,.slice Qb.d Qb.nd Qb.cd,.slice Qb.va Qb.vn Qb.vc,.slice Qb.ra Qb.rn Qb.rc]) (by decide) 6 (by kernel_rfl) (by rfl) ?y1 (HBX _ hc0) ?_
 case y1 =>
  rintro w' ⟨f0,f1,f2,f3,f4,f5,f6,f7,f8,f9,f10,f11,f12,f13,f14,f15,f16,f17,f18,f19,f20⟩
  simp only [lgA,lgZ,lgS]
  go_simp
 simp only [lgA,lgZ,lgS,Act.put,lsA,lsZ,lsS]
 refine wpAnyG.tT 5 (v:=.agg #[.bool Q.mx,.string Q.nm,.bool Q.p,.slice Q.a Q.na Q.ca,.slice Q.d Q.nd Q.cd,.slice Q.va Q.vn Q.vc,.slice Q.ra Q.rn Q.rc]) (by decide) 6 (by kernel_rfl) (by rfl) ?y5 (HBX _ hc0) ?_
 case y5 =>
  rintro w' ⟨f0,f1,f2,f3,f4,f5,f6,f7,f8,f9,f10,f11,f12,f13,f14,f15,f16,f17,f18,f19,f20⟩
  simp only [lgA,lgZ,lgS]
  go_simp
 simp only [lgA,lgZ,lgS,Act.put,lsA,lsZ,lsS]
 refine wpAnyG.one 6 (by kernel_rfl) (by decide) (by rfl) (fun K hK=>?_)
 simp only [lgA,lgZ,lgS]
 go_simp
 refine hK _ _ ⟨fun h=>absurd h (by decide),fun _=>trivial⟩ ?_
 have hz1:=aG v0 (.cells #[.bool Qa.mx,.string Qa.nm,.bool Qa.p,.slice Qa.a Qa.na Qa.ca,.slice Qa.d Qa.nd Qa.cd,.slice Qa.va Qa.vn Qa.vc,.slice Qa.ra Qa.rn Qa.rc,.bool Qb.mx,.string Qb.nm,.bool Qb.p,.slice Qb.a Qb.na Qb.ca,.slice Qb.d Qb.nd Qb.cd,.slice Qb.va Qb.vn Qb.vc,.slice Qb.ra Qb.rn Qb.rc,.bool Q.mx,.string Q.nm,.bool Q.p,.slice Q.a Q.na Q.ca,.slice Q.d Q.nd Q.cd,.slice Q.va Q.vn Q.vc,.slice Q.ra Q.rn Q.rc] 31)
 have S4:=S3 v0
 have hv0:=hc0.size
 have hv1:=hz1.size
 have hbv:=aF hb hc0
 have hbz:=hbv.size
 have HAP:=apart3 (B:=w.heap.size) (C:=v0.heap.size) (w:=v0.alloc (.cells #[.bool Qa.mx,.string Qa.nm,.bool Qa.p,.slice Qa.a Qa.na Qa.ca,.slice Qa.d Qa.nd Qa.cd,.slice Qa.va Qa.vn Qa.vc,.slice Qa.ra Qa.rn Qa.rc,.bool Qb.mx,.string Qb.nm,.bool Qb.p,.slice Qb.a Qb.na Qb.ca,.slice Qb.d Qb.nd Qb.cd,.slice Qb.va Qb.vn Qb.vc,.slice Qb.ra Qb.rn Qb.rc,.bool Q.mx,.string Q.nm,.bool Q.p,.slice Q.a Q.na Q.ca,.slice Q.d Q.nd Q.cd,.slice Q.va Q.vn Q.vc,.slice Q.ra Q.rn Q.rc] 31)) hbz hv1 S4 ((Ha.below hc0).below hz1) Sa ((Hb.below hc0).below hz1) Sb ((Ho.below hc0).below hz1) So hRr hBa hBb hBb2 hBa2 hBb3
 have hb10:=aF hbv hz1
 clear S4 S3 hz1 hbv hbz hv0 hv1 Ha Hb Ho
 generalize v0.alloc (.cells #[.bool Qa.mx,.string Qa.nm,.bool Qa.p,.slice Qa.a Qa.na Qa.ca,.slice Qa.d Qa.nd Qa.cd,.slice Qa.va Qa.vn Qa.vc,.slice Qa.ra Qa.rn Qa.rc,.bool Qb.mx,.string Qb.nm,.bool Qb.p,.slice Qb.a Qb.na Qb.ca,.slice Qb.d Qb.nd Qb.cd,.slice Qb.va Qb.vn Qb.vc,.slice Qb.ra Qb.rn Qb.rc,.bool Q.mx,.string Q.nm,.bool Q.p,.slice Q.a Q.na Q.ca,.slice Q.d Q.nd Q.cd,.slice Q.va Q.vn Q.vc,.slice Q.ra Q.rn Q.rc] 31)=v1 at *
 clear hK K
 refine wpAnyG.one 7 (by kernel_rfl) (by decide) (by rfl) (fun K hK=>?_)
 simp only [lgA,lgZ,lgS]
 go_simp
 refine HAP.mono ?_
 rintro e v2 ⟨rfl,h1⟩
 have hfin:Below w.heap.size w v2:=hb10.trans h1
 clear h1 HAP hb10
 dsimp only
 refine hK _ _ ⟨fun h=>absurd h (by decide),fun _=>trivial⟩ ?_
 clear hK K
 refine wpAnyG.one 8 (by kernel_rfl) (by decide) (by rfl) (fun K hK=>?_)
 simp only [lgA,lgZ,lgS]
 go_simp
 refine hK _ _ ⟨fun h=>absurd h (by decide),fun _=>trivial⟩ ?_
 clear hK K
 refine wpAnyG.done (by kernel_rfl) (NoPanic.normal ?_)
 clear HBX a0 a1 a2 a3 a4 a5 a6 y0 y1 y2 y3 y4 y5 y6 c0 c1 c2 c3 c4 c5 c6
 go_wp2
 go_ret
 exact ⟨rfl,hfin⟩
end Go.Proofs.YtdcocflnafcikaaGreatDoor

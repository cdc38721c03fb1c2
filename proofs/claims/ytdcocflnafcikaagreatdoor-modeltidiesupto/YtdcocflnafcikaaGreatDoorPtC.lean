import Derived.Test.YtdcocflnafcikaaGreatDoorPtB
namespace Go.Proofs.YtdcocflnafcikaaGreatDoor
open Go.RowKit
theorem Lnt.reads3 {w:World} {r gf cf gw cw n:Nat} {xs:List Int} (h:Lnt w r gf cf gw cw n (bQ xs) (bQ xs)):xs.length≤cf∧Reads w (some ⟨gf,0,none⟩) xs:=by
 have h1:=h.rf.take xs.length
 have e:(bQ xs).take xs.length=xs:=by unfold bQ;rw [List.take_append_of_le_length (Nat.le_refl _),List.take_length]
 rw [e] at h1
 exact ⟨h1.le,h1.reads⟩
theorem LJ.list {w:World} {R n:Nat} {F:Nat→Fr} {A:Nat→Bk} {va vn vd vg:Value} (h:LJ w R n (n+3) n n n n F A va vn vd vg) :
 ∃ g cap,va = .slice (some ⟨g,0,none⟩) (n+3) cap∧n+3≤cap∧R<g∧(∀ i,i<n→F3 w g (i*3) (F i))∧(∀ j,j<3→w.cell? ⟨g,(n+j)*3,none⟩=some (.bool true)∧w.cell? ⟨g,(n+j)*3+1,none⟩=some (.slice none 0 0)∧w.cell? ⟨g,(n+j)*3+2,none⟩=some (.slice none 0 0)):=by
 obtain ⟨a,cap,rfl,hc⟩:=h.sa.form
 rcases h.sa.cell with h0|⟨g,rfl,hcell⟩
 ·omega
 refine ⟨g,cap,rfl,hc,by have:=(h.sa.lt g rfl).1;omega,fun i hi=>?_,fun j hj=>?_⟩
 ·have k:=hcell i (by omega)
  simp only [hi,if_true] at k
  have r1:=(h.ln i hi).reads3
  have r2:=(h.ld i hi).reads3
  exact ⟨_,_,_,_,k 0 _ rfl,k 1 _ rfl,k 2 _ rfl,r1.1,r2.1,r1.2,r2.2⟩
 ·have k:=hcell (n+j) (by omega)
  have hx:¬ n+j<n:=by omega
  simp only [hx,if_false] at k
  exact ⟨k 0 _ rfl,k 1 _ rfl,k 2 _ rfl⟩
theorem list3Q (w:World) {R n:Nat} {F:Nat→Fr} {A:Nat→Bk} {g cap:Nat} {vn vd vg:Value} (h:LJ w R n (n+3) n n n n F A (.slice (some ⟨g,0,none⟩) (n+3) cap) vn vd vg) (hc:n+3≤cap) :
 Calls Tryz.prog 15 #[.pointer (some ⟨R,0,none⟩)] w fun e w'=>e = .returned (.slice (some ⟨g,0,none⟩) n cap)∧Below w.heap.size w w':=by
 have c0:=(h.row.cell 0).trans (show _=some (.slice (some ⟨g,0,none⟩) (n+3) cap) from rfl)
 have c4:=(h.row.cell 4).trans (show _=some (.int .i64 n) from rfl)
 have h1:(0:Int)≤(n:Int):=by omega
 have h2:(n:Int)≤(cap:Int):=by omega
 clear h
 go_enter Tryz.func15,Tryz.ntmps15
 go_wp2
 go_quiet (fail)
 go_wp2
 go_ret
 exact ⟨rfl,dB (Below.refl _ _) nq⟩
set_option maxRecDepth 100000 in
set_option maxHeartbeats 8000000 in
theorem kept3Q (w:World) {R n:Nat} {F:Nat→Fr} {A:Nat→Bk} {va vn vd vg:Value} (hJ:LJ w R n (n+3) n n n n F A va vn vd vg) (hn:n≤100000000) (hF:∀ i,i<n→(F i).xs.length≤2000000∧(F i).ys.length≤2000000) :
 Calls Tryz.prog 21 #[.pointer (some ⟨R,0,none⟩)] w fun e w'=>e = .returned (.bool true)∧Below w.heap.size w w':=by
 obtain ⟨g,cap,rfl,hcap,_,hf3,hmk⟩:=hJ.list
 have c0:=(hJ.row.cell 0).trans (show _=some (.slice (some ⟨g,0,none⟩) (n+3) cap) from rfl)
 have c4:=(hJ.row.cell 4).trans (show _=some (.int .i64 n) from rfl)
 obtain ⟨na,nc,rfl,hnc⟩:=hJ.sn.form
 obtain ⟨da,dc,rfl,hdc⟩:=hJ.sd.form
 obtain ⟨ga,gc,rfl,hgc⟩:=hJ.sg.form
 have c1:=(hJ.row.cell 1).trans (show _=some (.slice na n nc) from rfl)
 have c2:=(hJ.row.cell 2).trans (show _=some (.slice da n dc) from rfl)
 have c3:=(hJ.row.cell 3).trans (show _=some (.slice ga n gc) from rfl)
 have LN:=hJ.ln
 have LD:=hJ.ld
 have SN:=hJ.sn.cell
 have SD:=hJ.sd.cell
 have SG:=hJ.sg.cell
 clear hJ
 go_enter Tryz.func21,Tryz.ntmps21
 go_wp2
 go_loopw [3] (fun s3 wr=>∃ (i:Nat),i≤n∧s3 = .int .i64 i∧Below w.heap.size w wr) (fun s3 _=>n-(intOf s3).toNat)
 case atStart=>exact ⟨0,Nat.zero_le _,rfl,Below.refl _ _⟩
 case round =>
  obtain ⟨i,hi,rfl,hB⟩:=hrel
  have k4:=aB hB c4
  by_cases hlt:i<n
  ·have hkI:(i:Int)<(n:Int):=by omega
   have hkJ:(i:Int)<(n:Int)+3:=by omega
   have hkI3:(i:Int)*3=((i*3:Nat):Int):=by omega
   rcases SN with h0|⟨gn,rfl,hsn⟩
   ·omega
   rcases SD with h0|⟨gd,rfl,hsd⟩
   ·omega
   rcases SG with h0|⟨gg,rfl,hsg⟩
   ·omega
   have x1:=hsn i hlt 0 _ rfl
   have x2:=hsd i hlt 0 _ rfl
   have x3:=hsg i hlt 0 _ rfl
   rw [Nat.mul_one,Nat.add_zero] at x1 x2 x3
   obtain ⟨_,_,_,_,x0,_⟩:=hf3 i hlt
   obtain ⟨rn,ern⟩:∃ rn,rn=(A i).rn:=⟨_,rfl⟩
   obtain ⟨rd,erd⟩:∃ rd,rd=(A i).rd:=⟨_,rfl⟩
   obtain ⟨p,ep⟩:∃ p,p=(F i).p:=⟨_,rfl⟩
   have hn1:=LN i hlt
   have hd1:=LD i hlt
   rw [← ern] at x1 hn1
   rw [← erd] at x2 hd1
   rw [← ep] at x3 x0
   clear ern erd ep hsn hsd hsg LN LD hf3 hmk
   have k1:=aB hB c1
   have y1:=aB hB x1
   have HN:=wW wr _ _ _ _ _ _ _ _ (hn1.below hB) (by rw [jK];have:=(hF i hlt).1;omega) rfl
   go_wp2_with fail
   refine HN.mono ?_
   rintro e w1 ⟨rfl,m1,rfl⟩
   have h1:Below wr.heap.size wr (wr.drewN m1):=dB (Below.refl _ _) m1
   replace hB:=aF hB h1
   clear HN k1 y1 hn1 h1
   generalize wr.drewN m1=w1 at *
   have k2:=aB hB c2
   have y2:=aB hB x2
   have HD:=wW w1 _ _ _ _ _ _ _ _ (hd1.below hB) (by rw [jK];have:=(hF i hlt).2;omega) rfl
   go_wp2_with fail
   refine HD.mono ?_
   rintro e w2 ⟨rfl,m2,rfl⟩
   have h2:Below w1.heap.size w1 (w1.drewN m2):=dB (Below.refl _ _) m2
   replace hB:=aF hB h2
   clear HD k2 y2 hd1 h2
   generalize w1.drewN m2=w2 at *
   have k0:=aB hB c0
   have k3:=aB hB c3
   have y0:=aB hB x0
   have y3:=aB hB x3
   go_wp2_with fail
   have HBX:∀ w',Below w2.heap.size w2 w'→(w'.cell? ⟨R,0,none⟩=some (.slice (some ⟨g,0,none⟩) (n+3) cap)∧w'.cell? ⟨R,3,none⟩=some (.slice (some ⟨gg,0,none⟩) n gc)∧w'.cell? ⟨g,i*3,none⟩=some (.bool p)∧w'.cell? ⟨gg,i,none⟩=some (.bool p)):=fun w' h=>⟨aB h k0,aB h k3,aB h y0,aB h y3⟩
   refine wp_region_noPanic (aT HBX (by kernel_rfl) ?_)
   have hc0:Below w2.heap.size w2 w2.drew:=aS _
   generalize w2.drew=z0 at *
   refine wpAnyG.tA 0 (v:=.bool true) (by decide) 1 (by kernel_rfl) (by rfl) ?y0 (HBX _ hc0) ?_
   case y0 =>
    rintro w' ⟨q0,q1,q2,q3⟩
    simp only [lgA,lgZ]
    go_simp
   simp only [lgA,lgZ,Act.put,lsA,lsZ,lsS]
   refine wpAnyG.tA 1 (v:=.bool false) (by decide) 2 (by kernel_rfl) (by rfl) ?y1 (HBX _ hc0) ?_
   case y1 =>
    rintro w' ⟨q0,q1,q2,q3⟩
    simp only [lgA,lgZ,lgS]
    go_simp
   simp only [lgA,lgZ,lgS,Act.put,lsA,lsZ,lsS]
   refine wpAnyG.tA 2 (v:=.bool false) (by decide) 6 (by kernel_rfl) (by rfl) ?y2 (HBX _ hc0) ?_
   case y2 =>
    rintro w' ⟨q0,q1,q2,q3⟩
    simp only [lgA,lgZ,lgS]
    go_simp
   simp only [lgA,lgZ,lgS,Act.put,lsA,lsZ,lsS]
   refine wpAnyG.tA 3 (v:=.bool true) (by decide) 4 (by kernel_rfl) (by rfl) ?y3 (HBX _ hc0) ?_
   case y3 =>
    rintro w' ⟨q0,q1,q2,q3⟩
    simp only [lgA,lgZ,lgS]
    go_simp
   simp only [lgA,lgZ,lgS,Act.put,lsA,lsZ,lsS]
   refine wpAnyG.tA 4 (v:=.bool false) (by decide) 5 (by kernel_rfl) (by rfl) ?y4 (HBX _ hc0) ?_
   case y4 =>
    rintro w' ⟨q0,q1,q2,q3⟩
    simp only [lgA,lgZ,lgS]
    go_simp
   simp only [lgA,lgZ,lgS,Act.put,lsA,lsZ,lsS]
   refine wpAnyG.tA 5 (v:=.bool false) (by decide) 6 (by kernel_rfl) (by rfl) ?y5 (HBX _ hc0) ?_
   case y5 =>
    rintro w' ⟨q0,q1,q2,q3⟩
    simp only [lgA,lgZ,lgS]
    go_simp
   simp only [lgA,lgZ,lgS,Act.put,lsA,lsZ,lsS]
   refine wpAnyG.tA 6 (v:=.bool false) (by decide) 24 (by kernel_rfl) (by rfl) ?y6 (HBX _ hc0) ?_
   case y6 =>
    rintro w' ⟨q0,q1,q2,q3⟩
    simp only [lgA,lgZ,lgS]
    go_simp
   simp only [lgA,lgZ,lgS,Act.put,lsA,lsZ,lsS]
   refine wpAnyG.tA 7 (v:=.pointer (some ⟨R,0,none⟩)) (by decide) 8 (by kernel_rfl) (by rfl) ?y7 (HBX _ hc0) ?_
   case y7 =>
    rintro w' ⟨q0,q1,q2,q3⟩
    simp only [lgA,lgZ,lgS]
    go_simp
   simp only [lgA,lgZ,lgS,Act.put,lsA,lsZ,lsS]
   refine wpAnyG.tA 8 (v:=.pointer (some ⟨R,0,none⟩)) (by decide) 9 (by kernel_rfl) (by rfl) ?y8 (HBX _ hc0) ?_
   case y8 =>
    rintro w' ⟨q0,q1,q2,q3⟩
    simp only [lgA,lgZ,lgS]
    go_simp
   simp only [lgA,lgZ,lgS,Act.put,lsA,lsZ,lsS]
   refine wpAnyG.tA 9 (v:=.pointer (some ⟨R,0,none⟩)) (by decide) 10 (by kernel_rfl) (by rfl) ?y9 (HBX _ hc0) ?_
   case y9 =>
    rintro w' ⟨q0,q1,q2,q3⟩
    simp only [lgA,lgZ,lgS]
    go_simp
   simp only [lgA,lgZ,lgS,Act.put,lsA,lsZ,lsS]
   refine wpAnyG.tA 10 (v:=.slice (some ⟨g,0,none⟩) (n+3) cap) (by decide) 12 (by kernel_rfl) (by rfl) ?y10 (HBX _ hc0) ?_
   case y10 =>
    rintro w' ⟨q0,q1,q2,q3⟩
    simp only [lgA,lgZ,lgS]
    go_simp
   simp only [lgA,lgZ,lgS,Act.put,lsA,lsZ,lsS]
   refine wpAnyG.tA 11 (v:=.int .i64 (i:Int)) (by decide) 12 (by kernel_rfl) (by rfl) ?y11 (HBX _ hc0) ?_
   case y11 =>
    rintro w' ⟨q0,q1,q2,q3⟩
    simp only [lgA,lgZ,lgS]
    go_simp
   simp only [lgA,lgZ,lgS,Act.put,lsA,lsZ,lsS]
   refine wpAnyG.tA 12 (v:=.pointer (some ⟨g,i*3,none⟩)) (by decide) 13 (by kernel_rfl) (by rfl) ?y12 (HBX _ hc0) ?_
   case y12 =>
    rintro w' ⟨q0,q1,q2,q3⟩
    simp only [lgA,lgZ,lgS]
    go_simp
   simp only [lgA,lgZ,lgS,Act.put,lsA,lsZ,lsS]
   refine wpAnyG.tA 13 (v:=.pointer (some ⟨g,i*3,none⟩)) (by decide) 14 (by kernel_rfl) (by rfl) ?y13 (HBX _ hc0) ?_
   case y13 =>
    rintro w' ⟨q0,q1,q2,q3⟩
    simp only [lgA,lgZ,lgS]
    go_simp
   simp only [lgA,lgZ,lgS,Act.put,lsA,lsZ,lsS]
   refine wpAnyG.tA 14 (v:=.pointer (some ⟨g,i*3,none⟩)) (by decide) 15 (by kernel_rfl) (by rfl) ?y14 (HBX _ hc0) ?_
   case y14 =>
    rintro w' ⟨q0,q1,q2,q3⟩
    simp only [lgA,lgZ,lgS]
    go_simp
   simp only [lgA,lgZ,lgS,Act.put,lsA,lsZ,lsS]
   refine wpAnyG.tA 15 (v:=.bool p) (by decide) 23 (by kernel_rfl) (by rfl) ?y15 (HBX _ hc0) ?_
   case y15 =>
    rintro w' ⟨q0,q1,q2,q3⟩
    simp only [lgA,lgZ,lgS]
    go_simp
   simp only [lgA,lgZ,lgS,Act.put,lsA,lsZ,lsS]
   refine wpAnyG.tA 16 (v:=.pointer (some ⟨R,0,none⟩)) (by decide) 17 (by kernel_rfl) (by rfl) ?y16 (HBX _ hc0) ?_
   case y16 =>
    rintro w' ⟨q0,q1,q2,q3⟩
    simp only [lgA,lgZ,lgS]
    go_simp
   simp only [lgA,lgZ,lgS,Act.put,lsA,lsZ,lsS]
   refine wpAnyG.tA 17 (v:=.pointer (some ⟨R,0,none⟩)) (by decide) 18 (by kernel_rfl) (by rfl) ?y17 (HBX _ hc0) ?_
   case y17 =>
    rintro w' ⟨q0,q1,q2,q3⟩
    simp only [lgA,lgZ,lgS]
    go_simp
   simp only [lgA,lgZ,lgS,Act.put,lsA,lsZ,lsS]
   refine wpAnyG.tA 18 (v:=.pointer (some ⟨R,3,none⟩)) (by decide) 19 (by kernel_rfl) (by rfl) ?y18 (HBX _ hc0) ?_
   case y18 =>
    rintro w' ⟨q0,q1,q2,q3⟩
    simp only [lgA,lgZ,lgS]
    go_simp
   simp only [lgA,lgZ,lgS,Act.put,lsA,lsZ,lsS]
   refine wpAnyG.tA 19 (v:=.slice (some ⟨gg,0,none⟩) n gc) (by decide) 21 (by kernel_rfl) (by rfl) ?y19 (HBX _ hc0) ?_
   case y19 =>
    rintro w' ⟨q0,q1,q2,q3⟩
    simp only [lgA,lgZ,lgS]
    go_simp
   simp only [lgA,lgZ,lgS,Act.put,lsA,lsZ,lsS]
   refine wpAnyG.tA 20 (v:=.int .i64 (i:Int)) (by decide) 21 (by kernel_rfl) (by rfl) ?y20 (HBX _ hc0) ?_
   case y20 =>
    rintro w' ⟨q0,q1,q2,q3⟩
    simp only [lgA,lgZ,lgS]
    go_simp
   simp only [lgA,lgZ,lgS,Act.put,lsA,lsZ,lsS]
   refine wpAnyG.tA 21 (v:=.pointer (some ⟨gg,i,none⟩)) (by decide) 22 (by kernel_rfl) (by rfl) ?y21 (HBX _ hc0) ?_
   case y21 =>
    rintro w' ⟨q0,q1,q2,q3⟩
    simp only [lgA,lgZ,lgS]
    go_simp
   simp only [lgA,lgZ,lgS,Act.put,lsA,lsZ,lsS]
   refine wpAnyG.tA 22 (v:=.bool p) (by decide) 23 (by kernel_rfl) (by rfl) ?y22 (HBX _ hc0) ?_
   case y22 =>
    rintro w' ⟨q0,q1,q2,q3⟩
    simp only [lgA,lgZ,lgS]
    go_simp
   simp only [lgA,lgZ,lgS,Act.put,lsA,lsZ,lsS]
   refine wpAnyG.tA 23 (v:=.bool false) (by decide) 24 (by kernel_rfl) (by rfl) ?y23 (HBX _ hc0) ?_
   case y23 =>
    rintro w' ⟨q0,q1,q2,q3⟩
    simp only [lgA,lgZ,lgS]
    go_simp
   simp only [lgA,lgZ,lgS,Act.put,lsA,lsZ,lsS]
   refine wpAnyG.one 24 (by kernel_rfl) (by decide) (by rfl) (fun K hK=>?_)
   simp only [lgA,lgZ,lgS]
   go_simp
   refine hK _ _ (HBX _ hc0) ?_
   clear hK K
   refine wpAnyG.done (by kernel_rfl) (NoPanic.normal ?_)
   replace hB:=aF hB hc0
   clear HBX
   go_wp2
   go_roundw
   case rel=>first|exact ⟨i+1,by omega,by go_num,hB⟩|((repeat apply Exists.intro);refine ⟨?_,rfl⟩;exact ⟨i+1,by omega,by go_num,hB⟩)
   case measure=>simp [intOf];omega
  ·have hkI:¬ (i:Int)<(n:Int):=by omega
   clear hlt SN SD SG LN LD hf3 hF c1 c2 c3
   go_wp2
   generalize wr=wA at *
   go_loopw [6] (fun s6 wr=>∃ (j:Nat),j≤3∧s6 = .int .i64 ((n+j:Nat):Int)∧Below w.heap.size w wr) (fun s6 _=>n+3-(intOf s6).toNat)
   case atStart=>exact ⟨0,by omega,rfl,hB⟩
   case round =>
    clear hB k4
    obtain ⟨j,hj,rfl,hB⟩:=hrel
    have k4:=aB hB c4
    have k0:=aB hB c0
    by_cases hlt:j<3
    ·have hkJ:((n+j:Nat):Int)<(n:Int)+3:=by omega
     have hkI3:((n+j:Nat):Int)*3=(((n+j)*3:Nat):Int):=by omega
     obtain ⟨x0,x1,x2⟩:=hmk j hlt
     replace x0:=aB hB x0
     replace x1:=aB hB x1
     replace x2:=aB hB x2
     obtain ⟨q,eq⟩:∃ q,q=n+j:=⟨_,rfl⟩
     rw [← eq] at hkJ hkI3 x0 x1 x2 ⊢
     have hq:q+1=n+(j+1):=by omega
     have N:=aN wr #[.bool true,.slice none 0 0,.slice none 0 0] 27
     have n0:=N 0 _ rfl
     have n1:=N 1 _ rfl
     have n2:=N 2 _ rfl
     replace hB:=aF hB (aG wr (.cells #[.bool true,.slice none 0 0,.slice none 0 0] 27))
     clear N hmk
     have HQ:Hid (q=n+j):=eq
     clear eq hq
     go_wp2
     go_roundw
     case rel=>first|exact ⟨j+1,by omega,by rw [HQ.out];go_num,hB⟩|((repeat apply Exists.intro);refine ⟨?_,rfl⟩;exact ⟨j+1,by omega,by rw [HQ.out];go_num,hB⟩)
     case measure=>have:=HQ.out;simp [intOf];omega
    ·have hkJ:¬ ((n+j:Nat):Int)<(n:Int)+3:=by omega
     go_wp2
     go_ret
     exact ⟨rfl,hB⟩
end Go.Proofs.YtdcocflnafcikaaGreatDoor

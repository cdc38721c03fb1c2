import Derived.Test.YtdcocflnafcikaaGreatDoorApVAll
namespace Go.Proofs.YtdcocflnafcikaaGreatDoor
open Go.RowKit
theorem LJ.start (w:World) (n:Nat) (F:Nat→Fr) (A:Nat→Bk):LJ (w.alloc (.cells #[.slice none 0 0,.slice none 0 0,.slice none 0 0,.slice none 0 0,.int .i64 n] 93)) w.heap.size n 0 0 0 0 0 F A (.slice none 0 0) (.slice none 0 0) (.slice none 0 0) (.slice none 0 0) :=
 ⟨Rw.new _ _ _,SL.nil _ _ _ _ _,SL.nil _ _ _ _ _,SL.nil _ _ _ _ _,SL.nil _ _ _ _ _,fun i hi=>by omega,fun i hi=>by omega,fun i hi=>by omega,fun _=>rfl,fun _=>rfl,fun _=>rfl,fun _=>rfl,⟨by omega,by omega⟩,fun i hi=>by omega⟩
theorem LJ.size {w:World} {R n ka kn kd kg km:Nat} {F:Nat→Fr} {A:Nat→Bk} {va vn vd vg:Value} (h:LJ w R n ka kn kd kg km F A va vn vd vg):R+1≤w.heap.size:=h.row.lt
theorem iD {w0 w w1 w2:World} {B:Nat} (hB:Below B w0 w) (hb:Below w.heap.size w w1) {row:Option Nat} (hg:w1.grownBy w2 row) (hr:∀ g,row=some g→B≤g) (hs:B≤w.heap.size) {R:Nat} (hR:B≤R) (i:Nat) (x:Value):Below B w0 (w2.setCell ⟨R,i,none⟩ x) :=
 ((hB.trans (hb.mono hs)).trans (grown_below hg (Nat.le_trans hs hb.size) hr)).trans (((Off.refl R w2).set i x).below hR)
set_option maxRecDepth 100000 in
set_option maxHeartbeats 8000000 in
theorem lend3Q (a:Option Addr) (n cap:Nat) (F:Nat→Fr) (w:World) (hL:LF w a n F) (hn:n≤100000000) (hF:∀ i,i<n→(F i).xs.length≤2000000∧(F i).ys.length≤2000000) :
 Calls Tryz.prog 13 #[.slice a n cap] w fun e w'=>∃ A va vn vd vg,e = .returned (.pointer (some ⟨w.heap.size,0,none⟩))∧LJ w' w.heap.size n (n+3) n n n n F A va vn vd vg∧Below w.heap.size w w':=by
 have J0:=LJ.start w n F (fun _=>⟨0,0,0,0,0,0,0,0,0,0⟩)
 have b0:=aG w (.cells #[.slice none 0 0,.slice none 0 0,.slice none 0 0,.slice none 0 0,.int .i64 n] 93)
 go_enter Tryz.func13,Tryz.ntmps13
 go_wp2
 generalize w.alloc (.cells #[.slice none 0 0,.slice none 0 0,.slice none 0 0,.slice none 0 0,.int .i64 n] 93)=W at *
 go_loopw [4] (fun s4 wr=>∃ (i:Nat) (A:Nat→Bk) (va vn vd vg:Value),i≤n∧s4 = .int .i64 i∧LJ wr w.heap.size n i i i i i F A va vn vd vg∧Below w.heap.size w wr) (fun s4 _=>n-(intOf s4).toNat)
 case atStart=>exact ⟨0,_,_,_,_,_,Nat.zero_le _,rfl,J0,b0⟩
 case round =>
  clear J0 b0
  obtain ⟨i,A,va,vn,vd,vg,hi,rfl,hJ,hB⟩:=hrel
  have hRs:=hJ.size
  by_cases hlt:i<n
  ·have hkI:(i:Int)<(n:Int):=by omega
   have hkI3:(i:Int)*3=((i*3:Nat):Int):=by omega
   rcases hL with h0|⟨b,o,rfl,hel⟩
   ·omega
   have hbw:b<w.heap.size:=by
    obtain ⟨_,_,_,_,c0,_⟩:=hel i hlt
    exact World.block_lt_of_cell? w _ c0
   obtain ⟨a1,ca,d1,cd,c0,c1,c2,l1,l2,R1,R2⟩:=(hel i hlt).below hB
   obtain ⟨f1,f2⟩:=hF i hlt
   obtain ⟨p,ep⟩:∃ p,p=(F i).p:=⟨_,rfl⟩
   obtain ⟨xs,exs⟩:∃ xs,xs=(F i).xs:=⟨_,rfl⟩
   obtain ⟨ys,eys⟩:∃ ys,ys=(F i).ys:=⟨_,rfl⟩
   rw [← exs] at c1 l1 R1 f1
   rw [← eys] at c2 l2 R2 f2
   rw [← ep] at c0
   have EP:Hid (p=(F i).p∧xs=(F i).xs∧ys=(F i).ys):=⟨ep,exs,eys⟩
   clear ep exs eys hel
   have HOD:Hid (∀ j,j<i→(A j).hf<wr.heap.size):=fun j hj=>(hJ.ld j hj).lg.1
   have HL1:=wV a1 xs.length ca xs wr rfl l1 (by omega) R1
   go_wp2_with fail
   refine HL1.mono ?_
   clear HL1
   rintro e w1 ⟨gf,cf,gw,cw,rfl,L1,h1⟩
   replace c0:=aB h1 c0
   replace c1:=aB h1 c1
   replace c2:=aB h1 c2
   replace hJ:=hJ.below h1
   replace hB:=aF hB h1
   have HL2:=wV d1 ys.length cd ys w1 rfl l2 (by omega) (R2.below' h1)
   clear R1 R2 h1
   go_wp2_with fail
   refine HL2.mono ?_
   clear HL2
   rintro e w2 ⟨hf,cg,hw,ch,rfl,L2,h2⟩
   replace c0:=aB h2 c0
   clear c1 c2
   replace hJ:=hJ.below h2
   replace hB:=aF hB h2
   have hg1:=L1.lf
   have hg2:=L1.lg.1
   have hg3:=L2.lf
   have hl1:=L1.lr
   replace L1:=L1.below h2
   have hl2:=L2.lr
   clear h2
   obtain ⟨r1,er1⟩:∃ r1,r1=wr.heap.size:=⟨_,rfl⟩
   obtain ⟨r2,er2⟩:∃ r2,r2=w1.heap.size:=⟨_,rfl⟩
   rw [← er1] at L1 hl1 ⊢
   rw [← er2] at L2 hl2 ⊢
   have J:=hJ.more ⟨r1,gf,cf,gw,cw,r2,hf,cg,hw,ch⟩ (by rw [← EP.out.2.1];exact L1) (by rw [← EP.out.2.2];exact L2) ⟨by show w.heap.size<r1;omega,by show w.heap.size<r2;omega,by show r1≠r2;omega⟩ ⟨by show w.heap.size<gf;omega,by show gf<hf;omega,fun j hj=>by have:=HOD.out j hj;show (A j).hf<gf;omega⟩
   obtain ⟨A',eA⟩:∃ A':Nat→Bk,A'=fun j=>if j<i then A j else ⟨r1,gf,cf,gw,cw,r2,hf,cg,hw,ch⟩:=⟨_,rfl⟩
   rw [← eA] at J
   have eAi:A' i=⟨r1,gf,cf,gw,cw,r2,hf,cg,hw,ch⟩:=by rw [eA];exact if_neg (by omega)
   have EA:Hid (A' i=⟨r1,gf,cf,gw,cw,r2,hf,cg,hw,ch⟩):=eAi
   have hEa:Hid ((A' i).rn=r1∧(A' i).rd=r2):=⟨by rw [eAi],by rw [eAi]⟩
   clear eA eAi hJ
   have LN:=J.ln i (by omega)
   have LD:=J.ld i (by omega)
   obtain ⟨aa,ac,rfl,_⟩:=J.sa.form
   obtain ⟨na,nc,rfl,_⟩:=J.sn.form
   obtain ⟨da,dc,rfl,_⟩:=J.sd.form
   obtain ⟨ga,gc,rfl,_⟩:=J.sg.form
   have hls:=J.size
   clear er1 er2 hl1 hl2 L1 L2 LN LD hRs HOD hg1 hg2 hg3
   have k1:=(J.row.cell 1).trans (show _=some (.slice na i nc) from rfl)
   have HS:=J.sn.below (aG w2 (.cells #[.pointer (some ⟨r1,0,none⟩)] 94))
   go_wp2_with (at_builtin;refine aV _ rfl _ _ 90 94 1 8 rfl Tryz.underlying90 infPtr1 (by decide) (by decide) (w.heap.size+1) (.slice na i nc) i _ rfl HS w2.heap.size _ rfl [.pointer (some ⟨r1,0,none⟩)] rfl (fun u hu=>by simp at hu;rw [hu];rfl) (aN w2 #[.pointer (some ⟨r1,0,none⟩)] 94) (by omega) (by simp;omega) (w2.heap.size+1) (by simp) ?_)
   intro g1 g1c w3 SN hg hat _
   have JN:=J.appn (aG w2 (.cells #[.pointer (some ⟨r1,0,none⟩)] 94)) hg (by rw [hEa.out.1];exact SN) (by omega)
   have BN:=iD hB (aG w2 (.cells #[.pointer (some ⟨r1,0,none⟩)] 94)) hg (fun k e=>by have:=(J.sn.lt k e).1;omega) (by omega) (Nat.le_refl w.heap.size) 1 (.slice (some ⟨g1,0,none⟩) (i+1) g1c)
   have cN:(w3.setCell ⟨w.heap.size,1,none⟩ (.slice (some ⟨g1,0,none⟩) (i+1) g1c)).cell? ⟨b,o+i*3,none⟩=some (.bool p):=by
    rw [World.cell?_of_block (w:=w3) (((Off.refl w.heap.size w3).set 1 _).block b (by omega))]
    exact aJ hg (aB (aG w2 (.cells #[.pointer (some ⟨r1,0,none⟩)] 94)) c0) (fun e=>by have:=(J.sn.lt b e).1;omega)
   have r3:=(J.row.below (aG w2 (.cells #[.pointer (some ⟨r1,0,none⟩)] 94))).kept hg (fun e=>by have:=(J.sn.lt w.heap.size e).1;omega)
   have s0:=(r3.cell 1).trans (show _=some (.slice na i nc) from rfl)
   have s1:=r3.frozen 1
   clear HS SN hg hat J r3 k1 hB c0 hls
   have hls:=JN.size
   have J:=JN
   have hB:=BN
   have c0:=cN
   clear JN BN cN
   have eS:(w3.setCell ⟨w.heap.size,1,none⟩ (.slice (some ⟨g1,0,none⟩) (i+1) g1c)).heap.size=w3.heap.size:=by simp
   have NB:=aN (w3.setCell ⟨w.heap.size,1,none⟩ (.slice (some ⟨g1,0,none⟩) (i+1) g1c)) #[.pointer (some ⟨r2,0,none⟩)] 94
   rw [eS] at NB
   have k2:=(J.row.cell 2).trans (show _=some (.slice da i dc) from rfl)
   have HS:=J.sd.below (aG (w3.setCell ⟨w.heap.size,1,none⟩ (.slice (some ⟨g1,0,none⟩) (i+1) g1c)) (.cells #[.pointer (some ⟨r2,0,none⟩)] 94))
   go_wp2_with (at_builtin;refine aV _ rfl _ _ 90 94 1 8 rfl Tryz.underlying90 infPtr1 (by decide) (by decide) (w.heap.size+1) (.slice da i dc) i _ rfl HS w3.heap.size _ rfl [.pointer (some ⟨r2,0,none⟩)] rfl (fun u hu=>by simp at hu;rw [hu];rfl) NB (by omega) (by simp;omega) (w3.heap.size+1) (by simp) ?_)
   intro g2 g2c w4 SN hg hat _
   have JN:=J.appd (aG (w3.setCell ⟨w.heap.size,1,none⟩ (.slice (some ⟨g1,0,none⟩) (i+1) g1c)) (.cells #[.pointer (some ⟨r2,0,none⟩)] 94)) hg (by rw [hEa.out.2];exact SN) (by omega)
   have BN:=iD hB (aG (w3.setCell ⟨w.heap.size,1,none⟩ (.slice (some ⟨g1,0,none⟩) (i+1) g1c)) (.cells #[.pointer (some ⟨r2,0,none⟩)] 94)) hg (fun k e=>by have:=(J.sd.lt k e).1;omega) (by omega) (Nat.le_refl w.heap.size) 2 (.slice (some ⟨g2,0,none⟩) (i+1) g2c)
   have cN:(w4.setCell ⟨w.heap.size,2,none⟩ (.slice (some ⟨g2,0,none⟩) (i+1) g2c)).cell? ⟨b,o+i*3,none⟩=some (.bool p):=by
    rw [World.cell?_of_block (w:=w4) (((Off.refl w.heap.size w4).set 2 _).block b (by omega))]
    exact aJ hg (aB (aG (w3.setCell ⟨w.heap.size,1,none⟩ (.slice (some ⟨g1,0,none⟩) (i+1) g1c)) (.cells #[.pointer (some ⟨r2,0,none⟩)] 94)) c0) (fun e=>by have:=(J.sd.lt b e).1;omega)
   have r3:=(J.row.below (aG (w3.setCell ⟨w.heap.size,1,none⟩ (.slice (some ⟨g1,0,none⟩) (i+1) g1c)) (.cells #[.pointer (some ⟨r2,0,none⟩)] 94))).kept hg (fun e=>by have:=(J.sd.lt w.heap.size e).1;omega)
   have s0:=(r3.cell 2).trans (show _=some (.slice da i dc) from rfl)
   have s1:=r3.frozen 2
   clear HS SN hg hat J r3 k2 hB c0 hls
   have hls:=JN.size
   have J:=JN
   have hB:=BN
   have c0:=cN
   clear JN BN cN
   go_wp2_with fail
   generalize w4.setCell ⟨w.heap.size,2,none⟩ (.slice (some ⟨g2,0,none⟩) (i+1) g2c)=w5 at *
   clear s0 s1
   have k3:=(J.row.cell 3).trans (show _=some (.slice ga i gc) from rfl)
   have HBX:∀ w',Below w5.heap.size w5 w'→(w'.cell? ⟨w.heap.size,3,none⟩=some (.slice ga i gc)∧w'.cell? ⟨b,o+i*3,none⟩=some (.bool p)):=fun w' h=>⟨aB h k3,aB h c0⟩
   refine wp_region_noPanic (aU 13 HBX (by kernel_rfl) ?_)
   have hc0:Below w5.heap.size w5 w5.drew:=aS _
   generalize w5.drew=z0 at *
   refine wpAnyG.tT 0 (v:=.pointer (some ⟨w.heap.size,0,none⟩)) (by decide) 13 (by kernel_rfl) (by rfl) ?y0 (HBX _ hc0) ?_
   case y0 =>
    rintro w' ⟨q0,q1⟩
    simp only [lgA,lgZ]
    go_simp
   simp only [lgA,lgZ,Act.put,lsA,lsZ,lsS]
   refine wpAnyG.tT 1 (v:=.pointer (some ⟨w.heap.size,0,none⟩)) (by decide) 13 (by kernel_rfl) (by rfl) ?y1 (HBX _ hc0) ?_
   case y1 =>
    rintro w' ⟨q0,q1⟩
    simp only [lgA,lgZ,lgS]
    go_simp
   simp only [lgA,lgZ,lgS,Act.put,lsA,lsZ,lsS]
   refine wpAnyG.tT 2 (v:=.pointer (some ⟨w.heap.size,0,none⟩)) (by decide) 13 (by kernel_rfl) (by rfl) ?y2 (HBX _ hc0) ?_
   case y2 =>
    rintro w' ⟨q0,q1⟩
    simp only [lgA,lgZ,lgS]
    go_simp
   simp only [lgA,lgZ,lgS,Act.put,lsA,lsZ,lsS]
   refine wpAnyG.tT 3 (v:=.pointer (some ⟨w.heap.size,3,none⟩)) (by decide) 13 (by kernel_rfl) (by rfl) ?y3 (HBX _ hc0) ?_
   case y3 =>
    rintro w' ⟨q0,q1⟩
    simp only [lgA,lgZ,lgS]
    go_simp
   simp only [lgA,lgZ,lgS,Act.put,lsA,lsZ,lsS]
   refine wpAnyG.tT 4 (v:=.slice ga i gc) (by decide) 13 (by kernel_rfl) (by rfl) ?y4 (HBX _ hc0) ?_
   case y4 =>
    rintro w' ⟨q0,q1⟩
    simp only [lgA,lgZ,lgS]
    go_simp
   simp only [lgA,lgZ,lgS,Act.put,lsA,lsZ,lsS]
   refine wpAnyG.tT 5 (v:=.slice (some ⟨b,o,none⟩) n cap) (by decide) 13 (by kernel_rfl) (by rfl) ?y5 (HBX _ hc0) ?_
   case y5 =>
    rintro w' ⟨q0,q1⟩
    simp only [lgA,lgZ,lgS]
    go_simp
   simp only [lgA,lgZ,lgS,Act.put,lsA,lsZ,lsS]
   refine wpAnyG.tT 6 (v:=.int .i64 (i:Int)) (by decide) 13 (by kernel_rfl) (by rfl) ?y6 (HBX _ hc0) ?_
   case y6 =>
    rintro w' ⟨q0,q1⟩
    simp only [lgA,lgZ,lgS]
    go_simp
   simp only [lgA,lgZ,lgS,Act.put,lsA,lsZ,lsS]
   refine wpAnyG.tT 7 (v:=.pointer (some ⟨b,o+i*3,none⟩)) (by decide) 13 (by kernel_rfl) (by rfl) ?y7 (HBX _ hc0) ?_
   case y7 =>
    rintro w' ⟨q0,q1⟩
    simp only [lgA,lgZ,lgS]
    go_simp
   simp only [lgA,lgZ,lgS,Act.put,lsA,lsZ,lsS]
   refine wpAnyG.tT 8 (v:=.pointer (some ⟨b,o+i*3,none⟩)) (by decide) 13 (by kernel_rfl) (by rfl) ?y8 (HBX _ hc0) ?_
   case y8 =>
    rintro w' ⟨q0,q1⟩
    simp only [lgA,lgZ,lgS]
    go_simp
   simp only [lgA,lgZ,lgS,Act.put,lsA,lsZ,lsS]
   refine wpAnyG.tT 9 (v:=.pointer (some ⟨b,o+i*3,none⟩)) (by decide) 13 (by kernel_rfl) (by rfl) ?y9 (HBX _ hc0) ?_
   case y9 =>
    rintro w' ⟨q0,q1⟩
    simp only [lgA,lgZ,lgS]
    go_simp
   simp only [lgA,lgZ,lgS,Act.put,lsA,lsZ,lsS]
   refine wpAnyG.tT 10 (v:=.bool p) (by decide) 13 (by kernel_rfl) (by rfl) ?y10 (HBX _ hc0) ?_
   case y10 =>
    rintro w' ⟨q0,q1⟩
    simp only [lgA,lgZ,lgS]
    go_simp
   simp only [lgA,lgZ,lgS,Act.put,lsA,lsZ,lsS]
   refine wpAnyG.one 11 (by kernel_rfl) (by decide) (by rfl) (fun K hK=>?_)
   simp only [lgA,lgZ,lgS]
   go_simp
   have hy:Below w5.heap.size w5 (z0.alloc (.cells #[.bool p] 4)):=eG hc0
   refine hK _ _ ⟨fun _=>HBX _ hy,fun _=>trivial⟩ ?_
   clear hK K
   refine wpAnyG.one 12 (by kernel_rfl) (by decide) (by rfl) (fun K hK=>?_)
   simp only [lgA,lgZ,lgS]
   have HS:=J.sg.below hy
   have hz0:=hc0.size
   refine dM _ _ _ 91 4 1 1 rfl Tryz.underlying91 infBool (by decide) (by decide) (w.heap.size+1) (.slice ga i gc) i _ rfl HS z0.heap.size _ rfl [.bool p] rfl (fun u hu=>by simp at hu;rw [hu];rfl) (aN z0 #[.bool p] 4) (by omega) (by simp;omega) (z0.heap.size+1) (by simp) ?_
   intro g3 g3c w6 SN hg hat _
   have JN:=J.appg hy hg (by rw [← EP.out.1];exact SN)
   have BN:=iD hB hy hg (fun k e=>by have:=(J.sg.lt k e).1;omega) (by omega) (Nat.le_refl w.heap.size) 3 (.slice (some ⟨g3,0,none⟩) (i+1) g3c)
   have r3:=(J.row.below hy).kept hg (fun e=>by have:=(J.sg.lt w.heap.size e).1;omega)
   have s0:=(r3.cell 3).trans (show _=some (.slice ga i gc) from rfl)
   have s1:=r3.frozen 3
   have c9:=aJ hg (aB hy c0) (fun e=>by have:=(J.sg.lt b e).1;omega)
   have cN:(w6.setCell ⟨w.heap.size,3,none⟩ (.slice (some ⟨g3,0,none⟩) (i+1) g3c)).cell? ⟨b,o+i*3,none⟩=some (.bool p):=by
    rw [World.cell?_of_block (w:=w6) (((Off.refl w.heap.size w6).set 3 _).block b (by omega))]
    exact c9
   refine hK _ _ ⟨fun _=>⟨s0,c9⟩,fun _=>trivial⟩ ?_
   clear hK K
   refine wpAnyG.one 13 (by kernel_rfl) (by decide) (by rfl) (fun K hK=>?_)
   simp only [lgA,lgZ,lgS]
   go_simp
   refine hK _ _ ⟨fun h=>absurd h (by decide),fun _=>trivial⟩ ?_
   clear hK K
   refine wpAnyG.one 14 (by kernel_rfl) (by decide) (by rfl) (fun K hK=>?_)
   simp only [lgA,lgZ,lgS]
   go_simp
   refine hK _ _ ⟨fun h=>absurd h (by decide),fun _=>trivial⟩ ?_
   clear hK K
   refine wpAnyG.one 15 (by kernel_rfl) (by decide) (by rfl) (fun K hK=>?_)
   simp only [lgA,lgZ,lgS]
   go_simp
   refine hK _ _ ⟨fun h=>absurd h (by decide),fun _=>trivial⟩ ?_
   clear hK K
   refine wpAnyG.done (by kernel_rfl) (NoPanic.normal ?_)
   clear HBX HS SN hg hat r3 s0 s1 c9 hy hz0 hc0 k3 hls c0 hB J
   have hls:=JN.size
   have J:=JN
   have hB:=BN
   have c0:=cN
   clear JN BN cN
   generalize w6.setCell ⟨w.heap.size,3,none⟩ (.slice (some ⟨g3,0,none⟩) (i+1) g3c)=w7 at *
   have LN:=J.ln i (by omega)
   have LD:=J.ld i (by omega)
   rw [EA.out] at LN LD
   have HN:=lnatG w7 _ _ _ _ _ _ _ _ LN
   go_wp2_with fail
   refine HN.mono ?_
   rintro e w8 ⟨rfl,h8⟩
   replace J:=J.below h8
   replace hB:=aF hB h8
   replace c0:=aB h8 c0
   have HD:=lnatG w8 _ _ _ _ _ _ _ _ (LD.below h8)
   clear HN LN LD h8
   go_wp2_with fail
   refine HD.mono ?_
   rintro e w9 ⟨rfl,h9⟩
   replace J:=J.below h9
   replace hB:=aF hB h9
   replace c0:=aB h9 c0
   have hls:=J.size
   clear HD h9
   rw [← EP.out.2.1,← EP.out.2.2]
   go_wp2_with fail
   have k0:=(J.row.cell 0).trans (show _=some (.slice aa i ac) from rfl)
   have HBX:∀ w',Below w9.heap.size w9 w'→(w'.cell? ⟨w.heap.size,0,none⟩=some (.slice aa i ac)∧w'.cell? ⟨b,o+i*3,none⟩=some (.bool p)):=fun w' h=>⟨aB h k0,aB h c0⟩
   refine wp_region_noPanic (aU 17 HBX (by kernel_rfl) ?_)
   have hc0:Below w9.heap.size w9 w9.drew:=aS _
   generalize w9.drew=z0 at *
   refine wpAnyG.tT 0 (v:=.pointer (some ⟨w.heap.size,0,none⟩)) (by decide) 17 (by kernel_rfl) (by rfl) ?y0 (HBX _ hc0) ?_
   case y0 =>
    rintro w' ⟨q0,q1⟩
    simp only [lgA,lgZ]
    go_simp
   simp only [lgA,lgZ,Act.put,lsA,lsZ,lsS]
   refine wpAnyG.tT 1 (v:=.pointer (some ⟨w.heap.size,0,none⟩)) (by decide) 17 (by kernel_rfl) (by rfl) ?y1 (HBX _ hc0) ?_
   case y1 =>
    rintro w' ⟨q0,q1⟩
    simp only [lgA,lgZ,lgS]
    go_simp
   simp only [lgA,lgZ,lgS,Act.put,lsA,lsZ,lsS]
   refine wpAnyG.tT 2 (v:=.pointer (some ⟨w.heap.size,0,none⟩)) (by decide) 17 (by kernel_rfl) (by rfl) ?y2 (HBX _ hc0) ?_
   case y2 =>
    rintro w' ⟨q0,q1⟩
    simp only [lgA,lgZ,lgS]
    go_simp
   simp only [lgA,lgZ,lgS,Act.put,lsA,lsZ,lsS]
   refine wpAnyG.tT 3 (v:=.pointer (some ⟨w.heap.size,0,none⟩)) (by decide) 17 (by kernel_rfl) (by rfl) ?y3 (HBX _ hc0) ?_
   case y3 =>
    rintro w' ⟨q0,q1⟩
    simp only [lgA,lgZ,lgS]
    go_simp
   simp only [lgA,lgZ,lgS,Act.put,lsA,lsZ,lsS]
   refine wpAnyG.tT 4 (v:=.slice aa i ac) (by decide) 17 (by kernel_rfl) (by rfl) ?y4 (HBX _ hc0) ?_
   case y4 =>
    rintro w' ⟨q0,q1⟩
    simp only [lgA,lgZ,lgS]
    go_simp
   simp only [lgA,lgZ,lgS,Act.put,lsA,lsZ,lsS]
   refine wpAnyG.tT 5 (v:=.slice (some ⟨b,o,none⟩) n cap) (by decide) 17 (by kernel_rfl) (by rfl) ?y5 (HBX _ hc0) ?_
   case y5 =>
    rintro w' ⟨q0,q1⟩
    simp only [lgA,lgZ,lgS]
    go_simp
   simp only [lgA,lgZ,lgS,Act.put,lsA,lsZ,lsS]
   refine wpAnyG.tT 6 (v:=.int .i64 (i:Int)) (by decide) 17 (by kernel_rfl) (by rfl) ?y6 (HBX _ hc0) ?_
   case y6 =>
    rintro w' ⟨q0,q1⟩
    simp only [lgA,lgZ,lgS]
    go_simp
   simp only [lgA,lgZ,lgS,Act.put,lsA,lsZ,lsS]
   refine wpAnyG.tT 7 (v:=.pointer (some ⟨b,o+i*3,none⟩)) (by decide) 17 (by kernel_rfl) (by rfl) ?y7 (HBX _ hc0) ?_
   case y7 =>
    rintro w' ⟨q0,q1⟩
    simp only [lgA,lgZ,lgS]
    go_simp
   simp only [lgA,lgZ,lgS,Act.put,lsA,lsZ,lsS]
   refine wpAnyG.tT 8 (v:=.pointer (some ⟨b,o+i*3,none⟩)) (by decide) 17 (by kernel_rfl) (by rfl) ?y8 (HBX _ hc0) ?_
   case y8 =>
    rintro w' ⟨q0,q1⟩
    simp only [lgA,lgZ,lgS]
    go_simp
   simp only [lgA,lgZ,lgS,Act.put,lsA,lsZ,lsS]
   refine wpAnyG.tT 9 (v:=.pointer (some ⟨b,o+i*3,none⟩)) (by decide) 17 (by kernel_rfl) (by rfl) ?y9 (HBX _ hc0) ?_
   case y9 =>
    rintro w' ⟨q0,q1⟩
    simp only [lgA,lgZ,lgS]
    go_simp
   simp only [lgA,lgZ,lgS,Act.put,lsA,lsZ,lsS]
   refine wpAnyG.tT 10 (v:=.bool p) (by decide) 17 (by kernel_rfl) (by rfl) ?y10 (HBX _ hc0) ?_
   case y10 =>
    rintro w' ⟨q0,q1⟩
    simp only [lgA,lgZ,lgS]
    go_simp
   simp only [lgA,lgZ,lgS,Act.put,lsA,lsZ,lsS]
   refine wpAnyG.tT 11 (v:=.slice (some ⟨gf,0,none⟩) xs.length cf) (by decide) 17 (by kernel_rfl) (by rfl) ?y11 (HBX _ hc0) ?_
   case y11 =>
    rintro w' ⟨q0,q1⟩
    simp only [lgA,lgZ,lgS]
    go_simp
   simp only [lgA,lgZ,lgS,Act.put,lsA,lsZ,lsS]
   refine wpAnyG.tT 12 (v:=.agg #[.bool p,.slice (some ⟨gf,0,none⟩) xs.length cf]) (by decide) 17 (by kernel_rfl) (by rfl) ?y12 (HBX _ hc0) ?_
   case y12 =>
    rintro w' ⟨q0,q1⟩
    simp only [lgA,lgZ,lgS]
    go_simp
   simp only [lgA,lgZ,lgS,Act.put,lsA,lsZ,lsS]
   refine wpAnyG.tT 13 (v:=.slice (some ⟨hf,0,none⟩) ys.length cg) (by decide) 17 (by kernel_rfl) (by rfl) ?y13 (HBX _ hc0) ?_
   case y13 =>
    rintro w' ⟨q0,q1⟩
    simp only [lgA,lgZ,lgS]
    go_simp
   simp only [lgA,lgZ,lgS,Act.put,lsA,lsZ,lsS]
   refine wpAnyG.tT 14 (v:=.agg #[.bool p,.slice (some ⟨gf,0,none⟩) xs.length cf,.slice (some ⟨hf,0,none⟩) ys.length cg]) (by decide) 17 (by kernel_rfl) (by rfl) ?y14 (HBX _ hc0) ?_
   case y14 =>
    rintro w' ⟨q0,q1⟩
    simp only [lgA,lgZ,lgS]
    go_simp
   simp only [lgA,lgZ,lgS,Act.put,lsA,lsZ,lsS]
   refine wpAnyG.one 15 (by kernel_rfl) (by decide) (by rfl) (fun K hK=>?_)
   simp only [lgA,lgZ,lgS]
   go_simp
   have hy:Below w9.heap.size w9 (z0.alloc (.cells #[.bool p,.slice (some ⟨gf,0,none⟩) xs.length cf,.slice (some ⟨hf,0,none⟩) ys.length cg] 27)):=eG hc0
   refine hK _ _ ⟨fun _=>HBX _ hy,fun _=>trivial⟩ ?_
   clear hK K
   refine wpAnyG.one 16 (by kernel_rfl) (by decide) (by rfl) (fun K hK=>?_)
   simp only [lgA,lgZ,lgS]
   have HS:=J.sa.below hy
   have hz0:=hc0.size
   refine dM _ _ _ 43 27 3 56 rfl Tryz.underlying43 nM (by decide) (by decide) (w.heap.size+1) (.slice aa i ac) i _ rfl HS z0.heap.size _ rfl [.bool p,.slice (some ⟨gf,0,none⟩) xs.length cf,.slice (some ⟨hf,0,none⟩) ys.length cg] rfl (fun u hu=>by simp at hu;rcases hu with rfl|rfl|rfl <;> rfl) (aN z0 #[.bool p,.slice (some ⟨gf,0,none⟩) xs.length cf,.slice (some ⟨hf,0,none⟩) ys.length cg] 27) (by omega) (by simp;omega) (z0.heap.size+1) (by simp) ?_
   intro g4 g4c w10 SN hg hat _
   have JN:=J.appa hy hg SN (by rw [if_pos (by omega),EA.out,← EP.out.1,← EP.out.2.1,← EP.out.2.2])
   have BN:=iD hB hy hg (fun k e=>by have:=(J.sa.lt k e).1;omega) (by omega) (Nat.le_refl w.heap.size) 0 (.slice (some ⟨g4,0,none⟩) (i+1) g4c)
   have r3:=(J.row.below hy).kept hg (fun e=>by have:=(J.sa.lt w.heap.size e).1;omega)
   have s0:=(r3.cell 0).trans (show _=some (.slice aa i ac) from rfl)
   have s1:=r3.frozen 0
   have c9:=aJ hg (aB hy c0) (fun e=>by have:=(J.sa.lt b e).1;omega)
   have cN:(w10.setCell ⟨w.heap.size,0,none⟩ (.slice (some ⟨g4,0,none⟩) (i+1) g4c)).cell? ⟨b,o+i*3,none⟩=some (.bool p):=by
    rw [World.cell?_of_block (w:=w10) (((Off.refl w.heap.size w10).set 0 _).block b (by omega))]
    exact c9
   refine hK _ _ ⟨fun _=>⟨s0,c9⟩,fun _=>trivial⟩ ?_
   clear hK K
   refine wpAnyG.one 17 (by kernel_rfl) (by decide) (by rfl) (fun K hK=>?_)
   simp only [lgA,lgZ,lgS]
   go_simp
   refine hK _ _ ⟨fun h=>absurd h (by decide),fun _=>trivial⟩ ?_
   clear hK K
   refine wpAnyG.one 18 (by kernel_rfl) (by decide) (by rfl) (fun K hK=>?_)
   simp only [lgA,lgZ,lgS]
   go_simp
   refine hK _ _ ⟨fun h=>absurd h (by decide),fun _=>trivial⟩ ?_
   clear hK K
   refine wpAnyG.one 19 (by kernel_rfl) (by decide) (by rfl) (fun K hK=>?_)
   simp only [lgA,lgZ,lgS]
   go_simp
   refine hK _ _ ⟨fun h=>absurd h (by decide),fun _=>trivial⟩ ?_
   clear hK K
   refine wpAnyG.done (by kernel_rfl) (NoPanic.normal ?_)
   clear HBX HS SN hg hat r3 s0 s1 c9 hy hz0 hc0 k0 hls c0 hB J
   have hls:=JN.size
   have J:=JN
   have hB:=BN
   have c0:=cN
   clear JN BN cN
   generalize w10.setCell ⟨w.heap.size,0,none⟩ (.slice (some ⟨g4,0,none⟩) (i+1) g4c)=w11 at *
   go_wp2
   go_roundw
   case rel=>first|exact ⟨i+1,_,_,_,_,_,by omega,by go_num,J,hB⟩|((repeat apply Exists.intro);refine ⟨?_,rfl⟩;exact ⟨i+1,_,_,_,_,_,by omega,by go_num,J,hB⟩)
   case measure=>simp [intOf];omega
  ·have hkI:¬ (i:Int)<(n:Int):=by omega
   obtain rfl:i=n:=by omega
   clear hkI hlt hi hL hF
   go_wp2
   generalize wr=wA at *
   go_loopw [9] (fun s9 wr=>∃ (j:Nat) (va:Value),j≤3∧s9 = .int .i64 j∧LJ wr w.heap.size i (i+j) i i i i F A va vn vd vg∧Below w.heap.size w wr) (fun s9 _=>3-(intOf s9).toNat)
   case atStart=>exact ⟨0,va,by omega,rfl,hJ,hB⟩
   case round =>
    clear hJ hB hRs
    obtain ⟨j,va2,hj,rfl,J,hB⟩:=hrel
    have hls:=J.size
    by_cases hlt:j<3
    ·have hkI:(j:Int)<3:=by omega
     obtain ⟨aa,ac,rfl,_⟩:=J.sa.form
     have k0:=(J.row.cell 0).trans (show _=some (.slice aa (i+j) ac) from rfl)
     have HS:=J.sa.below (aG wr (.cells #[.bool true,.slice none 0 0,.slice none 0 0] 27))
     go_wp2_with (at_builtin;refine aV _ rfl _ _ 43 27 3 56 rfl Tryz.underlying43 nM (by decide) (by decide) (w.heap.size+1) (.slice aa (i+j) ac) (i+j) _ rfl HS wr.heap.size _ rfl [.bool true,.slice none 0 0,.slice none 0 0] rfl (fun u hu=>by simp at hu;rcases hu with rfl|rfl <;> rfl) (aN wr #[.bool true,.slice none 0 0,.slice none 0 0] 27) (by omega) (by simp;omega) (wr.heap.size+1) (by simp) ?_)
     intro g gc w3 SN hg hat _
     have JN:=J.appa (aG wr (.cells #[.bool true,.slice none 0 0,.slice none 0 0] 27)) hg SN (by rw [if_neg (by omega)])
     have BN:=iD hB (aG wr (.cells #[.bool true,.slice none 0 0,.slice none 0 0] 27)) hg (fun k e=>by have:=(J.sa.lt k e).1;omega) (by omega) (Nat.le_refl w.heap.size) 0 (.slice (some ⟨g,0,none⟩) (i+j+1) gc)
     have r3:=(J.row.below (aG wr (.cells #[.bool true,.slice none 0 0,.slice none 0 0] 27))).kept hg (fun e=>by have:=(J.sa.lt w.heap.size e).1;omega)
     have s0:=(r3.cell 0).trans (show _=some (.slice aa (i+j) ac) from rfl)
     have s1:=r3.frozen 0
     clear HS SN hg hat J r3 k0 hB hls
     go_wp2
     go_roundw
     case rel=>first|exact ⟨j+1,_,by omega,by go_num,JN,BN⟩|((repeat apply Exists.intro);refine ⟨?_,rfl⟩;exact ⟨j+1,_,by omega,by go_num,JN,BN⟩)
     case measure=>simp [intOf];omega
    ·have hkI:¬ (j:Int)<3:=by omega
     obtain rfl:j=3:=by omega
     go_wp2
     go_ret
     exact ⟨rfl,⟨A,va2,vn,vd,vg,J⟩,hB⟩
end Go.Proofs.YtdcocflnafcikaaGreatDoor

import Derived.Test.YtnkpbjmfdfjeiaaGreatDoorSoFAll
namespace Go.Proofs.YtnkpbjmfdfjeiaaGreatDoor
open Go.RowKit
set_option maxRecDepth 100000 in
set_option maxHeartbeats 16000000 in
theorem readD3 (P:Prob) (s:ByteArray) {m:List UInt8} (w:World) (hP:PQ w P) (hK:P.K≤1048576) (hs:s.size≤1048576) (HN:∀ t:ByteArray,t.size≤1048576→NumA t) (hl:s.data.toList = wdV 3 ++ 10 :: m) :
  Calls Tryz.prog 5 #[P.val,.string s] w fun en w'=>ReadR P s w en w':=by
 have hvn:P.vn≤1048576:=by have:=hP.all;have:=tot_len P.ZV P.vn;omega
 have hrn:P.rn≤1048576:=by have:=hP.all;have:=tot_len P.ZR P.rn;omega
 have S0:=st_new w P s
 have HLL:Hid (s.data.toList = wdV 3 ++ 10 :: m):=hl
 have HPW:Hid (PQ w P):=hP
 have HNN:Hid (∀ t:ByteArray,t.size≤1048576→NumA t):=HN
 clear hl hP HN
 go_enter Tryz.func5,Tryz.ntmps5
 go_wp2_with fail
 generalize (((w.alloc (.cells #[.bool P.mx,.string P.nm,.bool P.p,.slice P.a P.na P.ca,.slice P.d P.nd P.cd,.slice P.va P.vn P.vc,.slice P.ra P.rn P.rc] 31)).alloc (.cells #[.int .i64 0,.bool false,.slice none 0 0,.slice none 0 0,.slice none 0 0,.slice none 0 0,.slice none 0 0] 35)).alloc (.cells #[.string s,.int .i64 0,.bool true] 58)).alloc (.cells #[.int .i64 0,.bool false,.slice none 0 0,.slice none 0 0,.slice none 0 0,.slice none 0 0,.slice none 0 0] 35) = W0 at *
 obtain ⟨F,hFw⟩:∃ F,w.heap.size = F:=⟨_,rfl⟩
 rw [hFw] at S0 ⊢
 have HFW:Hid (w.heap.size = F):=hFw
 clear hFw
 refine (wholeR P W0 (S0.pq HPW.out) hK).mono ?_
 rintro e w1 ⟨bw,rfl,hbw,hx⟩
 have HBW:Hid (bw = true↔Whl19 P):=hbw
 have S1:=S0.below hx
 clear hx hbw S0
 go_wp2_with fail
 refine (rwordU (e:=10) (F:=F) w1 S1.rq (by omega) S1.ha (by omega) (.inr rfl)).mono ?_
 rintro en w2 ⟨t,b,ok2,rfl,k2,hq2,hb2,h⟩
 have S2:=S1.kbQ k2 hq2 hb2
 clear S1 k2 hq2
 obtain ⟨ht,rfl,hm⟩:=head_w HLL.out h
 obtain rfl:t = ⟨#[117,110,98,111,117,110,100,101,100]⟩:=ba_eq ht
 have HLN:Hid (Lns (lnsW 3 P.vn (vnm P) P.rn (unm P)) (lnsK 3 P.vn P.rn) s.data.toList (putR (fun _=>[]) 0 []) 1 (s.data.toList.drop b)):=lns_head HLL.out hm
 clear h ht hm
 have c0:=(S2.rc.cell 0).trans (show _ = some (Value.int .i64 0) from rfl)
 have f0:=S2.rc.frozen 0
 have SC:=Rw.setK S2.rc 0 (.int .i64 ((3:Nat):Int))
 have S6:St w (w2.setCell ⟨F + 3,0,none⟩ (.int .i64 ((3:Nat):Int))) F P s b true #[.int .i64 ((3:Nat):Int),.bool false,.slice none 0 0,.slice none 0 0,.slice none 0 0,.slice none 0 0,.slice none 0 0]:=S2.setC SC.2 SC.1
 have T6:StS (w2.setCell ⟨F + 3,0,none⟩ (.int .i64 ((3:Nat):Int))) F 3 P s (1 + 0) b 0 0 0 true #[.int .i64 ((3:Nat):Int),.bool false,.slice none 0 0,.slice none 0 0,.slice none 0 0,.slice none 0 0,.slice none 0 0] :=
  .inl ⟨rfl,_,HLN.out,_,_,_,_,_,_,_,_,_,_,rfl,.inr ⟨by decide,rfl,rfl,rfl,rfl,rfl,rfl,rfl⟩,NL.nil _ _ _,NL.nil _ _ _,NL.nil _ _ _,nb_nil⟩
 go_wp2
 clear S2 SC c0 f0 HLN
 generalize w2.setCell ⟨F + 3,0,none⟩ (.int .i64 3) = W3 at *
 go_loopw [11] (fun s11 wr=>∃ (j a:Nat) (ok:Bool) (cs:Array Value),j≤P.vn∧s11 = .int .i64 j∧St w wr F P s a ok cs∧(∃ zq,cs[0]? = some zq∧(ok = true→zq = .int .i64 3))∧StS wr F 3 P s (1 + j) a j 0 j ok cs) (fun s11 _=>P.vn - (intOf s11).toNat)
 case atStart=>exact ⟨0,_,_,_,Nat.zero_le _,rfl,S6,⟨_,rfl,fun _=>rfl⟩,T6⟩
 case round =>
  clear S6 T6
  obtain ⟨j,a,ok,cs,hj,rfl,S5,⟨zq,hzq,hz3⟩,T5⟩:=hrel
  have p5:=(S5.bp.cell 5).trans (show _ = some (Value.slice P.va P.vn P.vc) from rfl)
  cases ok
  ·have HX:Hid (∀ R,¬ Ans 3 P.vn (vnm P) P.rn (unm P) s.data.toList R):=by
    rcases T5 with ⟨h,_⟩ | ⟨_,h⟩
    ·cases h
    ·exact h
   clear T5 hzq hz3
   have q2:=(Rw.cell S5.rq 2).trans (show _ = some (Value.bool false) from rfl)
   by_cases hlt:j < P.vn
   ·have hkI:(j:Int) < (P.vn:Int):=by omega
    go_wp2_with fail
    clear q2
    refine wp_loop_once ?_
    have p6:=(S5.bp.cell 6).trans (show _ = some (Value.slice P.ra P.rn P.rc) from rfl)
    have q2:=(Rw.cell S5.rq 2).trans (show _ = some (Value.bool false) from rfl)
    by_cases hrz:0 < P.rn
    ·have hrI:(0:Int) < (P.rn:Int):=by omega
     have z0:=(S5.r4.cell 0).trans (show _ = some (Value.int .i64 0) from rfl)
     have zf0:=S5.r4.frozen 0
     have z1:=(S5.r4.cell 1).trans (show _ = some (Value.bool false) from rfl)
     have zf1:=S5.r4.frozen 1
     have z2:=(S5.r4.cell 2).trans (show _ = some (Value.slice none 0 0) from rfl)
     have zf2:=S5.r4.frozen 2
     have z3:=(S5.r4.cell 3).trans (show _ = some (Value.slice none 0 0) from rfl)
     have zf3:=S5.r4.frozen 3
     have z4:=(S5.r4.cell 4).trans (show _ = some (Value.slice none 0 0) from rfl)
     have zf4:=S5.r4.frozen 4
     have z5:=(S5.r4.cell 5).trans (show _ = some (Value.slice none 0 0) from rfl)
     have zf5:=S5.r4.frozen 5
     have z6:=(S5.r4.cell 6).trans (show _ = some (Value.slice none 0 0) from rfl)
     have zf6:=S5.r4.frozen 6
     have E9:=Rw.sev (b0:=.int .i64 0) (b1:=.bool false) (b2:=.slice none 0 0) (b3:=.slice none 0 0) (b4:=.slice none 0 0) (b5:=.slice none 0 0) (b6:=.slice none 0 0) S5.r4
     go_wp2
     refine bodyPost_ret (E9.1.ret2 Tryz.results5 _ rfl Tryz.underlying35 certI) rfl ⟨by rw [HFW.out];exact S5.bel.trans (E9.2.below (by omega)),.inr ⟨.inr fun v' R h1 h2 h3=>no_other HLL.out (by decide) (by decide) h1 h2 h3 HX.out,rfl⟩⟩
    ·have hrI:¬ (0:Int) < (P.rn:Int):=by omega
     have z0:=(S5.r4.cell 0).trans (show _ = some (Value.int .i64 0) from rfl)
     have zf0:=S5.r4.frozen 0
     have z1:=(S5.r4.cell 1).trans (show _ = some (Value.bool false) from rfl)
     have zf1:=S5.r4.frozen 1
     have z2:=(S5.r4.cell 2).trans (show _ = some (Value.slice none 0 0) from rfl)
     have zf2:=S5.r4.frozen 2
     have z3:=(S5.r4.cell 3).trans (show _ = some (Value.slice none 0 0) from rfl)
     have zf3:=S5.r4.frozen 3
     have z4:=(S5.r4.cell 4).trans (show _ = some (Value.slice none 0 0) from rfl)
     have zf4:=S5.r4.frozen 4
     have z5:=(S5.r4.cell 5).trans (show _ = some (Value.slice none 0 0) from rfl)
     have zf5:=S5.r4.frozen 5
     have z6:=(S5.r4.cell 6).trans (show _ = some (Value.slice none 0 0) from rfl)
     have zf6:=S5.r4.frozen 6
     have E9:=Rw.sev (b0:=.int .i64 0) (b1:=.bool false) (b2:=.slice none 0 0) (b3:=.slice none 0 0) (b4:=.slice none 0 0) (b5:=.slice none 0 0) (b6:=.slice none 0 0) S5.r4
     go_wp2
     refine bodyPost_ret (E9.1.ret2 Tryz.results5 _ rfl Tryz.underlying35 certI) rfl ⟨by rw [HFW.out];exact S5.bel.trans (E9.2.below (by omega)),.inr ⟨.inr fun v' R h1 h2 h3=>no_other HLL.out (by decide) (by decide) h1 h2 h3 HX.out,rfl⟩⟩
   ·have hkI:¬ (j:Int) < (P.vn:Int):=by omega
    go_wp2_with fail
    clear q2
    refine wp_loop_once ?_
    have p6:=(S5.bp.cell 6).trans (show _ = some (Value.slice P.ra P.rn P.rc) from rfl)
    have q2:=(Rw.cell S5.rq 2).trans (show _ = some (Value.bool false) from rfl)
    by_cases hrz:0 < P.rn
    ·have hrI:(0:Int) < (P.rn:Int):=by omega
     have z0:=(S5.r4.cell 0).trans (show _ = some (Value.int .i64 0) from rfl)
     have zf0:=S5.r4.frozen 0
     have z1:=(S5.r4.cell 1).trans (show _ = some (Value.bool false) from rfl)
     have zf1:=S5.r4.frozen 1
     have z2:=(S5.r4.cell 2).trans (show _ = some (Value.slice none 0 0) from rfl)
     have zf2:=S5.r4.frozen 2
     have z3:=(S5.r4.cell 3).trans (show _ = some (Value.slice none 0 0) from rfl)
     have zf3:=S5.r4.frozen 3
     have z4:=(S5.r4.cell 4).trans (show _ = some (Value.slice none 0 0) from rfl)
     have zf4:=S5.r4.frozen 4
     have z5:=(S5.r4.cell 5).trans (show _ = some (Value.slice none 0 0) from rfl)
     have zf5:=S5.r4.frozen 5
     have z6:=(S5.r4.cell 6).trans (show _ = some (Value.slice none 0 0) from rfl)
     have zf6:=S5.r4.frozen 6
     have E9:=Rw.sev (b0:=.int .i64 0) (b1:=.bool false) (b2:=.slice none 0 0) (b3:=.slice none 0 0) (b4:=.slice none 0 0) (b5:=.slice none 0 0) (b6:=.slice none 0 0) S5.r4
     go_wp2
     refine bodyPost_ret (E9.1.ret2 Tryz.results5 _ rfl Tryz.underlying35 certI) rfl ⟨by rw [HFW.out];exact S5.bel.trans (E9.2.below (by omega)),.inr ⟨.inr fun v' R h1 h2 h3=>no_other HLL.out (by decide) (by decide) h1 h2 h3 HX.out,rfl⟩⟩
    ·have hrI:¬ (0:Int) < (P.rn:Int):=by omega
     have z0:=(S5.r4.cell 0).trans (show _ = some (Value.int .i64 0) from rfl)
     have zf0:=S5.r4.frozen 0
     have z1:=(S5.r4.cell 1).trans (show _ = some (Value.bool false) from rfl)
     have zf1:=S5.r4.frozen 1
     have z2:=(S5.r4.cell 2).trans (show _ = some (Value.slice none 0 0) from rfl)
     have zf2:=S5.r4.frozen 2
     have z3:=(S5.r4.cell 3).trans (show _ = some (Value.slice none 0 0) from rfl)
     have zf3:=S5.r4.frozen 3
     have z4:=(S5.r4.cell 4).trans (show _ = some (Value.slice none 0 0) from rfl)
     have zf4:=S5.r4.frozen 4
     have z5:=(S5.r4.cell 5).trans (show _ = some (Value.slice none 0 0) from rfl)
     have zf5:=S5.r4.frozen 5
     have z6:=(S5.r4.cell 6).trans (show _ = some (Value.slice none 0 0) from rfl)
     have zf6:=S5.r4.frozen 6
     have E9:=Rw.sev (b0:=.int .i64 0) (b1:=.bool false) (b2:=.slice none 0 0) (b3:=.slice none 0 0) (b4:=.slice none 0 0) (b5:=.slice none 0 0) (b6:=.slice none 0 0) S5.r4
     go_wp2
     refine bodyPost_ret (E9.1.ret2 Tryz.results5 _ rfl Tryz.underlying35 certI) rfl ⟨by rw [HFW.out];exact S5.bel.trans (E9.2.below (by omega)),.inr ⟨.inr fun v' R h1 h2 h3=>no_other HLL.out (by decide) (by decide) h1 h2 h3 HX.out,rfl⟩⟩
  ·obtain ⟨R,hO⟩:∃ R,OkS wr F 3 P s R (1 + j) a j 0 j cs:=by
    rcases T5 with ⟨_,h⟩ | ⟨h,_⟩
    ·exact h
    ·cases h
   obtain rfl:=hz3 rfl
   have q2:=(Rw.cell S5.rq 2).trans (show _ = some (Value.bool true) from rfl)
   clear T5
   by_cases hlt:j < P.vn
   ·have hkI:(j:Int) < (P.vn:Int):=by omega
    clear hzq hz3
    obtain ⟨hLn,p,a1,na,ca,d,nd,cd,xv,yv,zv,rfl,GV,NX,NY,NZ,dj⟩:=hO
    obtain ⟨rfl,rfl,rfl,rfl,rfl,rfl,rfl⟩:=(GV.elim (fun h=>absurd h.1 (by decide)) (fun h=>h.2):p = false∧a1 = none∧na = 0∧ca = 0∧d = none∧nd = 0∧cd = 0)
    obtain ⟨E,SE,EE⟩:=NX
    obtain ⟨xa,xc,rfl,hxc⟩:=SE.form
    obtain ⟨E',SE',EE'⟩:=NZ
    obtain ⟨za,zc,rfl,hzc⟩:=SE'.form
    have HLN2:Hid (Lns (lnsW 3 P.vn (vnm P) P.rn (unm P)) (lnsK 3 P.vn P.rn) s.data.toList R (1 + j) (s.data.toList.drop a)):=hLn
    have HDJ:Hid (∀ g,((Value.slice xa j xc).ownBlock = some g→yv.ownBlock ≠ some g∧(Value.slice za j zc).ownBlock ≠ some g)∧((Value.slice za j zc).ownBlock = some g→yv.ownBlock ≠ some g)):=dj
    have HEE:Hid (∀ q,q < j→∃ f c m k c' m' k',E q = [.bool f,.slice c m k,.slice c' m' k']∧GR wr F f c m k c' m' k' (xR 3 R q) 5000000):=EE
    have HEE2:Hid (∀ q,q < j→∃ f c m k c' m' k',E' q = [.bool f,.slice c m k,.slice c' m' k']∧GR wr F f c m k c' m' k' (zR 3 R q) 5000000):=EE'
    have HNY:Hid (NL wr F yv 0 (yR 3 P.vn R)):=NY
    have HSE:Hid (SL wr F 27 3 (.slice xa j xc) j E):=SE
    have HSE2:Hid (SL wr F 27 3 (.slice za j zc) j E'):=SE'
    clear GV hLn dj EE NY EE' SE'
    rcases (S5.pq HPW.out).v with h0 | ⟨bv,ov,hva,hev⟩
    ·omega
    have hV:=hev j hlt
    obtain ⟨nmR,enm⟩:∃ nmR,nmR = (P.V j).nm:=⟨_,rfl⟩
    have r0:=hV.nm
    rw [← enm] at r0
    have HNM:Hid (nmR = (P.V j).nm):=enm
    have hnz:nmR.size≤1048576:=by
     rw [enm]
     have h1:=hV.snm
     have h2:=tot_leS (Z:=P.ZV) hlt
     have h3:=HPW.out.all
     omega
    have hkI2:(j:Int) * 13 = ((j * 13:Nat):Int):=by omega
    rw [hva] at p5
    clear hev hV enm hva
    go_wp2_with fail
    clear q2 p5 r0
    refine (rlineU (F:=F) (wt:=⟨#[118,97,114]⟩) (nm:=nmR) wr S5.rq (by omega) S5.ha (by omega) hnz (by unfold NoB;decide) (by decide)).mono ?_
    rintro en w3 ⟨a3,ok3,rfl,k3,hq3,ha0,h3⟩
    have S3:=S5.kbQ k3 hq3 ha0
    have HL3:Hid ((ok3 = true∧s.data.toList.drop a = [118,97,114] ++ 32 :: (nmR.data.toList ++ 32 :: s.data.toList.drop a3))∨(ok3 = false∧∀ m,¬ s.data.toList.drop a = [118,97,114] ++ 32 :: (nmR.data.toList ++ 32 :: m))):=h3
    have K3:Hid (Kb F [58] wr w3):=k3
    have hFU:F≤w3.heap.size:=by have:=S3.lt;omega
    have RQ0:Rdr w3.drew (F + 2) s a3 ok3:=hq3
    have RC3:=S3.rc
    clear h3
    have SE3:=SE.kb k3 (by decide)
    clear SE
    go_wp2_with fail
    have HBX:∀ w',Kb F [58] w3 w'→w'.cell? ⟨F + 3,4,none⟩ = some (.slice xa j xc):=fun w' k=>(Rw.cell (RC3.kb k (by decide)) 4).trans rfl
    refine wp_region_noPanic (wp_region_guard (Till 5 5 (fun w'=>w'.cell? ⟨F + 3,4,none⟩ = some (.slice xa j xc)) (fun _=>True)) (by as_aux_lemma=>kernel_rfl) ?_)
    have hc0:Kb F [58] w3 w3.drew:=(Kb.refl F [58] w3).drew
    generalize w3.drew = z0 at *
    refine wpAnyG.tT 0 (v:=.pointer (some ⟨F + 3,4,none⟩)) (by decide) 5 (by as_aux_lemma=>kernel_rfl) (by rfl) ?y0 (HBX _ hc0) ?_
    case y0 =>
     rintro w' q0
     simp only [lgA,lgZ]
     go_simp
    simp only [lgA,lgZ,Act.put,lsA,lsZ,lsS]
    refine wpAnyG.tT 1 (v:=.slice xa j xc) (by decide) 5 (by as_aux_lemma=>kernel_rfl) (by rfl) ?y1 (HBX _ hc0) ?_
    case y1 =>
     rintro w' q0
     simp only [lgA,lgZ,lgS]
     go_simp
    simp only [lgA,lgZ,lgS,Act.put,lsA,lsZ,lsS]
    refine wpAnyG.one 2 (by as_aux_lemma=>kernel_rfl) (by decide) (by rfl) (fun K hK=>?_)
    simp only [lgA,lgZ,lgS]
    go_simp
    refine (rnumU (e:=32) (F:=F) z0 RQ0 (by omega) ha0 (by omega) (.inl rfl) HNN.out).mono ?_
    rintro en z1 ⟨f7,c7,n7,k7,d7,m7,l7,b7,ok7,rfl,kk1,hq7,hb7,h7⟩
    have hc1:Kb F [58] w3 z1:=hc0.trans kk1
    dsimp only
    refine hK _ _ ⟨fun _=>HBX _ hc1,fun _=>trivial⟩ ?_
    clear hK K
    refine wpAnyG.one 3 (by as_aux_lemma=>kernel_rfl) (by decide) (by rfl) (fun K hK=>?_)
    simp only [lgA,lgZ,lgS]
    go_simp
    have hy:=bel_d0 z1 (.cells #[.bool f7,.slice c7 n7 k7,.slice d7 m7 l7] 27)
    have hc2:Kb F [58] w3 (z1.alloc (.cells #[.bool f7,.slice c7 n7 k7,.slice d7 m7 l7] 27)):=hc1.bel hy hFU
    have BX:=box_new z1 #[.bool f7,.slice c7 n7 k7,.slice d7 m7 l7] 27
    have hq8:=hq7.below hy
    have GN:Hid ((ok7 = ok3∧∃ r,s.data.toList.drop a3 = tq r ++ 32 :: s.data.toList.drop b7∧GR (z1.alloc (.cells #[.bool f7,.slice c7 n7 k7,.slice d7 m7 l7] 27)) F f7 c7 n7 k7 d7 m7 l7 r 5000000)∨(ok7 = false∧∀ r m,¬ s.data.toList.drop a3 = tq r ++ 32 :: m)):=h7.imp (fun h=>⟨h.1,h.2.imp fun r h=>⟨h.1,h.2.below hy⟩⟩) id
    clear h7 hq7
    generalize hHz:z1.heap.size = hz at *
    generalize z1.alloc (.cells #[.bool f7,.slice c7 n7 k7,.slice d7 m7 l7] 27) = z2 at *
    refine hK _ _ ⟨fun _=>HBX _ hc2,fun _=>trivial⟩ ?_
    clear hK K
    refine wpAnyG.one 4 (by as_aux_lemma=>kernel_rfl) (by decide) (by rfl) (fun K hK=>?_)
    simp only [lgA,lgZ,lgS]
    have SLZ:=SE3.kb hc2 (by decide)
    have hFz:F≤z2.heap.size:=by have:=hc2.size;omega
    refine wp_appS z2 _ _ 33 27 3 56 1 rfl Tryz.underlying33 infRat (by decide) (by decide) (by decide) (by decide) F (.slice xa j xc) j _ rfl SLZ hz 1 rfl (fun _=>[.bool f7,.slice c7 n7 k7,.slice d7 m7 l7]) [.bool f7,.slice c7 n7 k7,.slice d7 m7 l7] rfl (fun i hi j u hu=>by obtain rfl:i = 0:=(by omega);have hj:=(List.getElem?_eq_some_iff.1 hu).1;exact ⟨hj,by simpa using hu⟩) (fun u hu=>by simp at hu;rcases hu with rfl | rfl | rfl <;> rfl) BX (by omega) hFz _ rfl ?_
    intro g8 cap8 w8 SN hg hat hgl
    have kG:Kb F [27] z2 w8:=kb_grown SLZ (Nat.le_refl _) hFz hg
    have e0:=(World.cell?_of_block (w:=z2) (a:=⟨F + 3,4,none⟩) (show w8.heap[F + 3]? = z2.heap[F + 3]? from (kG.high _ _ _ _ (Rw.kb RC3 hc2 (by decide)) (by decide)))).trans (HBX _ hc2)
    have e1:=(Rw.kb (Rw.kb RC3 hc2 (by decide)) kG (by decide)).frozen 4
    refine hK _ _ ⟨fun _=>e0,fun _=>trivial⟩ ?_
    clear hK K
    refine wpAnyG.one 5 (by as_aux_lemma=>kernel_rfl) (by decide) (by rfl) (fun K hK=>?_)
    simp only [lgA,lgZ,lgS]
    go_simp
    refine hK _ _ ⟨fun h=>absurd h (by decide),fun _=>trivial⟩ ?_
    clear hK K
    refine wpAnyG.one 6 (by as_aux_lemma=>kernel_rfl) (by decide) (by rfl) (fun K hK=>?_)
    simp only [lgA,lgZ,lgS]
    go_simp
    refine hK _ _ ⟨fun h=>absurd h (by decide),fun _=>trivial⟩ ?_
    clear hK K
    refine wpAnyG.done (by as_aux_lemma=>kernel_rfl) (NoPanic.normal ?_)
    have S8:=(S3.kbQ hc2 hq8 hb7).kbR kG
    have SC:=Rw.setK S8.rc 4 (.slice (some ⟨g8,0,none⟩) (j + 1) cap8)
    have S9:St w (w8.setCell ⟨F + 3,4,none⟩ (.slice (some ⟨g8,0,none⟩) (j + 1) cap8)) F P s b7 ok7 #[.int .i64 ((3:Nat):Int),.bool false,.slice none 0 0,.slice none 0 0,.slice (some ⟨g8,0,none⟩) (j + 1) cap8,yv,.slice za j zc]:=S8.setC SC.2 SC.1
    have HkS:Hid (Kb F [35] w8 (w8.setCell ⟨F + 3,4,none⟩ (.slice (some ⟨g8,0,none⟩) (j + 1) cap8))):=kb_off S8.rc (by omega) SC.2
    have HSN:Hid (SL w8 F 27 3 (.slice (some ⟨g8,0,none⟩) (j + 1) cap8) (j + 1) (fun q=>if q < j then E q else [.bool f7,.slice c7 n7 k7,.slice d7 m7 l7])):=SN
    have Hhg:Hid (z2.grownBy w8 (Value.slice xa j xc).ownBlock):=hg
    have Hhat:Hid ((Value.slice xa j xc).ownBlock = some g8∨g8 = z2.heap.size):=hat
    have HC2:Hid (Kb F [58] wr z2):=K3.out.trans hc2
    have HFZ:Hid (F≤z2.heap.size):=hFz
    have SE4:SL (w8.setCell ⟨F + 3,4,none⟩ (.slice (some ⟨g8,0,none⟩) (j + 1) cap8)) F 27 3 (.slice za j zc) j E':=(((HSE2.out.kb HC2.out (by decide)).kept hg (fun g e e2=>((HDJ.out g).1 e2).2 e)).kb HkS.out (by decide))
    clear S8 SC SN hg hat hgl kG hq8 hc2 hc1 hc0 HBX RC3 S3 S5 SE3 K3 hHz BX hFz hFU RQ0 hq3
    generalize w8.setCell ⟨F + 3,4,none⟩ (.slice (some ⟨g8,0,none⟩) (j + 1) cap8) = w9 at *
    have hFUb:F≤w9.heap.size:=by have:=S9.lt;omega
    have RQ0b:Rdr w9.drew (F + 2) s b7 ok7:=S9.rq
    have RC3b:=S9.rc
    have ha0b:=S9.ha
    go_wp2_with fail
    have HBXb:∀ w',Kb F [58] w9 w'→w'.cell? ⟨F + 3,6,none⟩ = some (.slice za j zc):=fun w' k=>(Rw.cell (RC3b.kb k (by decide)) 6).trans rfl
    refine wp_region_noPanic (wp_region_guard (Till 5 5 (fun w'=>w'.cell? ⟨F + 3,6,none⟩ = some (.slice za j zc)) (fun _=>True)) (by as_aux_lemma=>kernel_rfl) ?_)
    have hc0b:Kb F [58] w9 w9.drew:=(Kb.refl F [58] w9).drew
    generalize w9.drew = y0 at *
    refine wpAnyG.tT 0 (v:=.pointer (some ⟨F + 3,6,none⟩)) (by decide) 5 (by as_aux_lemma=>kernel_rfl) (by rfl) ?y0 (HBXb _ hc0b) ?_
    case y0 =>
     rintro w' q0
     simp only [lgA,lgZ]
     go_simp
    simp only [lgA,lgZ,Act.put,lsA,lsZ,lsS]
    refine wpAnyG.tT 1 (v:=.slice za j zc) (by decide) 5 (by as_aux_lemma=>kernel_rfl) (by rfl) ?y1 (HBXb _ hc0b) ?_
    case y1 =>
     rintro w' q0
     simp only [lgA,lgZ,lgS]
     go_simp
    simp only [lgA,lgZ,lgS,Act.put,lsA,lsZ,lsS]
    refine wpAnyG.one 2 (by as_aux_lemma=>kernel_rfl) (by decide) (by rfl) (fun K hK=>?_)
    simp only [lgA,lgZ,lgS]
    go_simp
    refine (rnumU (e:=10) (F:=F) y0 RQ0b (by omega) ha0b (by omega) (.inr rfl) HNN.out).mono ?_
    rintro en y1 ⟨f17,c17,n17,k17,d17,m17,l17,b17,ok17,rfl,kk1b,hq17,hb17,h17⟩
    have hc1b:Kb F [58] w9 y1:=hc0b.trans kk1b
    dsimp only
    refine hK _ _ ⟨fun _=>HBXb _ hc1b,fun _=>trivial⟩ ?_
    clear hK K
    refine wpAnyG.one 3 (by as_aux_lemma=>kernel_rfl) (by decide) (by rfl) (fun K hK=>?_)
    simp only [lgA,lgZ,lgS]
    go_simp
    have hy:=bel_d0 y1 (.cells #[.bool f17,.slice c17 n17 k17,.slice d17 m17 l17] 27)
    have hc2b:Kb F [58] w9 (y1.alloc (.cells #[.bool f17,.slice c17 n17 k17,.slice d17 m17 l17] 27)):=hc1b.bel hy hFUb
    have BXb:=box_new y1 #[.bool f17,.slice c17 n17 k17,.slice d17 m17 l17] 27
    have hq18:=hq17.below hy
    have GNb:Hid ((ok17 = ok7∧∃ r,s.data.toList.drop b7 = tq r ++ 10 :: s.data.toList.drop b17∧GR (y1.alloc (.cells #[.bool f17,.slice c17 n17 k17,.slice d17 m17 l17] 27)) F f17 c17 n17 k17 d17 m17 l17 r 5000000)∨(ok17 = false∧∀ r m,¬ s.data.toList.drop b7 = tq r ++ 10 :: m)):=h17.imp (fun h=>⟨h.1,h.2.imp fun r h=>⟨h.1,h.2.below hy⟩⟩) id
    clear h17 hq17
    generalize hHzb:y1.heap.size = hzb at *
    generalize y1.alloc (.cells #[.bool f17,.slice c17 n17 k17,.slice d17 m17 l17] 27) = y2 at *
    refine hK _ _ ⟨fun _=>HBXb _ hc2b,fun _=>trivial⟩ ?_
    clear hK K
    refine wpAnyG.one 4 (by as_aux_lemma=>kernel_rfl) (by decide) (by rfl) (fun K hK=>?_)
    simp only [lgA,lgZ,lgS]
    have SLZb:=SE4.kb hc2b (by decide)
    have hFzb:F≤y2.heap.size:=by have:=hc2b.size;omega
    refine wp_appS y2 _ _ 33 27 3 56 1 rfl Tryz.underlying33 infRat (by decide) (by decide) (by decide) (by decide) F (.slice za j zc) j _ rfl SLZb hzb 1 rfl (fun _=>[.bool f17,.slice c17 n17 k17,.slice d17 m17 l17]) [.bool f17,.slice c17 n17 k17,.slice d17 m17 l17] rfl (fun i hi j u hu=>by obtain rfl:i = 0:=(by omega);have hj:=(List.getElem?_eq_some_iff.1 hu).1;exact ⟨hj,by simpa using hu⟩) (fun u hu=>by simp at hu;rcases hu with rfl | rfl | rfl <;> rfl) BXb (by omega) hFzb _ rfl ?_
    intro g18 cap18 w18 SNb hgb hatb hglb
    have kGb:Kb F [27] y2 w18:=kb_grown SLZb (Nat.le_refl _) hFzb hgb
    have e0b:=(World.cell?_of_block (w:=y2) (a:=⟨F + 3,6,none⟩) (show w18.heap[F + 3]? = y2.heap[F + 3]? from (kGb.high _ _ _ _ (Rw.kb RC3b hc2b (by decide)) (by decide)))).trans (HBXb _ hc2b)
    have e1b:=(Rw.kb (Rw.kb RC3b hc2b (by decide)) kGb (by decide)).frozen 6
    refine hK _ _ ⟨fun _=>e0b,fun _=>trivial⟩ ?_
    clear hK K
    refine wpAnyG.one 5 (by as_aux_lemma=>kernel_rfl) (by decide) (by rfl) (fun K hK=>?_)
    simp only [lgA,lgZ,lgS]
    go_simp
    refine hK _ _ ⟨fun h=>absurd h (by decide),fun _=>trivial⟩ ?_
    clear hK K
    refine wpAnyG.one 6 (by as_aux_lemma=>kernel_rfl) (by decide) (by rfl) (fun K hK=>?_)
    simp only [lgA,lgZ,lgS]
    go_simp
    refine hK _ _ ⟨fun h=>absurd h (by decide),fun _=>trivial⟩ ?_
    clear hK K
    refine wpAnyG.done (by as_aux_lemma=>kernel_rfl) (NoPanic.normal ?_)
    have S18:=(S9.kbQ hc2b hq18 hb17).kbR kGb
    have SC:=Rw.setK S18.rc 6 (.slice (some ⟨g18,0,none⟩) (j + 1) cap18)
    have S19:St w (w18.setCell ⟨F + 3,6,none⟩ (.slice (some ⟨g18,0,none⟩) (j + 1) cap18)) F P s b17 ok17 #[.int .i64 ((3:Nat):Int),.bool false,.slice none 0 0,.slice none 0 0,.slice (some ⟨g8,0,none⟩) (j + 1) cap8,yv,.slice (some ⟨g18,0,none⟩) (j + 1) cap18]:=S18.setC SC.2 SC.1
    have kS2:Kb F [35] w18 (w18.setCell ⟨F + 3,6,none⟩ (.slice (some ⟨g18,0,none⟩) (j + 1) cap18)):=kb_off S18.rc (by omega) SC.2
    have T19:StS (w18.setCell ⟨F + 3,6,none⟩ (.slice (some ⟨g18,0,none⟩) (j + 1) cap18)) F 3 P s (1 + (j + 1)) b17 (j + 1) 0 (j + 1) ok17 #[.int .i64 ((3:Nat):Int),.bool false,.slice none 0 0,.slice none 0 0,.slice (some ⟨g8,0,none⟩) (j + 1) cap8,yv,.slice (some ⟨g18,0,none⟩) (j + 1) cap18]:=by
     have hw:([118,97,114]:List UInt8) ++ 32 :: nmR.data.toList = wVar (vnm P j):=by rw [HNM.out];rfl
     rcases line_step2 HL3.out GN.out GNb.out with ⟨h1,r,q,h2,h3,h4⟩ | ⟨h1,h2⟩
     ·rw [hw] at h2
      exact .inl ⟨h1,_,var3_put hlt HLN2.out HSE.out HEE.out HSE2.out HEE2.out HNY.out HDJ.out HC2.out HFZ.out HSN.out Hhg.out Hhat.out HkS.out h3 hc2b hFzb SNb hgb hatb kS2 h4 h2⟩
     ·rw [hw] at h2
      obtain ⟨w1,w2⟩:=var_W (v:=3) (vn:=P.vn) (rn:=P.rn) (V:=vnm P) (U:=unm P) (j:=j) hlt
      exact .inr ⟨h1,no_ans HLN2.out (var_lt (v:=3) (j:=j) hlt) (fun rs b h3 h4=>h2 rs b (by rw [h3];exact w2) (by rw [← w1];exact h4))⟩
    clear S18 SC kS2 SNb hgb hatb hglb GN GNb kGb hq18 hc2b hc1b hc0b HBXb RC3b S9 SE4 HL3 HLN2 HNY HEE HEE2 HDJ HSE HSE2 hHzb BXb HkS HSN Hhg Hhat HC2 HFZ
    generalize w18.setCell ⟨F + 3,6,none⟩ (.slice (some ⟨g18,0,none⟩) (j + 1) cap18) = w19 at *
    go_wp2
    go_roundw
    case rel=>first | exact ⟨j + 1,_,_,_,by omega,by go_num,S19,⟨_,rfl,fun _=>rfl⟩,T19⟩ | ((repeat apply Exists.intro);refine ⟨?_,rfl⟩;exact ⟨j + 1,_,_,_,by omega,by go_num,S19,⟨_,rfl,fun _=>rfl⟩,T19⟩)
    case measure=>simp [intOf];omega
   ·have hkI:¬ (j:Int) < (P.vn:Int):=by omega
    obtain rfl:j = P.vn:=by omega
    have v0:wr.cell? ⟨F + 3,0,none⟩ = some (Value.int .i64 3):=(S5.rc.cell 0).trans hzq
    have HO:Hid (∃ R,OkS wr F 3 P s R (1 + P.vn) a P.vn 0 P.vn cs):=⟨R,hO⟩
    have p6:=(S5.bp.cell 6).trans (show _ = some (Value.slice P.ra P.rn P.rc) from rfl)
    clear hO hzq hz3
    go_wp2_with fail
    refine wp_loop_once ?_
    by_cases hrz:0 < P.rn
    ·have hrI:(0:Int) < (P.rn:Int):=by omega
     cases bw
     ·have HNW:Hid (¬ Whl19 P):=fun h=>by have:=HBW.out.2 h;cases this
      go_wp2_with fail
      clear q2
      refine (rwordU (e:=10) (F:=F) _ S5.rq (by omega) S5.ha (by omega) (.inr rfl)).mono ?_
      rintro en w6 ⟨t6,b6,ok6,rfl,k6,hq6,hb6,h⟩
      have S6:=S5.kbQ k6 hq6 hb6
      have T6:=okS_kb HO.out k6 (by decide) (by decide)
      clear S5 k6 hq6 HO
      by_cases ht:t6 = ⟨#[101,110,100]⟩
      ·subst ht
       obtain ⟨rfl,HE⟩:ok6 = true∧Hid (s.data.toList.drop a = wEnd ++ 10 :: s.data.toList.drop b6):=by
        rcases h with ⟨h1,_,h3⟩ | ⟨_,h2,_⟩
        ·exact ⟨h1,h3⟩
        ·cases h2
       clear h
       have q2:=(Rw.cell S6.rq 2).trans (show _ = some (Value.bool true) from rfl)
       have q1:=(Rw.cell S6.rq 1).trans (show _ = some (Value.int .i64 (b6:Int)) from rfl)
       have q0:=(Rw.cell S6.rq 0).trans (show _ = some (Value.string s) from rfl)
       by_cases hbe:b6 = s.size
       ·have hbI:(b6:Int) = (s.size:Int):=by omega
        have HBE:Hid (b6 = s.size):=hbe
        clear hbe
        obtain ⟨R,hA,hC⟩:=okS_end T6 HE.out HBE.out
        have HA:Hid (Ans 3 P.vn (vnm P) P.rn (unm P) s.data.toList R):=hA
        obtain ⟨p,a1,na,ca,d,nd,cd,xa,xc,ya,yc,za,zc,rfl,hC'⟩:=id hC
        have HC:Hid (CtQ w6 F 3 P.vn P.rn R _):=hC
        clear hA hC hC' T6
        have y0:=(S6.rc.cell 0).trans (show _ = some (Value.int .i64 ((3:Nat):Int)) from rfl)
        have y1:=(S6.rc.cell 1).trans (show _ = some (Value.bool p) from rfl)
        have y2:=(S6.rc.cell 2).trans (show _ = some (Value.slice a1 na ca) from rfl)
        have y3:=(S6.rc.cell 3).trans (show _ = some (Value.slice d nd cd) from rfl)
        have y4:=(S6.rc.cell 4).trans (show _ = some (Value.slice xa (nvV 3 P.vn) xc) from rfl)
        have y5:=(S6.rc.cell 5).trans (show _ = some (Value.slice ya (nrV 3 P.rn) yc) from rfl)
        have y6:=(S6.rc.cell 6).trans (show _ = some (Value.slice za (nzV 3 P.vn) zc) from rfl)
        have z0:=(S6.r4.cell 0).trans (show _ = some (Value.int .i64 0) from rfl)
        have zf0:=S6.r4.frozen 0
        have z1:=(S6.r4.cell 1).trans (show _ = some (Value.bool false) from rfl)
        have zf1:=S6.r4.frozen 1
        have z2:=(S6.r4.cell 2).trans (show _ = some (Value.slice none 0 0) from rfl)
        have zf2:=S6.r4.frozen 2
        have z3:=(S6.r4.cell 3).trans (show _ = some (Value.slice none 0 0) from rfl)
        have zf3:=S6.r4.frozen 3
        have z4:=(S6.r4.cell 4).trans (show _ = some (Value.slice none 0 0) from rfl)
        have zf4:=S6.r4.frozen 4
        have z5:=(S6.r4.cell 5).trans (show _ = some (Value.slice none 0 0) from rfl)
        have zf5:=S6.r4.frozen 5
        have z6:=(S6.r4.cell 6).trans (show _ = some (Value.slice none 0 0) from rfl)
        have zf6:=S6.r4.frozen 6
        obtain ⟨R9,O9⟩:=Rw.sev (b0:=.int .i64 ((3:Nat):Int)) (b1:=.bool p) (b2:=.slice a1 na ca) (b3:=.slice d nd cd) (b4:=.slice xa (nvV 3 P.vn) xc) (b5:=.slice ya (nrV 3 P.rn) yc) (b6:=.slice za (nzV 3 P.vn) zc) S6.r4
        have kk:Kb F [35] w6 _:=kb_off S6.r4 (by omega) O9
        have HC9:=ctQ_kb HC.out kk (by decide) (by decide)
        generalize nvV 3 P.vn = nxx at *
        generalize nrV 3 P.rn = nyy at *
        generalize nzV 3 P.vn = nzz at *
        go_wp2
        exact bodyPost_ret (R9.ret2 Tryz.results5 _ rfl Tryz.underlying35 certI) rfl ⟨by rw [HFW.out];exact S6.bel.trans (O9.below (by omega)),.inl ⟨3,R,_,by omega,by omega,HNW.out,HA.out,by rw [HFW.out];exact HC9,rfl⟩⟩
       ·have hbI:¬ (b6:Int) = (s.size:Int):=by omega
        have hbb:((b6:Int) != (s.size:Int)) = true:=by simpa using hbI
        have HX:Hid (∀ R,¬ Ans 3 P.vn (vnm P) P.rn (unm P) s.data.toList R):=okS_tail T6 HE.out hb6 hbe
        clear T6 hbe
        have z0:=(S6.r4.cell 0).trans (show _ = some (Value.int .i64 0) from rfl)
        have zf0:=S6.r4.frozen 0
        have z1:=(S6.r4.cell 1).trans (show _ = some (Value.bool false) from rfl)
        have zf1:=S6.r4.frozen 1
        have z2:=(S6.r4.cell 2).trans (show _ = some (Value.slice none 0 0) from rfl)
        have zf2:=S6.r4.frozen 2
        have z3:=(S6.r4.cell 3).trans (show _ = some (Value.slice none 0 0) from rfl)
        have zf3:=S6.r4.frozen 3
        have z4:=(S6.r4.cell 4).trans (show _ = some (Value.slice none 0 0) from rfl)
        have zf4:=S6.r4.frozen 4
        have z5:=(S6.r4.cell 5).trans (show _ = some (Value.slice none 0 0) from rfl)
        have zf5:=S6.r4.frozen 5
        have z6:=(S6.r4.cell 6).trans (show _ = some (Value.slice none 0 0) from rfl)
        have zf6:=S6.r4.frozen 6
        have E9:=Rw.sev (b0:=.int .i64 0) (b1:=.bool false) (b2:=.slice none 0 0) (b3:=.slice none 0 0) (b4:=.slice none 0 0) (b5:=.slice none 0 0) (b6:=.slice none 0 0) S6.r4
        go_wp2
        refine bodyPost_ret (E9.1.ret2 Tryz.results5 _ rfl Tryz.underlying35 certI) rfl ⟨by rw [HFW.out];exact S6.bel.trans (E9.2.below (by omega)),.inr ⟨.inr fun v' R h1 h2 h3=>no_other HLL.out (by decide) (by decide) h1 h2 h3 HX.out,rfl⟩⟩
      ·have htb:(t6.toList == [101,110,100]) = false:=str_ne6 ht
       have htc:(t6.toList != [101,110,100]) = true:=by rw [bne,htb];rfl
       have HX:Hid (∀ R,¬ Ans 3 P.vn (vnm P) P.rn (unm P) s.data.toList R):=okS_word T6 (fun m h'=>ht (by
        rcases h with ⟨_,h2,h3⟩ | ⟨_,_,h3⟩
        ·rw [h3] at h'
         exact ba_eq (nob_split (.inr rfl) h2 (by intro b hb;revert b;decide) (fun b t hbt=>by simp only [List.cons.injEq] at hbt;exact .inr hbt.1.symm) h').1
        ·exact absurd (by intro b hb;revert b;decide) (h3 _ _ h')))
       clear T6 h ht
       have z0:=(S6.r4.cell 0).trans (show _ = some (Value.int .i64 0) from rfl)
       have zf0:=S6.r4.frozen 0
       have z1:=(S6.r4.cell 1).trans (show _ = some (Value.bool false) from rfl)
       have zf1:=S6.r4.frozen 1
       have z2:=(S6.r4.cell 2).trans (show _ = some (Value.slice none 0 0) from rfl)
       have zf2:=S6.r4.frozen 2
       have z3:=(S6.r4.cell 3).trans (show _ = some (Value.slice none 0 0) from rfl)
       have zf3:=S6.r4.frozen 3
       have z4:=(S6.r4.cell 4).trans (show _ = some (Value.slice none 0 0) from rfl)
       have zf4:=S6.r4.frozen 4
       have z5:=(S6.r4.cell 5).trans (show _ = some (Value.slice none 0 0) from rfl)
       have zf5:=S6.r4.frozen 5
       have z6:=(S6.r4.cell 6).trans (show _ = some (Value.slice none 0 0) from rfl)
       have zf6:=S6.r4.frozen 6
       have E9:=Rw.sev (b0:=.int .i64 0) (b1:=.bool false) (b2:=.slice none 0 0) (b3:=.slice none 0 0) (b4:=.slice none 0 0) (b5:=.slice none 0 0) (b6:=.slice none 0 0) S6.r4
       go_wp2
       refine bodyPost_ret (E9.1.ret2 Tryz.results5 _ rfl Tryz.underlying35 certI) rfl ⟨by rw [HFW.out];exact S6.bel.trans (E9.2.below (by omega)),.inr ⟨.inr fun v' R h1 h2 h3=>no_other HLL.out (by decide) (by decide) h1 h2 h3 HX.out,rfl⟩⟩
     ·have HWH:Hid (Whl19 P):=HBW.out.1 rfl
      have z0:=(S5.r4.cell 0).trans (show _ = some (Value.int .i64 0) from rfl)
      have zf0:=S5.r4.frozen 0
      have z1:=(S5.r4.cell 1).trans (show _ = some (Value.bool false) from rfl)
      have zf1:=S5.r4.frozen 1
      have z2:=(S5.r4.cell 2).trans (show _ = some (Value.slice none 0 0) from rfl)
      have zf2:=S5.r4.frozen 2
      have z3:=(S5.r4.cell 3).trans (show _ = some (Value.slice none 0 0) from rfl)
      have zf3:=S5.r4.frozen 3
      have z4:=(S5.r4.cell 4).trans (show _ = some (Value.slice none 0 0) from rfl)
      have zf4:=S5.r4.frozen 4
      have z5:=(S5.r4.cell 5).trans (show _ = some (Value.slice none 0 0) from rfl)
      have zf5:=S5.r4.frozen 5
      have z6:=(S5.r4.cell 6).trans (show _ = some (Value.slice none 0 0) from rfl)
      have zf6:=S5.r4.frozen 6
      have E9:=Rw.sev (b0:=.int .i64 0) (b1:=.bool false) (b2:=.slice none 0 0) (b3:=.slice none 0 0) (b4:=.slice none 0 0) (b5:=.slice none 0 0) (b6:=.slice none 0 0) S5.r4
      go_wp2
      refine bodyPost_ret (E9.1.ret2 Tryz.results5 _ rfl Tryz.underlying35 certI) rfl ⟨by rw [HFW.out];exact S5.bel.trans (E9.2.below (by omega)),.inr ⟨.inl HWH.out,rfl⟩⟩
    ·have hrI:¬ (0:Int) < (P.rn:Int):=by omega
     cases bw
     ·have HNW:Hid (¬ Whl19 P):=fun h=>by have:=HBW.out.2 h;cases this
      go_wp2_with fail
      clear q2
      refine (rwordU (e:=10) (F:=F) _ S5.rq (by omega) S5.ha (by omega) (.inr rfl)).mono ?_
      rintro en w6 ⟨t6,b6,ok6,rfl,k6,hq6,hb6,h⟩
      have S6:=S5.kbQ k6 hq6 hb6
      have T6:=okS_kb HO.out k6 (by decide) (by decide)
      clear S5 k6 hq6 HO
      by_cases ht:t6 = ⟨#[101,110,100]⟩
      ·subst ht
       obtain ⟨rfl,HE⟩:ok6 = true∧Hid (s.data.toList.drop a = wEnd ++ 10 :: s.data.toList.drop b6):=by
        rcases h with ⟨h1,_,h3⟩ | ⟨_,h2,_⟩
        ·exact ⟨h1,h3⟩
        ·cases h2
       clear h
       have q2:=(Rw.cell S6.rq 2).trans (show _ = some (Value.bool true) from rfl)
       have q1:=(Rw.cell S6.rq 1).trans (show _ = some (Value.int .i64 (b6:Int)) from rfl)
       have q0:=(Rw.cell S6.rq 0).trans (show _ = some (Value.string s) from rfl)
       by_cases hbe:b6 = s.size
       ·have hbI:(b6:Int) = (s.size:Int):=by omega
        have HBE:Hid (b6 = s.size):=hbe
        clear hbe
        obtain ⟨R,hA,hC⟩:=okS_end T6 HE.out HBE.out
        have HA:Hid (Ans 3 P.vn (vnm P) P.rn (unm P) s.data.toList R):=hA
        obtain ⟨p,a1,na,ca,d,nd,cd,xa,xc,ya,yc,za,zc,rfl,hC'⟩:=id hC
        have HC:Hid (CtQ w6 F 3 P.vn P.rn R _):=hC
        clear hA hC hC' T6
        have y0:=(S6.rc.cell 0).trans (show _ = some (Value.int .i64 ((3:Nat):Int)) from rfl)
        have y1:=(S6.rc.cell 1).trans (show _ = some (Value.bool p) from rfl)
        have y2:=(S6.rc.cell 2).trans (show _ = some (Value.slice a1 na ca) from rfl)
        have y3:=(S6.rc.cell 3).trans (show _ = some (Value.slice d nd cd) from rfl)
        have y4:=(S6.rc.cell 4).trans (show _ = some (Value.slice xa (nvV 3 P.vn) xc) from rfl)
        have y5:=(S6.rc.cell 5).trans (show _ = some (Value.slice ya (nrV 3 P.rn) yc) from rfl)
        have y6:=(S6.rc.cell 6).trans (show _ = some (Value.slice za (nzV 3 P.vn) zc) from rfl)
        have z0:=(S6.r4.cell 0).trans (show _ = some (Value.int .i64 0) from rfl)
        have zf0:=S6.r4.frozen 0
        have z1:=(S6.r4.cell 1).trans (show _ = some (Value.bool false) from rfl)
        have zf1:=S6.r4.frozen 1
        have z2:=(S6.r4.cell 2).trans (show _ = some (Value.slice none 0 0) from rfl)
        have zf2:=S6.r4.frozen 2
        have z3:=(S6.r4.cell 3).trans (show _ = some (Value.slice none 0 0) from rfl)
        have zf3:=S6.r4.frozen 3
        have z4:=(S6.r4.cell 4).trans (show _ = some (Value.slice none 0 0) from rfl)
        have zf4:=S6.r4.frozen 4
        have z5:=(S6.r4.cell 5).trans (show _ = some (Value.slice none 0 0) from rfl)
        have zf5:=S6.r4.frozen 5
        have z6:=(S6.r4.cell 6).trans (show _ = some (Value.slice none 0 0) from rfl)
        have zf6:=S6.r4.frozen 6
        obtain ⟨R9,O9⟩:=Rw.sev (b0:=.int .i64 ((3:Nat):Int)) (b1:=.bool p) (b2:=.slice a1 na ca) (b3:=.slice d nd cd) (b4:=.slice xa (nvV 3 P.vn) xc) (b5:=.slice ya (nrV 3 P.rn) yc) (b6:=.slice za (nzV 3 P.vn) zc) S6.r4
        have kk:Kb F [35] w6 _:=kb_off S6.r4 (by omega) O9
        have HC9:=ctQ_kb HC.out kk (by decide) (by decide)
        generalize nvV 3 P.vn = nxx at *
        generalize nrV 3 P.rn = nyy at *
        generalize nzV 3 P.vn = nzz at *
        go_wp2
        exact bodyPost_ret (R9.ret2 Tryz.results5 _ rfl Tryz.underlying35 certI) rfl ⟨by rw [HFW.out];exact S6.bel.trans (O9.below (by omega)),.inl ⟨3,R,_,by omega,by omega,HNW.out,HA.out,by rw [HFW.out];exact HC9,rfl⟩⟩
       ·have hbI:¬ (b6:Int) = (s.size:Int):=by omega
        have hbb:((b6:Int) != (s.size:Int)) = true:=by simpa using hbI
        have HX:Hid (∀ R,¬ Ans 3 P.vn (vnm P) P.rn (unm P) s.data.toList R):=okS_tail T6 HE.out hb6 hbe
        clear T6 hbe
        have z0:=(S6.r4.cell 0).trans (show _ = some (Value.int .i64 0) from rfl)
        have zf0:=S6.r4.frozen 0
        have z1:=(S6.r4.cell 1).trans (show _ = some (Value.bool false) from rfl)
        have zf1:=S6.r4.frozen 1
        have z2:=(S6.r4.cell 2).trans (show _ = some (Value.slice none 0 0) from rfl)
        have zf2:=S6.r4.frozen 2
        have z3:=(S6.r4.cell 3).trans (show _ = some (Value.slice none 0 0) from rfl)
        have zf3:=S6.r4.frozen 3
        have z4:=(S6.r4.cell 4).trans (show _ = some (Value.slice none 0 0) from rfl)
        have zf4:=S6.r4.frozen 4
        have z5:=(S6.r4.cell 5).trans (show _ = some (Value.slice none 0 0) from rfl)
        have zf5:=S6.r4.frozen 5
        have z6:=(S6.r4.cell 6).trans (show _ = some (Value.slice none 0 0) from rfl)
        have zf6:=S6.r4.frozen 6
        have E9:=Rw.sev (b0:=.int .i64 0) (b1:=.bool false) (b2:=.slice none 0 0) (b3:=.slice none 0 0) (b4:=.slice none 0 0) (b5:=.slice none 0 0) (b6:=.slice none 0 0) S6.r4
        go_wp2
        refine bodyPost_ret (E9.1.ret2 Tryz.results5 _ rfl Tryz.underlying35 certI) rfl ⟨by rw [HFW.out];exact S6.bel.trans (E9.2.below (by omega)),.inr ⟨.inr fun v' R h1 h2 h3=>no_other HLL.out (by decide) (by decide) h1 h2 h3 HX.out,rfl⟩⟩
      ·have htb:(t6.toList == [101,110,100]) = false:=str_ne6 ht
       have htc:(t6.toList != [101,110,100]) = true:=by rw [bne,htb];rfl
       have HX:Hid (∀ R,¬ Ans 3 P.vn (vnm P) P.rn (unm P) s.data.toList R):=okS_word T6 (fun m h'=>ht (by
        rcases h with ⟨_,h2,h3⟩ | ⟨_,_,h3⟩
        ·rw [h3] at h'
         exact ba_eq (nob_split (.inr rfl) h2 (by intro b hb;revert b;decide) (fun b t hbt=>by simp only [List.cons.injEq] at hbt;exact .inr hbt.1.symm) h').1
        ·exact absurd (by intro b hb;revert b;decide) (h3 _ _ h')))
       clear T6 h ht
       have z0:=(S6.r4.cell 0).trans (show _ = some (Value.int .i64 0) from rfl)
       have zf0:=S6.r4.frozen 0
       have z1:=(S6.r4.cell 1).trans (show _ = some (Value.bool false) from rfl)
       have zf1:=S6.r4.frozen 1
       have z2:=(S6.r4.cell 2).trans (show _ = some (Value.slice none 0 0) from rfl)
       have zf2:=S6.r4.frozen 2
       have z3:=(S6.r4.cell 3).trans (show _ = some (Value.slice none 0 0) from rfl)
       have zf3:=S6.r4.frozen 3
       have z4:=(S6.r4.cell 4).trans (show _ = some (Value.slice none 0 0) from rfl)
       have zf4:=S6.r4.frozen 4
       have z5:=(S6.r4.cell 5).trans (show _ = some (Value.slice none 0 0) from rfl)
       have zf5:=S6.r4.frozen 5
       have z6:=(S6.r4.cell 6).trans (show _ = some (Value.slice none 0 0) from rfl)
       have zf6:=S6.r4.frozen 6
       have E9:=Rw.sev (b0:=.int .i64 0) (b1:=.bool false) (b2:=.slice none 0 0) (b3:=.slice none 0 0) (b4:=.slice none 0 0) (b5:=.slice none 0 0) (b6:=.slice none 0 0) S6.r4
       go_wp2
       refine bodyPost_ret (E9.1.ret2 Tryz.results5 _ rfl Tryz.underlying35 certI) rfl ⟨by rw [HFW.out];exact S6.bel.trans (E9.2.below (by omega)),.inr ⟨.inr fun v' R h1 h2 h3=>no_other HLL.out (by decide) (by decide) h1 h2 h3 HX.out,rfl⟩⟩
     ·have HWH:Hid (Whl19 P):=HBW.out.1 rfl
      have z0:=(S5.r4.cell 0).trans (show _ = some (Value.int .i64 0) from rfl)
      have zf0:=S5.r4.frozen 0
      have z1:=(S5.r4.cell 1).trans (show _ = some (Value.bool false) from rfl)
      have zf1:=S5.r4.frozen 1
      have z2:=(S5.r4.cell 2).trans (show _ = some (Value.slice none 0 0) from rfl)
      have zf2:=S5.r4.frozen 2
      have z3:=(S5.r4.cell 3).trans (show _ = some (Value.slice none 0 0) from rfl)
      have zf3:=S5.r4.frozen 3
      have z4:=(S5.r4.cell 4).trans (show _ = some (Value.slice none 0 0) from rfl)
      have zf4:=S5.r4.frozen 4
      have z5:=(S5.r4.cell 5).trans (show _ = some (Value.slice none 0 0) from rfl)
      have zf5:=S5.r4.frozen 5
      have z6:=(S5.r4.cell 6).trans (show _ = some (Value.slice none 0 0) from rfl)
      have zf6:=S5.r4.frozen 6
      have E9:=Rw.sev (b0:=.int .i64 0) (b1:=.bool false) (b2:=.slice none 0 0) (b3:=.slice none 0 0) (b4:=.slice none 0 0) (b5:=.slice none 0 0) (b6:=.slice none 0 0) S5.r4
      go_wp2
      refine bodyPost_ret (E9.1.ret2 Tryz.results5 _ rfl Tryz.underlying35 certI) rfl ⟨by rw [HFW.out];exact S5.bel.trans (E9.2.below (by omega)),.inr ⟨.inl HWH.out,rfl⟩⟩
end Go.Proofs.YtnkpbjmfdfjeiaaGreatDoor

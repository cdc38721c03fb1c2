import Derived.Test.YtjiodidemimgmaaGreatDoorBpV
import Derived.Test.YtjiodidemimgmaaGreatDoorBpH1All
namespace Go.Proofs.YtjiodidemimgmaaGreatDoor
open Go.RowKit
theorem brt_at' {X:Nat→RoD} {m i:Nat} (hi:i < m):brt X m (i:Int) = (X i).r:=by
 unfold brt
 rw [if_pos ⟨by omega,by omega⟩,Int.toNat_natCast]
theorem bat_at' {X:Nat→RoD} {m i:Nat} (hi:i < m) (j:Int):bat X m (i:Int) j = latI (X i).l j:=by
 unfold bat
 rw [if_pos ⟨by omega,by omega⟩,Int.toNat_natCast]
set_option maxRecDepth 100000 in
set_option maxHeartbeats 8000000 in
theorem says_walk {s:StD} {K KC:Nat} {sa:Option Addr} {sn sc:Nat} {O:Nat→OpD} {ev0 ev1 ev2:Value} (w:World) (hAw:∀ w',Below w.heap.size w w'→Calls Tryz.prog 4 #[] w' fun e w''=>e = .returned (.bool true)∧Below w'.heap.size w' w'') (hs:StQ w s K) (Z1:GmZ s K KC) (hO:OpL w sa sn O KC) (hOk:∀ i,i < sn→(O i).cn≤(O i).cc∧(O i).cn≤3000000∧∀ k,k≤(O i).cn→CsZ (lco (O i).Y k) (s.cn + s.bn) KC) (hsn:sn≤100000000) (hT:TB w) (E0:Errs w 0 ev0) (E1:Errs w 1 ev1) (E2:Errs w 2 ev2) :
  Calls Tryz.prog 3 #[.agg #[.slice s.aa s.an s.ac,.slice s.ba s.bn s.bc,.slice s.ca s.cn s.cc,.bool s.zp,.slice s.za s.zn s.zc,.slice s.zd s.zm s.ze],.slice sa sn sc] w fun e w'=>e = .returned (.bool true)∧Below w.heap.size w w':=by
 have BX:=box_new w #[.slice s.aa s.an s.ac,.slice s.ba s.bn s.bc,.slice s.ca s.cn s.cc,.bool s.zp,.slice s.za s.zn s.zc,.slice s.zd s.zm s.ze] 31
 have hb0:=bel_d0 w (.cells #[.slice s.aa s.an s.ac,.slice s.ba s.bn s.bc,.slice s.ca s.cn s.cc,.bool s.zp,.slice s.za s.zn s.zc,.slice s.zd s.zm s.ze] 31)
 have hW0:w.heap.size < (w.alloc (.cells #[.slice s.aa s.an s.ac,.slice s.ba s.bn s.bc,.slice s.ca s.cn s.cc,.bool s.zp,.slice s.za s.zn s.zc,.slice s.zd s.zm s.ze] 31)).heap.size:=by simp
 go_enter Tryz.func3,Tryz.ntmps3
 go_wp2_with fail
 generalize w.alloc (.cells #[.slice s.aa s.an s.ac,.slice s.ba s.bn s.bc,.slice s.ca s.cn s.cc,.bool s.zp,.slice s.za s.zn s.zc,.slice s.zd s.zm s.ze] 31) = W0 at *
 refine (hAw W0 hb0).mono ?_
 clear hAw
 rintro e w1 ⟨rfl,h1⟩
 have hb1:=bel_tr hb0 h1
 replace BX:=BX.below h1
 have x0:=BX 0 _ rfl
 have x1:=BX 1 _ rfl
 have x2:=BX 2 _ rfl
 have x3:=BX 3 _ rfl
 have x4:=BX 4 _ rfl
 have x5:=BX 5 _ rfl
 go_wp2_with fail
 clear x0 x1 x2 x3 x4 x5
 refine (playedB w1 (hs.below hb1) Z1 (hO.below hb1) hOk hsn (hT.below hb1) (E0.below hb1) (E1.below hb1) (E2.below hb1)).mono ?_
 rintro e w2 ⟨F,f,X,b,lc0,rfl,hF1,hF2,G,h2⟩
 have hb2:=bel_tr hb1 h2
 replace BX:=BX.below h2
 have hP1:=Z1.k
 have hP2:=Z1.kc
 obtain ⟨R,eR⟩:∃ R,R = f.b:=⟨_,rfl⟩
 have HR0:Hid (f.b = R):=eR.symm
 rw [← eR]
 clear eR
 have hNN:s.cn + f.m≤3000000:=by rw [G.m];exact Z1.n
 have HM:Hid (f.m = s.bn):=G.m
 have GB:=G.bd
 have hPly:=G.p
 have hT2:=hT.below hb2
 have hs2:=hs.below hb2
 have hAt:∀ z (i j:Nat),i < s.bn→Below w2.heap.size w2 z→Calls Tryz.prog 8 #[.pointer (some ⟨R,0,none⟩),.int .i64 (i:Nat),.int .i64 (j:Nat)] z fun e w'=>NumP z (lat (X i).l j) K e w':=fun z i j hi hz=>by
  have h:=atBB (i:Int) (j:Int) z (GB.below hz) hNN ⟨hP1.1,by omega⟩ (hT2.below hz)
  rw [HM.out,bat_at' hi,latI_nat,HR0.out] at h
  exact h
 have hRt:∀ z (i:Nat),i < s.bn→Below w2.heap.size w2 z→Calls Tryz.prog 10 #[.pointer (some ⟨R,0,none⟩),.int .i64 (i:Nat)] z fun e w'=>NumP z (X i).r K e w':=fun z i hi hz=>by
  have h:=rightB (i:Int) z (GB.below hz) ⟨hP1.1,by omega⟩ (hT2.below hz)
  rw [HM.out,brt_at' hi,HR0.out] at h
  exact h
 have HSZ:Hid (∀ r j n,r < s.bn→n≤s.bn→SzR (rsum (fun k=>lat (X r).l (s.cn + k) * TX s.row (s.cn + s.bn) (s.bj j) k) n) (K + K)):=fun r j n hr hn=>by
  obtain ⟨z,hz,hzk⟩:=Z1.z
  exact (hPly.saysZ hz hr (s.bj_lt j) hn).le (by omega)
 have HEQ:Hid (∀ r j,r < s.bn→j≤s.cn→(if j < s.cn then lat (X r).l j else (X r).r) = (rsum (fun k=>lat (X r).l (s.cn + k) * TX s.row (s.cn + s.bn) (s.bj j) k) s.bn)):=fun r j hr hj=>by
  rw [← hPly.lin (s.bj j) hr]
  unfold StD.bj TX
  by_cases h:j < s.cn
  ·rw [if_pos h,if_pos h,if_pos (by omega)]
  ·rw [if_neg h,if_neg h,if_neg (by omega)]
 have KB:Hid (∀ z,Below w2.heap.size w2 z→BoxC z w.heap.size [.slice s.aa s.an s.ac,.slice s.ba s.bn s.bc,.slice s.ca s.cn s.cc,.bool s.zp,.slice s.za s.zn s.zc,.slice s.zd s.zm s.ze]):=fun z hz=>BX.below hz
 have hbn:s.bn≤3000000:=by have:=Z1.n;omega
 have hcn2:s.cn≤3000000:=by have:=Z1.n;omega
 have hcn3:s.cn + s.bn≤3000000:=Z1.n
 have y1:=BX 1 _ rfl
 have y2:=BX 2 _ rfl
 clear hO hOk GB G hNN hT2 HR0 HM BX h2 hPly
 go_wp2
 clear y1 y2
 go_loopw [9] (fun sr wr=>∃ r:Nat,r≤s.bn∧sr = .int .i64 r∧Below w2.heap.size w2 wr) (fun x _=>s.bn - (intOf x).toNat)
 case atStart=>exact ⟨0,Nat.zero_le _,rfl,Below.refl _ _⟩
 case round =>
  obtain ⟨r,hr,rfl,hbr⟩:=hrel
  by_cases hlr:r < s.bn
  ·have hrI:(r:Int) < (s.bn:Int):=by omega
   obtain ⟨v2,ev2⟩:∃ v2,v2 = wr:=⟨_,rfl⟩
   subst ev2
   go_wp2
   go_loopw [10] (fun sj wr=>∃ j:Nat,j≤s.cn + 1∧sj = .int .i64 j∧Below w2.heap.size w2 wr) (fun x _=>s.cn + 1 - (intOf x).toNat)
   case atStart=>exact ⟨0,Nat.zero_le _,rfl,hbr⟩
   case round =>
    obtain ⟨j,hj,rfl,hbt⟩:=hrel
    by_cases hlj:j≤s.cn
    ·have hjI:(j:Int)≤(s.cn:Int):=by omega
     go_wp2_with fail
     refine (ofD 0 wr (by decide) (by decide)).mono ?_
     rintro e w5 ⟨p0,a0,n0,c0,d0,m0,e0,rfl,G5,h5⟩
     have k5:=bel_d0 w5 (.cells #[.bool p0,.slice a0 n0 c0,.slice d0 m0 e0] 29)
     have RW5:=Rw.new 29 w5 #[.bool p0,.slice a0 n0 c0,.slice d0 m0 e0]
     have GW5:GR (w5.alloc (.cells #[.bool p0,.slice a0 n0 c0,.slice d0 m0 e0] 29)) 0 p0 a0 n0 c0 d0 m0 e0 (rsum (fun k=>lat (X r).l (s.cn + k) * TX s.row (s.cn + s.bn) (s.bj j) k) 0) (K + K):=((G5.mono (Nat.zero_le _)).below k5).val (show ((0:Int):Rat) = 0 from rfl) |>.le (by omega)
     obtain ⟨RW,eRW⟩:∃ RW,RW = w5.heap.size:=⟨_,rfl⟩
     rw [← eRW] at RW5
     have hRWw:w5.heap.size≤RW:=by omega
     have b5:=h5
     have hbw5:=bel_tr hbt h5
     clear G5 h5
     go_wp2
     try rw [← eRW]
     clear eRW
     generalize w5.alloc (.cells #[.bool p0,.slice a0 n0 c0,.slice d0 m0 e0] 29) = U5 at *
     obtain ⟨wt,ewt⟩:∃ wt,wt = wr:=⟨_,rfl⟩
     subst ewt
     go_loopw [12] (fun si wr=>∃ (i:Nat) (p0:Bool) (a0:Option Addr) (n0 c0:Nat) (d0:Option Addr) (m0 e0:Nat),i≤s.bn∧si = .int .i64 i∧Rw 29 wr RW #[.bool p0,.slice a0 n0 c0,.slice d0 m0 e0]∧GR wr 0 p0 a0 n0 c0 d0 m0 e0 (rsum (fun k=>lat (X r).l (s.cn + k) * TX s.row (s.cn + s.bn) (s.bj j) k) i) (K + K)∧Below w5.heap.size w5 wr) (fun x _=>s.bn - (intOf x).toNat)
     case atStart=>exact ⟨0,p0,a0,n0,c0,d0,m0,e0,Nat.zero_le _,rfl,RW5,GW5,k5⟩
     case round =>
      clear RW5 GW5 k5
      obtain ⟨i,p0,a0,n0,c0,d0,m0,e0,hi,rfl,RV,G0,hbu⟩:=hrel
      have BU:=KB.out wr (bel_tr hbw5 hbu)
      have v0:=(RV.cell 0).trans (show _ = some (.bool p0) from rfl)
      have v1:=(RV.cell 1).trans (show _ = some (.slice a0 n0 c0) from rfl)
      have v2:=(RV.cell 2).trans (show _ = some (.slice d0 m0 e0) from rfl)
      by_cases hlt:i < s.bn
      ·have hiI:(i:Int) < (s.bn:Int):=by omega
       obtain ⟨nk,enk⟩:∃ nk:Nat,nk = s.cn + i:=⟨_,rfl⟩
       have hnk:(s.cn:Int) + (i:Int) = (nk:Int):=by omega
       have HNK:Hid (nk = s.cn + i):=enk
       have hnk2:nk≤3000000:=by omega
       have hwk:IntKind.i64.wrap (nk:Int) = (nk:Int):=by rw [IntKind.wrap_i64];omega
       clear enk
       have HB17:∀ w',Below wr.heap.size wr w'→(w'.cell? ⟨RW,0,none⟩ = some (.bool p0)∧w'.cell? ⟨RW,1,none⟩ = some (.slice a0 n0 c0)∧w'.cell? ⟨RW,2,none⟩ = some (.slice d0 m0 e0)∧w'.cell? ⟨w.heap.size,0,none⟩ = some (.slice s.aa s.an s.ac)∧w'.cell? ⟨w.heap.size,1,none⟩ = some (.slice s.ba s.bn s.bc)∧w'.cell? ⟨w.heap.size,2,none⟩ = some (.slice s.ca s.cn s.cc)∧w'.cell? ⟨w.heap.size,3,none⟩ = some (.bool s.zp)∧w'.cell? ⟨w.heap.size,4,none⟩ = some (.slice s.za s.zn s.zc)∧w'.cell? ⟨w.heap.size,5,none⟩ = some (.slice s.zd s.zm s.ze)):=fun w' h=>⟨kept_c h v0,kept_c h v1,kept_c h v2,kept_c h (BU 0 _ rfl),kept_c h (BU 1 _ rfl),kept_c h (BU 2 _ rfl),kept_c h (BU 3 _ rfl),kept_c h (BU 4 _ rfl),kept_c h (BU 5 _ rfl)⟩
       clear v0 v1 v2
       go_wp2_with fail
       refine wp_region_noPanic (wp_region_guardT 12 HB17 (by as_aux_lemma=>kernel_rfl) ?_)
       have hc0:Below wr.heap.size wr wr.drew:=bel_d1 _
       generalize wr.drew = z0 at *
       refine wpAnyG.tT 0 (v:=.agg #[.bool p0,.slice a0 n0 c0,.slice d0 m0 e0]) (by decide) 12 (by as_aux_lemma=>kernel_rfl) (by rfl) ?y0 (HB17 _ hc0) ?_
       case y0 =>
        rintro w' ⟨q0,q1,q2,q3,q4,q5,q6,q7,q8⟩
        simp only [lgA,lgZ]
        go_simp
       simp only [lgA,lgZ,Act.put,lsA,lsZ,lsS]
       refine wpAnyG.tT 1 (v:=.pointer (some ⟨R,0,none⟩)) (by decide) 12 (by as_aux_lemma=>kernel_rfl) (by rfl) ?y1 (HB17 _ hc0) ?_
       case y1 =>
        rintro w' ⟨q0,q1,q2,q3,q4,q5,q6,q7,q8⟩
        simp only [lgA,lgZ,lgS]
        go_simp
       simp only [lgA,lgZ,lgS,Act.put,lsA,lsZ,lsS]
       refine wpAnyG.tT 2 (v:=.int .i64 (r:Int)) (by decide) 12 (by as_aux_lemma=>kernel_rfl) (by rfl) ?y2 (HB17 _ hc0) ?_
       case y2 =>
        rintro w' ⟨q0,q1,q2,q3,q4,q5,q6,q7,q8⟩
        simp only [lgA,lgZ,lgS]
        go_simp
       simp only [lgA,lgZ,lgS,Act.put,lsA,lsZ,lsS]
       refine wpAnyG.tT 3 (v:=.int .i64 (s.cn:Int)) (by decide) 12 (by as_aux_lemma=>kernel_rfl) (by rfl) ?y3 (HB17 _ hc0) ?_
       case y3 =>
        rintro w' ⟨q0,q1,q2,q3,q4,q5,q6,q7,q8⟩
        simp only [lgA,lgZ,lgS]
        go_simp
       simp only [lgA,lgZ,lgS,Act.put,lsA,lsZ,lsS]
       refine wpAnyG.tT 4 (v:=.int .i64 (i:Int)) (by decide) 12 (by as_aux_lemma=>kernel_rfl) (by rfl) ?y4 (HB17 _ hc0) ?_
       case y4 =>
        rintro w' ⟨q0,q1,q2,q3,q4,q5,q6,q7,q8⟩
        simp only [lgA,lgZ,lgS]
        go_simp
       simp only [lgA,lgZ,lgS,Act.put,lsA,lsZ,lsS]
       refine wpAnyG.tT 5 (v:=.int .i64 (nk:Int)) (by decide) 12 (by as_aux_lemma=>kernel_rfl) (by rfl) ?y5 (HB17 _ hc0) ?_
       case y5 =>
        rintro w' ⟨q0,q1,q2,q3,q4,q5,q6,q7,q8⟩
        simp only [lgA,lgZ,lgS]
        go_simp
       simp only [lgA,lgZ,lgS,Act.put,lsA,lsZ,lsS]
       refine wpAnyG.tT 7 (v:=.agg #[.slice s.aa s.an s.ac,.slice s.ba s.bn s.bc,.slice s.ca s.cn s.cc,.bool s.zp,.slice s.za s.zn s.zc,.slice s.zd s.zm s.ze]) (by decide) 12 (by as_aux_lemma=>kernel_rfl) (by rfl) ?y7 (HB17 _ hc0) ?_
       case y7 =>
        rintro w' ⟨q0,q1,q2,q3,q4,q5,q6,q7,q8⟩
        simp only [lgA,lgZ,lgS]
        go_simp
       simp only [lgA,lgZ,lgS,Act.put,lsA,lsZ,lsS]
       refine wpAnyG.tT 8 (v:=.int .i64 (i:Int)) (by decide) 12 (by as_aux_lemma=>kernel_rfl) (by rfl) ?y8 (HB17 _ hc0) ?_
       case y8 =>
        rintro w' ⟨q0,q1,q2,q3,q4,q5,q6,q7,q8⟩
        simp only [lgA,lgZ,lgS]
        go_simp
       simp only [lgA,lgZ,lgS,Act.put,lsA,lsZ,lsS]
       refine wpAnyG.tT 9 (v:=.int .i64 (j:Int)) (by decide) 12 (by as_aux_lemma=>kernel_rfl) (by rfl) ?y9 (HB17 _ hc0) ?_
       case y9 =>
        rintro w' ⟨q0,q1,q2,q3,q4,q5,q6,q7,q8⟩
        simp only [lgA,lgZ,lgS]
        go_simp
       simp only [lgA,lgZ,lgS,Act.put,lsA,lsZ,lsS]
       refine wpAnyG.one 6 (by as_aux_lemma=>kernel_rfl) (by decide) (by rfl) (fun K hK=>?_)
       simp only [lgA,lgZ,lgS]
       go_simp
       refine (hAt z0 r nk hlr (bel_tr hbt (bel_tr b5 (bel_tr hbu hc0)))).mono ?_
       rintro e z1 ⟨p2,a2,n2,c2,d2,m2,e2,rfl,G2,hk1⟩
       have hc1:Below wr.heap.size wr z1:=bel_tr hc0 hk1
       dsimp only
       refine hK _ _ ⟨fun _=>HB17 _ hc1,fun _=>trivial⟩ ?_
       clear hK K
       refine wpAnyG.one 10 (by as_aux_lemma=>kernel_rfl) (by decide) (by rfl) (fun K hK=>?_)
       simp only [lgA,lgZ,lgS]
       go_simp
       refine (begunB i j z1 (s.bg_tx i j) (hs2.below (bel_tr hbt (bel_tr b5 (bel_tr hbu hc1)))) hlt ⟨hP1.1,by omega⟩).mono ?_
       rintro e z2 ⟨p3,a3,n3,c3,d3,m3,e3,rfl,G3,hk2⟩
       have hc2:Below wr.heap.size wr z2:=bel_tr hc1 hk2
       have G2a:=G2.below hk2
       dsimp only
       refine hK _ _ ⟨fun _=>HB17 _ hc2,fun _=>trivial⟩ ?_
       clear hK K
       refine wpAnyG.one 11 (by as_aux_lemma=>kernel_rfl) (by decide) (by rfl) (fun K hK=>?_)
       simp only [lgA,lgZ,lgS]
       go_simp
       refine (plusB z2 (G0.tr.below hc2) G2a.tr G3 ⟨by omega,by omega,by omega⟩ (by omega)).mono ?_
       rintro e z3 ⟨p4,a4,n4,c4,d4,m4,e4,rfl,G4,hk3⟩
       have hc3:Below wr.heap.size wr z3:=bel_tr hc2 hk3
       dsimp only
       refine hK _ _ ⟨fun _=>HB17 _ hc3,fun _=>trivial⟩ ?_
       clear hK K
       refine wpAnyG.one 12 (by as_aux_lemma=>kernel_rfl) (by decide) (by rfl) (fun K hK=>?_)
       simp only [lgA,lgZ,lgS]
       have RS:=RV.below hc3
       have y0:=(RS.cell 0).trans (show _ = some (.bool p0) from rfl)
       have y1:=(RS.cell 1).trans (show _ = some (.slice a0 n0 c0) from rfl)
       have y2:=(RS.cell 2).trans (show _ = some (.slice d0 m0 e0) from rfl)
       have y3:=RS.frozen 0
       have y4:=RS.frozen 1
       have y5:=RS.frozen 2
       go_simp
       refine hK _ _ ⟨fun h=>absurd h (by decide),fun _=>trivial⟩ ?_
       clear hK K
       refine wpAnyG.done (by as_aux_lemma=>kernel_rfl) (NoPanic.normal ?_)
       obtain ⟨RN,O9⟩:=RS.set3 (.bool p4) (.slice a4 n4 c4) (.slice d4 m4 e4)
       have hev:(rsum (fun k=>lat (X r).l (s.cn + k) * TX s.row (s.cn + s.bn) (s.bj j) k) i) + lat (X r).l nk * TX s.row (s.cn + s.bn) (s.bj j) i = (rsum (fun k=>lat (X r).l (s.cn + k) * TX s.row (s.cn + s.bn) (s.bj j) k) (i + 1)):=by rw [rsum_succ,HNK.out]
       have GN:=((((G4.mono (Nat.zero_le _)).val hev).fit (HSZ.out r j (i + 1) hlr (by omega))).keep (RS.noW (by decide)) O9.grown)
       have hbf:Below w5.heap.size w5 (((z3.setCell ⟨RW,0,none⟩ (.bool p4)).setCell ⟨RW,1,none⟩ (.slice a4 n4 c4)).setCell ⟨RW,2,none⟩ (.slice d4 m4 e4)):=(bel_tr hbu hc3).trans (O9.below hRWw)
       clear hnk hwk HB17 G0 G2 G2a G3 G4 RS O9 hc0 hc1 hc2 hc3 hk1 hk2 hk3 hbu y0 y1 y2 y3 y4 y5 RV hev BU
       go_wp2
       go_roundw
       case rel=>first | exact ⟨i + 1,p4,a4,n4,c4,d4,m4,e4,by omega,by go_num,RN,GN,hbf⟩ | ((repeat apply Exists.intro);refine ⟨?_,rfl⟩;exact ⟨i + 1,p4,a4,n4,c4,d4,m4,e4,by omega,by go_num,RN,GN,hbf⟩)
       case measure=>simp [intOf];omega
      ·have hiI:¬ (i:Int) < (s.bn:Int):=by omega
       obtain rfl:i = s.bn:=by omega
       have hbv:=bel_tr hbt (bel_tr b5 hbu)
       clear v0 v1 v2 BU
       go_wp2_with fail
       refine (hRt wr r hlr hbv).mono ?_
       rintro e w7 ⟨p6,a6,n6,c6,d6,m6,e6,rfl,G6,h7⟩
       have k7:=bel_d0 w7 (.cells #[.bool p6,.slice a6 n6 c6,.slice d6 m6 e6] 29)
       have RG7:=Rw.new 29 w7 #[.bool p6,.slice a6 n6 c6,.slice d6 m6 e6]
       have R7:=(RV.below h7).below k7
       have G7:=(G0.below h7).below k7
       have G6b:=G6.below k7
       have hb7:=bel_tr (bel_tr hbv h7) k7
       have heq:=HEQ.out r j hlr hlj
       have hwx:=h7.size
       obtain ⟨RG,eRG⟩:∃ RG,RG = w7.heap.size:=⟨_,rfl⟩
       rw [← eRG] at RG7
       have hRW7:RW < w7.heap.size:=(RV.below h7).lt
       have hne:RW ≠ RG:=by omega
       have hRGw:w2.heap.size≤RG:=by have:=(bel_tr hbv h7).size;omega
       have HGE:Hid (RG = w7.heap.size):=eRG
       by_cases hlt2:j < s.cn
       ·have hjI2:(j:Int) < (s.cn:Int):=by omega
        have HEA:Hid (lat (X r).l j = (rsum (fun k=>lat (X r).l (s.cn + k) * TX s.row (s.cn + s.bn) (s.bj j) k) s.bn)):=by rw [if_pos hlt2] at heq;exact heq
        clear heq h7 G6 G6b G0 RV k7 eRG hbv hwx hRW7
        go_wp2_with fail
        try rw [← HGE.out]
        clear HGE
        generalize w7.alloc (.cells #[.bool p6,.slice a6 n6 c6,.slice d6 m6 e6] 29) = U7 at *
        refine (hAt U7 r j hlr hb7).mono ?_
        rintro e w8 ⟨p7,a7,n7,c7,d7,m7,e7,rfl,G8,h8⟩
        have RG8:=RG7.below h8
        obtain ⟨RN,O9⟩:=RG8.set3 (.bool p7) (.slice a7 n7 c7) (.slice d7 m7 e7)
        have hRG:RG < U7.heap.size:=RG7.lt
        have GA:=G8.off O9 hRG
        have GS:=(G7.below h8).keep (RG8.noW (by decide)) O9.grown
        have RS:=(R7.below h8).off O9 hne
        have hb9:=(bel_tr hb7 h8).trans (O9.below hRGw)
        have g0:=(RG8.cell 0).trans (show _ = some (.bool p6) from rfl)
        have g1:=(RG8.cell 1).trans (show _ = some (.slice a6 n6 c6) from rfl)
        have g2:=(RG8.cell 2).trans (show _ = some (.slice d6 m6 e6) from rfl)
        have g3:=RG8.frozen 0
        have g4:=RG8.frozen 1
        have g5:=RG8.frozen 2
        have l0:=(RN.cell 0).trans (show _ = some (.bool p7) from rfl)
        have l1:=(RN.cell 1).trans (show _ = some (.slice a7 n7 c7) from rfl)
        have l2:=(RN.cell 2).trans (show _ = some (.slice d7 m7 e7) from rfl)
        have t0:=(RS.cell 0).trans (show _ = some (.bool p0) from rfl)
        have t1:=(RS.cell 1).trans (show _ = some (.slice a0 n0 c0) from rfl)
        have t2:=(RS.cell 2).trans (show _ = some (.slice d0 m0 e0) from rfl)
        clear G8 G7 h8 RG7 RG8 R7 RN RS O9 hb7
        go_wp2_with fail
        refine (sameL _ GA GS HEA.out (by omega) (by omega) (by omega)).mono ?_
        rintro e w10 ⟨rfl,h10⟩
        have hbf:=bel_tr hb9 h10
        clear g0 g1 g2 g3 g4 g5 l0 l1 l2 t0 t1 t2 GA GS h10 hb9
        go_wp2
        go_roundw
        case rel=>first | exact ⟨j + 1,by omega,by go_num,hbf⟩ | ((repeat apply Exists.intro);refine ⟨?_,rfl⟩;exact ⟨j + 1,by omega,by go_num,hbf⟩)
        case measure=>simp [intOf];omega
       ·have hjI2:¬ (j:Int) < (s.cn:Int):=by omega
        have HEA:Hid ((X r).r = (rsum (fun k=>lat (X r).l (s.cn + k) * TX s.row (s.cn + s.bn) (s.bj j) k) s.bn)):=by rw [if_neg hlt2] at heq;exact heq
        have l0:=(RG7.cell 0).trans (show _ = some (.bool p6) from rfl)
        have l1:=(RG7.cell 1).trans (show _ = some (.slice a6 n6 c6) from rfl)
        have l2:=(RG7.cell 2).trans (show _ = some (.slice d6 m6 e6) from rfl)
        have t0:=(R7.cell 0).trans (show _ = some (.bool p0) from rfl)
        have t1:=(R7.cell 1).trans (show _ = some (.slice a0 n0 c0) from rfl)
        have t2:=(R7.cell 2).trans (show _ = some (.slice d0 m0 e0) from rfl)
        clear heq h7 G6 G0 RV k7 hbv RG7 R7 hwx hRW7 eRG
        rw [HGE.out] at l0 l1 l2
        clear HGE
        go_wp2_with fail
        refine (sameL _ G6b G7 HEA.out (by omega) (by omega) (by omega)).mono ?_
        rintro e w10 ⟨rfl,h10⟩
        have hbf:=bel_tr hb7 h10
        clear l0 l1 l2 t0 t1 t2 G6b G7 h10 hb7
        go_wp2
        go_roundw
        case rel=>first | exact ⟨j + 1,by omega,by go_num,hbf⟩ | ((repeat apply Exists.intro);refine ⟨?_,rfl⟩;exact ⟨j + 1,by omega,by go_num,hbf⟩)
        case measure=>simp [intOf];omega
    ·have hjI:¬ (j:Int)≤(s.cn:Int):=by omega
     go_wp2
     go_roundw
     case rel=>first | exact ⟨r + 1,by omega,by go_num,hbt⟩ | ((repeat apply Exists.intro);refine ⟨?_,rfl⟩;exact ⟨r + 1,by omega,by go_num,hbt⟩)
     case measure=>simp [intOf];omega
  ·have hrI:¬ (r:Int) < (s.bn:Int):=by omega
   have hbf:=bel_tr hb2 hbr
   go_wp2
   go_ret
   exact ⟨rfl,hbf⟩
theorem says_all {s:StD} {K KC:Nat} {sa:Option Addr} {sn sc:Nat} {O:Nat→OpD} {ev0 ev1 ev2:Value} (w:World) (hs:StQ w s K) (hz:∃ z,StZ s z∧stK s z≤K) (hN:s.cn + s.bn≤K) (hO:OpL w sa sn O KC) (hOk:∀ i,i < sn→(O i).cn≤(O i).cc∧(O i).cn≤KC∧∀ N k,k≤(O i).cn→CsZ (lco (O i).Y k) N KC) (hsn:sn≤KC) (hK:1≤K∧1≤KC∧K + KC≤1048600) (hT:TB w) (E0:Errs w 0 ev0) (E1:Errs w 1 ev1) (E2:Errs w 2 ev2) :
  Calls Tryz.prog 3 #[.agg #[.slice s.aa s.an s.ac,.slice s.ba s.bn s.bc,.slice s.ca s.cn s.cc,.bool s.zp,.slice s.za s.zn s.zc,.slice s.zd s.zm s.ze],.slice sa sn sc] w fun e w'=>e = .returned (.bool true)∧Below w.heap.size w w' :=
 says_walk w (fun w' hb=>awake11 w' (hT.below hb) (E0.below hb) (E1.below hb) (E2.below hb)) hs ⟨hz,⟨hK.1,by omega⟩,⟨hK.2.1,by omega⟩,by omega⟩ hO (fun i hi=>⟨(hOk i hi).1,by have:=(hOk i hi).2.1;omega,fun k hk=>(hOk i hi).2.2 _ k hk⟩) (by omega) hT E0 E1 E2
end Go.Proofs.YtjiodidemimgmaaGreatDoor

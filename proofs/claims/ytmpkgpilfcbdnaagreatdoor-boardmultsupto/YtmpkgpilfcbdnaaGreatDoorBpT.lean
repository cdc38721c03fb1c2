import Derived.Test.YtmpkgpilfcbdnaaGreatDoorBpS
namespace Go.Proofs.YtmpkgpilfcbdnaaGreatDoor
open Go.RowKit
set_option maxRecDepth 100000 in
set_option maxHeartbeats 8000000 in
theorem mults_walk {s:StD} {K KC KL:Nat} {sa:Option Addr} {sn sc:Nat} {O:Nat→OpD} {ca:Option Addr} {cn cc:Nat} {Y:Nat→Rat} {ev0 ev1 ev2:Value} (w:World) (hAw:∀ w',Below w.heap.size w w'→Calls Tryz.prog 4 #[] w' fun e w''=>e = .returned (.bool true)∧Below w'.heap.size w' w'') (hs:StQ w s K) (Z1:GmZ s K KC) (Z:GmZ s K KL) (hKK:K + KL≤1048600) (hO:OpL w sa sn O KC) (hOk:∀ i,i < sn→(O i).cn≤(O i).cc∧(O i).cn≤3000000∧∀ k,k≤(O i).cn→CsZ (lco (O i).Y k) (s.cn + s.bn) KC) (hsn:sn≤100000000) (hC:LQ w ca cn Y (fun _=>KL)) (hcc:cn≤cc) (hcn:cn≤3000000) (hCs:∀ k,k≤cn→CsZ (lco Y k) (s.cn + s.bn) KL) (hT:TB w) (E0:Errs w 0 ev0) (E1:Errs w 1 ev1) (E2:Errs w 2 ev2) :
  Calls Tryz.prog 3 #[.agg #[.slice s.aa s.an s.ac,.slice s.ba s.bn s.bc,.slice s.ca s.cn s.cc,.bool s.zp,.slice s.za s.zn s.zc,.slice s.zd s.zm s.ze],.slice sa sn sc,.slice ca cn cc] w fun e w'=>e = .returned (.bool true)∧Below w.heap.size w w':=by
 have BX:=box_new w #[.slice s.aa s.an s.ac,.slice s.ba s.bn s.bc,.slice s.ca s.cn s.cc,.bool s.zp,.slice s.za s.zn s.zc,.slice s.zd s.zm s.ze] 31
 have hb0:=bel_d0 w (.cells #[.slice s.aa s.an s.ac,.slice s.ba s.bn s.bc,.slice s.ca s.cn s.cc,.bool s.zp,.slice s.za s.zn s.zc,.slice s.zd s.zm s.ze] 31)
 have hW0:w.heap.size < (w.alloc (.cells #[.slice s.aa s.an s.ac,.slice s.ba s.bn s.bc,.slice s.ca s.cn s.cc,.bool s.zp,.slice s.za s.zn s.zc,.slice s.zd s.zm s.ze] 31)).heap.size:=by simp
 go_enter Tryz.func3,Tryz.ntmps3
 go_wp2_with fail
 generalize w.alloc (.cells #[.slice s.aa s.an s.ac,.slice s.ba s.bn s.bc,.slice s.ca s.cn s.cc,.bool s.zp,.slice s.za s.zn s.zc,.slice s.zd s.zm s.ze] 31) = W0 at *
 refine (hAw W0 hb0).mono ?_
 clear hAw
 rintro e w1 ⟨rfl,h1⟩
 have hb1:=bel_tr hb0 h1
 replace BX:=BX.below h1
 have x0:=BX 0 _ rfl
 have x1:=BX 1 _ rfl
 have x2:=BX 2 _ rfl
 have x3:=BX 3 _ rfl
 have x4:=BX 4 _ rfl
 have x5:=BX 5 _ rfl
 go_wp2_with fail
 clear x0 x1 x2 x3 x4 x5
 refine (playedB w1 (hs.below hb1) Z1 (hO.below hb1) hOk hsn (hT.below hb1) (E0.below hb1) (E1.below hb1) (E2.below hb1)).mono ?_
 rintro e w2 ⟨F,f,X,b,lc0,rfl,hF1,hF2,G,h2⟩
 have hb2:=bel_tr hb1 h2
 replace BX:=BX.below h2
 have hTF:4 < F:=Nat.lt_of_lt_of_le (hT.below hb1).2 hF1
 have hlf:=G.bd.lt
 have hNN:s.cn + f.m≤3000000:=by rw [G.m];exact Z.n
 have hP1:=Z.k
 have hP2:=Z.kc
 have hbF:w1.heap.size≤F:=hF1
 have hcost:=costB (Sc':=KL) (ga:=ca) (gn:=cn) (gc:=cc) (Y:=Y) w2 G.bd (fun C' w' hk=>hC.below (hb2.trans ((hk.below (fun k hk=>(hlf k hk).1) hF2).mono (Nat.le_trans hb1.size hF1)))) hcc ⟨hP2.1,by omega⟩ hNN hcn (hT.below hb2) hTF hF2
 obtain ⟨R,eR⟩:∃ R,R = f.b:=⟨_,rfl⟩
 have HR0:Hid (f.b = R):=eR.symm
 rw [← eR] at hcost ⊢
 clear eR
 go_wp2_with fail
 refine hcost.mono ?_
 clear hcost
 rintro e w3 ⟨rfl,cv,B3,K3⟩
 have hK3:=K3.below (fun k hk=>(hlf k hk).1) hF2
 have hb3:Below w.heap.size w w3:=hb2.trans (hK3.mono (Nat.le_trans hb1.size hF1))
 have BX3:BoxC w3 w.heap.size [.slice s.aa s.an s.ac,.slice s.ba s.bn s.bc,.slice s.ca s.cn s.cc,.bool s.zp,.slice s.za s.zn s.zc,.slice s.zd s.zm s.ze]:=BX.kf K3 (fun h=>by have:=(hlf _ h).1;have:=h1.size;have:=hb0.size;have:=hW0;omega)
 obtain ⟨f3,ef3⟩:∃ f3:Bf,f3 = { f with cv:=cv }:=⟨_,rfl⟩
 rw [← ef3] at B3
 have HR3:Hid (f3.b = R):=by show f3.b = R;rw [ef3];exact HR0.out
 have HM3:Hid (f3.m = s.bn):=by show f3.m = s.bn;rw [ef3];exact G.m
 obtain ⟨lc,elc⟩:∃ lc,lc = lco Y (min cn (s.cn + f.m)):=⟨_,rfl⟩
 rw [← elc] at B3
 have G3:Gam w3 F f3 s X b lc K KL:=⟨B3,HM3.out,G.p,by rw [elc];exact hCs _ (Nat.min_le_left _ _)⟩
 have HLC:Hid (∀ j,j < s.cn→lat lc j = if j < cn then Y j else 0):=fun j hj=>by
  rw [elc,lco_lat]
  by_cases h:j < cn
  ·rw [if_pos h,if_pos (by omega)]
  ·rw [if_neg h,if_neg (by omega)]
 have hMZ:=G3.mz Z
 have HMR:Hid (∀ n,n≤s.bn→SzR (rsum (fun k=>mul0 X lc s.cn s.bn k * (s.row k).r) n) (K + K + KL)):=hMZ.1
 have HMD:Hid (∀ j,j < s.cn→∀ n,n≤s.bn→SzR (lat lc j - rsum (fun k=>mul0 X lc s.cn s.bn k * lat (s.row k).l j) n) (K + K + KL)):=hMZ.2
 have hPly:=G3.p
 have hNN3:s.cn + f3.m≤3000000:=by rw [HM3.out];exact Z.n
 clear hMZ elc ef3 K3 G hO hOk
 go_wp2_with fail
 refine (ofD 0 w3 (by decide) (by decide)).mono ?_
 rintro e w4 ⟨p0,a0,n0,c0,d0,m0,e0,rfl,G0,h4⟩
 have hb4:=bel_tr hb3 h4
 have BX4:=BX3.below h4
 have hs4:=hs.below hb4
 have hC4:=hC.below hb4
 have hT4:=hT.below hb4
 have GB:=G3.bd.below h4
 have hMu:∀ z i,i < s.bn→Below w4.heap.size w4 z→Calls Tryz.prog 9 #[.pointer (some ⟨R,0,none⟩),.int .i64 (i:Nat)] z fun e w'=>NumP z (bmu X lc s.cn s.bn i) (K + KL + 1) e w':=fun z i hi hz=>by
  have hz1:=G3.rz Z (s.cn + i) (by rw [HM3.out];omega)
  have h:=multB (T:=(K + KL + 1)) i z (GB.below hz) (by rw [HM3.out];exact hi) hP1.1 hP2.1 ⟨by omega,by omega⟩ hz1 (by
   rw [HM3.out] at hz1 ⊢
   rw [mul0_eq]
   have h:=hz1.1 s.bn (Nat.le_refl _)
   have e:rsum (bco X lc fun q=>latI (X q).l ((s.cn + i:Nat):Int)) s.bn = mul0 X lc s.cn s.bn i:=rsum_congr fun q _=>bco_congr (by rw [latI_nat])
   rw [e] at h
   exact h) hNN3 (hT4.below hz)
  rw [HM3.out,HR3.out] at h
  exact h
 have hRd:∀ z (j:Nat),j < s.cn→Below w4.heap.size w4 z→Calls Tryz.prog 15 #[.pointer (some ⟨R,0,none⟩),.int .i64 (j:Int)] z fun e w'=>NumP z (rdc X lc s.bn (j:Int)) (K + KL + 1) e w':=fun z j hj hz=>by
  have h:=reducedB (T:=(K + KL + 1)) (j:Int) z (GB.below hz) hP1.1 hP2.1 ⟨by omega,by omega⟩ (G3.rz Z j (by rw [HM3.out];omega)) hNN3 (hT4.below hz)
  rw [HM3.out,HR3.out] at h
  exact h
 have hWor:∀ z,Below w4.heap.size w4 z→Calls Tryz.prog 16 #[.pointer (some ⟨R,0,none⟩)] z fun e w'=>NumP z (rsum (bco X lc fun q=>(X q).r) s.bn) (K + KL + 1) e w':=fun z hz=>by
  have h:=worthB (T:=(K + KL + 1)) z (GB.below hz) hP1.1 hP2.1 ⟨by omega,by omega⟩ (G3.wz Z) hNN3 (hT4.below hz)
  rw [HM3.out,HR3.out] at h
  exact h
 have k4:=bel_d0 w4 (.cells #[.bool p0,.slice a0 n0 c0,.slice d0 m0 e0] 29)
 have RW4:=Rw.new 29 w4 #[.bool p0,.slice a0 n0 c0,.slice d0 m0 e0]
 have GW4:GR (w4.alloc (.cells #[.bool p0,.slice a0 n0 c0,.slice d0 m0 e0] 29)) 0 p0 a0 n0 c0 d0 m0 e0 (rsum (fun k=>mul0 X lc s.cn s.bn k * (s.row k).r) 0) (K + K + KL):=((G0.mono (Nat.zero_le _)).below k4).val (show ((0:Int):Rat) = 0 from rfl) |>.le (by omega)
 obtain ⟨RW,eRW⟩:∃ RW,RW = w4.heap.size:=⟨_,rfl⟩
 rw [← eRW] at RW4
 have hRWw:w4.heap.size≤RW:=by omega
 have hbn:s.bn≤3000000:=by have:=Z.n;omega
 have hcn2:s.cn≤3000000:=by have:=Z.n;omega
 have KB:Hid (∀ z,Below w4.heap.size w4 z→BoxC z w.heap.size [.slice s.aa s.an s.ac,.slice s.ba s.bn s.bc,.slice s.ca s.cn s.cc,.bool s.zp,.slice s.za s.zn s.zc,.slice s.zd s.zm s.ze]):=fun z hz=>BX4.below hz
 clear G0 h4 B3 G3 GB BX BX3 BX4 hNN3 HR3 HM3
 go_wp2
 try rw [← eRW]
 clear eRW
 generalize w4.alloc (.cells #[.bool p0,.slice a0 n0 c0,.slice d0 m0 e0] 29) = U4 at *
 go_loopw [10] (fun si wr=>∃ (i:Nat) (p0:Bool) (a0:Option Addr) (n0 c0:Nat) (d0:Option Addr) (m0 e0:Nat),i≤s.bn∧si = .int .i64 i∧Rw 29 wr RW #[.bool p0,.slice a0 n0 c0,.slice d0 m0 e0]∧GR wr 0 p0 a0 n0 c0 d0 m0 e0 (rsum (fun k=>mul0 X lc s.cn s.bn k * (s.row k).r) i) (K + K + KL)∧Below w4.heap.size w4 wr) (fun x _=>s.bn - (intOf x).toNat)
 case atStart=>exact ⟨0,p0,a0,n0,c0,d0,m0,e0,Nat.zero_le _,rfl,RW4,GW4,k4⟩
 case round =>
  clear RW4 GW4 k4
  obtain ⟨i,p0,a0,n0,c0,d0,m0,e0,hi,rfl,RV,G0,hbw⟩:=hrel
  have y1:=(KB.out wr hbw) 1 _ rfl
  by_cases hlt:i < s.bn
  ·have hiI:(i:Int) < (s.bn:Int):=by omega
   have hi0:¬ (i:Int) < 0:=by omega
   have hi3:(i:Int) * 3 = ((i * 3:Nat):Int):=by omega
   rcases hs4.b.below hbw with h0 | ⟨eb,eo,eba,hel⟩
   ·omega
   obtain ⟨ep,ea,en,ec,ed,em,ee,k0,k1,k2,GE⟩:=hel i hlt
   rw [eba] at y1
   have HBA:Hid (s.ba = some ⟨eb,eo,none⟩):=eba
   have v0:=(RV.cell 0).trans (show _ = some (.bool p0) from rfl)
   have v1:=(RV.cell 1).trans (show _ = some (.slice a0 n0 c0) from rfl)
   have v2:=(RV.cell 2).trans (show _ = some (.slice d0 m0 e0) from rfl)
   have HB10:∀ w',Below wr.heap.size wr w'→(w'.cell? ⟨RW,0,none⟩ = some (.bool p0)∧w'.cell? ⟨RW,1,none⟩ = some (.slice a0 n0 c0)∧w'.cell? ⟨RW,2,none⟩ = some (.slice d0 m0 e0)∧w'.cell? ⟨w.heap.size,1,none⟩ = some (.slice (some ⟨eb,eo,none⟩) s.bn s.bc)∧w'.cell? ⟨eb,eo + i * 3,none⟩ = some (.bool ep)∧w'.cell? ⟨eb,eo + i * 3 + 1,none⟩ = some (.slice ea en ec)∧w'.cell? ⟨eb,eo + i * 3 + 2,none⟩ = some (.slice ed em ee)):=fun w' h=>⟨kept_c h v0,kept_c h v1,kept_c h v2,kept_c h y1,kept_c h k0,kept_c h k1,kept_c h k2⟩
   clear hel eba v0 v1 v2 k0 k1 k2
   go_wp2_with fail
   refine wp_region_noPanic (wp_region_guardT 10 HB10 (by as_aux_lemma=>kernel_rfl) ?_)
   have hc0:Below wr.heap.size wr wr.drew:=bel_d1 _
   generalize wr.drew = z0 at *
   refine wpAnyG.tT 0 (v:=.agg #[.bool p0,.slice a0 n0 c0,.slice d0 m0 e0]) (by decide) 10 (by as_aux_lemma=>kernel_rfl) (by rfl) ?y0 (HB10 _ hc0) ?_
   case y0 =>
    rintro w' ⟨q0,q1,q2,q3,q4,q5,q6⟩
    simp only [lgA,lgZ]
    go_simp
   simp only [lgA,lgZ,Act.put,lsA,lsZ,lsS]
   refine wpAnyG.tT 1 (v:=.pointer (some ⟨R,0,none⟩)) (by decide) 10 (by as_aux_lemma=>kernel_rfl) (by rfl) ?y1 (HB10 _ hc0) ?_
   case y1 =>
    rintro w' ⟨q0,q1,q2,q3,q4,q5,q6⟩
    simp only [lgA,lgZ,lgS]
    go_simp
   simp only [lgA,lgZ,lgS,Act.put,lsA,lsZ,lsS]
   refine wpAnyG.tT 2 (v:=.int .i64 (i:Int)) (by decide) 10 (by as_aux_lemma=>kernel_rfl) (by rfl) ?y2 (HB10 _ hc0) ?_
   case y2 =>
    rintro w' ⟨q0,q1,q2,q3,q4,q5,q6⟩
    simp only [lgA,lgZ,lgS]
    go_simp
   simp only [lgA,lgZ,lgS,Act.put,lsA,lsZ,lsS]
   refine wpAnyG.tT 4 (v:=.pointer (some ⟨w.heap.size,1,none⟩)) (by decide) 10 (by as_aux_lemma=>kernel_rfl) (by rfl) ?y4 (HB10 _ hc0) ?_
   case y4 =>
    rintro w' ⟨q0,q1,q2,q3,q4,q5,q6⟩
    simp only [lgA,lgZ,lgS]
    go_simp
   simp only [lgA,lgZ,lgS,Act.put,lsA,lsZ,lsS]
   refine wpAnyG.tT 5 (v:=.slice (some ⟨eb,eo,none⟩) s.bn s.bc) (by decide) 10 (by as_aux_lemma=>kernel_rfl) (by rfl) ?y5 (HB10 _ hc0) ?_
   case y5 =>
    rintro w' ⟨q0,q1,q2,q3,q4,q5,q6⟩
    simp only [lgA,lgZ,lgS]
    go_simp
   simp only [lgA,lgZ,lgS,Act.put,lsA,lsZ,lsS]
   refine wpAnyG.tT 6 (v:=.int .i64 (i:Int)) (by decide) 10 (by as_aux_lemma=>kernel_rfl) (by rfl) ?y6 (HB10 _ hc0) ?_
   case y6 =>
    rintro w' ⟨q0,q1,q2,q3,q4,q5,q6⟩
    simp only [lgA,lgZ,lgS]
    go_simp
   simp only [lgA,lgZ,lgS,Act.put,lsA,lsZ,lsS]
   refine wpAnyG.tT 7 (v:=.pointer (some ⟨eb,eo + i * 3,none⟩)) (by decide) 10 (by as_aux_lemma=>kernel_rfl) (by rfl) ?y7 (HB10 _ hc0) ?_
   case y7 =>
    rintro w' ⟨q0,q1,q2,q3,q4,q5,q6⟩
    simp only [lgA,lgZ,lgS]
    go_simp
   simp only [lgA,lgZ,lgS,Act.put,lsA,lsZ,lsS]
   refine wpAnyG.tT 8 (v:=.agg #[.bool ep,.slice ea en ec,.slice ed em ee]) (by decide) 10 (by as_aux_lemma=>kernel_rfl) (by rfl) ?y8 (HB10 _ hc0) ?_
   case y8 =>
    rintro w' ⟨q0,q1,q2,q3,q4,q5,q6⟩
    simp only [lgA,lgZ,lgS]
    go_simp
   simp only [lgA,lgZ,lgS,Act.put,lsA,lsZ,lsS]
   refine wpAnyG.one 3 (by as_aux_lemma=>kernel_rfl) (by decide) (by rfl) (fun K hK=>?_)
   simp only [lgA,lgZ,lgS]
   go_simp
   refine (hMu z0 i hlt (bel_tr hbw hc0)).mono ?_
   rintro e z1 ⟨p2,a2,n2,c2,d2,m2,e2,rfl,G2,hk1⟩
   have hc1:Below wr.heap.size wr z1:=bel_tr hc0 hk1
   dsimp only
   refine hK _ _ ⟨fun _=>HB10 _ hc1,fun _=>trivial⟩ ?_
   clear hK K
   refine wpAnyG.one 9 (by as_aux_lemma=>kernel_rfl) (by decide) (by rfl) (fun K hK=>?_)
   simp only [lgA,lgZ,lgS]
   go_simp
   refine (plusB z1 (G0.tr.below hc1) G2.tr (GE.below hc1) ⟨by omega,by omega,by omega⟩ (by omega)).mono ?_
   rintro e z2 ⟨p3,a3,n3,c3,d3,m3,e3,rfl,G3,hk2⟩
   have hc2:Below wr.heap.size wr z2:=bel_tr hc1 hk2
   dsimp only
   refine hK _ _ ⟨fun _=>HB10 _ hc2,fun _=>trivial⟩ ?_
   clear hK K
   refine wpAnyG.one 10 (by as_aux_lemma=>kernel_rfl) (by decide) (by rfl) (fun K hK=>?_)
   simp only [lgA,lgZ,lgS]
   have RS:=RV.below hc2
   have y0:=(RS.cell 0).trans (show _ = some (.bool p0) from rfl)
   have y1:=(RS.cell 1).trans (show _ = some (.slice a0 n0 c0) from rfl)
   have y2:=(RS.cell 2).trans (show _ = some (.slice d0 m0 e0) from rfl)
   have y3:=RS.frozen 0
   have y4:=RS.frozen 1
   have y5:=RS.frozen 2
   go_simp
   refine hK _ _ ⟨fun h=>absurd h (by decide),fun _=>trivial⟩ ?_
   clear hK K
   refine wpAnyG.done (by as_aux_lemma=>kernel_rfl) (NoPanic.normal ?_)
   obtain ⟨RN,O9⟩:=RS.set3 (.bool p3) (.slice a3 n3 c3) (.slice d3 m3 e3)
   have hev:(rsum (fun k=>mul0 X lc s.cn s.bn k * (s.row k).r) i) + bmu X lc s.cn s.bn i * s.B i = (rsum (fun k=>mul0 X lc s.cn s.bn k * (s.row k).r) (i + 1)):=by rw [rsum_succ,hPly.mu_r lc hlt]
   have GN:=((((G3.mono (Nat.zero_le _)).val hev).fit (HMR.out (i + 1) (by omega))).keep (RS.noW (by decide)) O9.grown)
   have hbf:Below w4.heap.size w4 (((z2.setCell ⟨RW,0,none⟩ (.bool p3)).setCell ⟨RW,1,none⟩ (.slice a3 n3 c3)).setCell ⟨RW,2,none⟩ (.slice d3 m3 e3)):=(bel_tr hbw hc2).trans (O9.below hRWw)
   clear HB10 G0 G2 G3 GE RS O9 hc0 hc1 hc2 hk1 hk2 hbw y0 y1 y2 y3 y4 y5 RV hev
   go_wp2
   go_roundw
   case rel=>first | exact ⟨i + 1,p3,a3,n3,c3,d3,m3,e3,by omega,by go_num,RN,GN,hbf⟩ | ((repeat apply Exists.intro);refine ⟨?_,rfl⟩;exact ⟨i + 1,p3,a3,n3,c3,d3,m3,e3,by omega,by go_num,RN,GN,hbf⟩)
   case measure=>simp [intOf];omega
  ·have hiI:¬ (i:Int) < (s.bn:Int):=by omega
   obtain rfl:i = s.bn:=by omega
   obtain ⟨wq,ewq⟩:∃ wq,wq = wr:=⟨_,rfl⟩
   subst ewq
   have HWQ:Hid (rsum (bco X lc fun q=>(X q).r) s.bn = (rsum (fun k=>mul0 X lc s.cn s.bn k * (s.row k).r) s.bn)):=hPly.wor lc
   go_wp2
   clear y1
   go_loopw [11] (fun sj wr=>∃ j:Nat,j≤s.cn∧sj = .int .i64 j∧Below wq.heap.size wq wr) (fun x _=>s.cn - (intOf x).toNat)
   case atStart=>exact ⟨0,Nat.zero_le _,rfl,Below.refl _ _⟩
   case round =>
    obtain ⟨j,hj,rfl,hbt⟩:=hrel
    have y2:=(KB.out wr (bel_tr hbw hbt)) 2 _ rfl
    by_cases hlj:j < s.cn
    ·have hjI:(j:Int) < (s.cn:Int):=by omega
     have hj0:¬ (j:Int) < 0:=by omega
     go_wp2_with fail
     refine (numB j wr (hC4.below (bel_tr hbw hbt)) ⟨hP2.1,by omega⟩).mono ?_
     rintro e w6 ⟨p1,a1,n1,c1,d1,m1,e1,rfl,G6,h6⟩
     have k6:=bel_d0 w6 (.cells #[.bool p1,.slice a1 n1 c1,.slice d1 m1 e1] 29)
     have RD6:=Rw.new 29 w6 #[.bool p1,.slice a1 n1 c1,.slice d1 m1 e1]
     have b6:=bel_tr (bel_tr hbw hbt) h6
     have b56:=bel_tr hbt h6
     have hd0:(if j < cn then Y j else 0) = (lat lc j - rsum (fun k=>mul0 X lc s.cn s.bn k * lat (s.row k).l j) 0):=by
      rw [← HLC.out j hlj]
      show lat lc j = lat lc j - 0
      grind
     have GD6:GR (w6.alloc (.cells #[.bool p1,.slice a1 n1 c1,.slice d1 m1 e1] 29)) 0 p1 a1 n1 c1 d1 m1 e1 (lat lc j - rsum (fun k=>mul0 X lc s.cn s.bn k * lat (s.row k).l j) 0) (K + K + KL):=(((G6.mono (Nat.zero_le _)).below k6).val hd0).fit (HMD.out j hlj 0 (Nat.zero_le _))
     obtain ⟨RD,eRD⟩:∃ RD,RD = w6.heap.size:=⟨_,rfl⟩
     rw [← eRD] at RD6
     have hRDw:w6.heap.size≤RD:=by omega
     have HEQ:Hid (rdc X lc s.bn (j:Int) = (lat lc j - rsum (fun k=>mul0 X lc s.cn s.bn k * lat (s.row k).l j) s.bn)):=hPly.red lc (by omega)
     clear G6 h6 hd0 y2 hbt
     go_wp2
     try rw [← eRD]
     clear eRD
     generalize w6.alloc (.cells #[.bool p1,.slice a1 n1 c1,.slice d1 m1 e1] 29) = U6 at *
     go_loopw [13] (fun si wr=>∃ (i:Nat) (p1:Bool) (a1:Option Addr) (n1 c1:Nat) (d1:Option Addr) (m1 e1:Nat),i≤s.bn∧si = .int .i64 i∧Rw 29 wr RD #[.bool p1,.slice a1 n1 c1,.slice d1 m1 e1]∧GR wr 0 p1 a1 n1 c1 d1 m1 e1 (lat lc j - rsum (fun k=>mul0 X lc s.cn s.bn k * lat (s.row k).l j) i) (K + K + KL)∧Below w6.heap.size w6 wr) (fun x _=>s.bn - (intOf x).toNat)
     case atStart=>exact ⟨0,p1,a1,n1,c1,d1,m1,e1,Nat.zero_le _,rfl,RD6,GD6,k6⟩
     case round =>
      clear RD6 GD6 k6
      obtain ⟨i,p1,a1,n1,c1,d1,m1,e1,hi,rfl,RV,G1,hbu⟩:=hrel
      have BU:=KB.out wr (bel_tr b6 hbu)
      have y1:=BU 1 _ rfl
      have v0:=(RV.cell 0).trans (show _ = some (.bool p1) from rfl)
      have v1:=(RV.cell 1).trans (show _ = some (.slice a1 n1 c1) from rfl)
      have v2:=(RV.cell 2).trans (show _ = some (.slice d1 m1 e1) from rfl)
      by_cases hlt:i < s.bn
      ·have hiI:(i:Int) < (s.bn:Int):=by omega
       have HB18:∀ w',Below wr.heap.size wr w'→(w'.cell? ⟨RD,0,none⟩ = some (.bool p1)∧w'.cell? ⟨RD,1,none⟩ = some (.slice a1 n1 c1)∧w'.cell? ⟨RD,2,none⟩ = some (.slice d1 m1 e1)∧w'.cell? ⟨w.heap.size,0,none⟩ = some (.slice s.aa s.an s.ac)∧w'.cell? ⟨w.heap.size,1,none⟩ = some (.slice s.ba s.bn s.bc)∧w'.cell? ⟨w.heap.size,2,none⟩ = some (.slice s.ca s.cn s.cc)∧w'.cell? ⟨w.heap.size,3,none⟩ = some (.bool s.zp)∧w'.cell? ⟨w.heap.size,4,none⟩ = some (.slice s.za s.zn s.zc)∧w'.cell? ⟨w.heap.size,5,none⟩ = some (.slice s.zd s.zm s.ze)):=fun w' h=>⟨kept_c h v0,kept_c h v1,kept_c h v2,kept_c h (BU 0 _ rfl),kept_c h (BU 1 _ rfl),kept_c h (BU 2 _ rfl),kept_c h (BU 3 _ rfl),kept_c h (BU 4 _ rfl),kept_c h (BU 5 _ rfl)⟩
       clear v0 v1 v2
       go_wp2_with fail
       refine wp_region_noPanic (wp_region_guardT 10 HB18 (by as_aux_lemma=>kernel_rfl) ?_)
       have hc0:Below wr.heap.size wr wr.drew:=bel_d1 _
       generalize wr.drew = z0 at *
       refine wpAnyG.tT 0 (v:=.agg #[.bool p1,.slice a1 n1 c1,.slice d1 m1 e1]) (by decide) 10 (by as_aux_lemma=>kernel_rfl) (by rfl) ?y0 (HB18 _ hc0) ?_
       case y0 =>
        rintro w' ⟨q0,q1,q2,q3,q4,q5,q6,q7,q8⟩
        simp only [lgA,lgZ]
        go_simp
       simp only [lgA,lgZ,Act.put,lsA,lsZ,lsS]
       refine wpAnyG.tT 1 (v:=.pointer (some ⟨R,0,none⟩)) (by decide) 10 (by as_aux_lemma=>kernel_rfl) (by rfl) ?y1 (HB18 _ hc0) ?_
       case y1 =>
        rintro w' ⟨q0,q1,q2,q3,q4,q5,q6,q7,q8⟩
        simp only [lgA,lgZ,lgS]
        go_simp
       simp only [lgA,lgZ,lgS,Act.put,lsA,lsZ,lsS]
       refine wpAnyG.tT 2 (v:=.int .i64 (i:Int)) (by decide) 10 (by as_aux_lemma=>kernel_rfl) (by rfl) ?y2 (HB18 _ hc0) ?_
       case y2 =>
        rintro w' ⟨q0,q1,q2,q3,q4,q5,q6,q7,q8⟩
        simp only [lgA,lgZ,lgS]
        go_simp
       simp only [lgA,lgZ,lgS,Act.put,lsA,lsZ,lsS]
       refine wpAnyG.tT 4 (v:=.agg #[.slice s.aa s.an s.ac,.slice s.ba s.bn s.bc,.slice s.ca s.cn s.cc,.bool s.zp,.slice s.za s.zn s.zc,.slice s.zd s.zm s.ze]) (by decide) 10 (by as_aux_lemma=>kernel_rfl) (by rfl) ?y4 (HB18 _ hc0) ?_
       case y4 =>
        rintro w' ⟨q0,q1,q2,q3,q4,q5,q6,q7,q8⟩
        simp only [lgA,lgZ,lgS]
        go_simp
       simp only [lgA,lgZ,lgS,Act.put,lsA,lsZ,lsS]
       refine wpAnyG.tT 5 (v:=.int .i64 (i:Int)) (by decide) 10 (by as_aux_lemma=>kernel_rfl) (by rfl) ?y5 (HB18 _ hc0) ?_
       case y5 =>
        rintro w' ⟨q0,q1,q2,q3,q4,q5,q6,q7,q8⟩
        simp only [lgA,lgZ,lgS]
        go_simp
       simp only [lgA,lgZ,lgS,Act.put,lsA,lsZ,lsS]
       refine wpAnyG.tT 6 (v:=.int .i64 (j:Int)) (by decide) 10 (by as_aux_lemma=>kernel_rfl) (by rfl) ?y6 (HB18 _ hc0) ?_
       case y6 =>
        rintro w' ⟨q0,q1,q2,q3,q4,q5,q6,q7,q8⟩
        simp only [lgA,lgZ,lgS]
        go_simp
       simp only [lgA,lgZ,lgS,Act.put,lsA,lsZ,lsS]
       refine wpAnyG.one 3 (by as_aux_lemma=>kernel_rfl) (by decide) (by rfl) (fun K hK=>?_)
       simp only [lgA,lgZ,lgS]
       go_simp
       refine (hMu z0 i hlt (bel_tr b6 (bel_tr hbu hc0))).mono ?_
       rintro e z1 ⟨p2,a2,n2,c2,d2,m2,e2,rfl,G2,hk1⟩
       have hc1:Below wr.heap.size wr z1:=bel_tr hc0 hk1
       dsimp only
       refine hK _ _ ⟨fun _=>HB18 _ hc1,fun _=>trivial⟩ ?_
       clear hK K
       refine wpAnyG.one 7 (by as_aux_lemma=>kernel_rfl) (by decide) (by rfl) (fun K hK=>?_)
       simp only [lgA,lgZ,lgS]
       go_simp
       refine (entryB i j z1 rfl (hs4.below (bel_tr b6 (bel_tr hbu hc1))) ⟨hP1.1,by omega⟩).mono ?_
       rintro e z2 ⟨p3,a3,n3,c3,d3,m3,e3,rfl,G3,hk2⟩
       have hc2:Below wr.heap.size wr z2:=bel_tr hc1 hk2
       have G2a:=G2.below hk2
       dsimp only
       refine hK _ _ ⟨fun _=>HB18 _ hc2,fun _=>trivial⟩ ?_
       clear hK K
       refine wpAnyG.one 8 (by as_aux_lemma=>kernel_rfl) (by decide) (by rfl) (fun K hK=>?_)
       simp only [lgA,lgZ,lgS]
       go_simp
       refine (mulD z2 G2a.tr G3.tr (by omega) (by omega) (by omega)).mono ?_
       rintro e z3 ⟨p4,a4,n4,c4,d4,m4,e4,rfl,G4,hk3⟩
       have hc3:Below wr.heap.size wr z3:=bel_tr hc2 hk3
       dsimp only
       refine hK _ _ ⟨fun _=>HB18 _ hc3,fun _=>trivial⟩ ?_
       clear hK K
       refine wpAnyG.one 9 (by as_aux_lemma=>kernel_rfl) (by decide) (by rfl) (fun K hK=>?_)
       simp only [lgA,lgZ,lgS]
       go_simp
       refine (subD z3 (G1.tr.below hc3) G4.tr (by omega) (by omega) (by omega)).mono ?_
       rintro e z4 ⟨p5,a5,n5,c5,d5,m5,e5,rfl,G5,hk4⟩
       have hc4:Below wr.heap.size wr z4:=bel_tr hc3 hk4
       dsimp only
       refine hK _ _ ⟨fun _=>HB18 _ hc4,fun _=>trivial⟩ ?_
       clear hK K
       refine wpAnyG.one 10 (by as_aux_lemma=>kernel_rfl) (by decide) (by rfl) (fun K hK=>?_)
       simp only [lgA,lgZ,lgS]
       have RS:=RV.below hc4
       have y0:=(RS.cell 0).trans (show _ = some (.bool p1) from rfl)
       have y1:=(RS.cell 1).trans (show _ = some (.slice a1 n1 c1) from rfl)
       have y2:=(RS.cell 2).trans (show _ = some (.slice d1 m1 e1) from rfl)
       have y3:=RS.frozen 0
       have y4:=RS.frozen 1
       have y5:=RS.frozen 2
       go_simp
       refine hK _ _ ⟨fun h=>absurd h (by decide),fun _=>trivial⟩ ?_
       clear hK K
       refine wpAnyG.done (by as_aux_lemma=>kernel_rfl) (NoPanic.normal ?_)
       obtain ⟨RN,O9⟩:=RS.set3 (.bool p5) (.slice a5 n5 c5) (.slice d5 m5 e5)
       have hev:(lat lc j - rsum (fun k=>mul0 X lc s.cn s.bn k * lat (s.row k).l j) i) - bmu X lc s.cn s.bn i * s.e i j = (lat lc j - rsum (fun k=>mul0 X lc s.cn s.bn k * lat (s.row k).l j) (i + 1)):=by
        rw [rsum_succ,hPly.mu_e lc hlt hlj]
        generalize rsum (fun k=>mul0 X lc s.cn s.bn k * lat (s.row k).l j) i = q1
        generalize mul0 X lc s.cn s.bn i * lat (s.row i).l j = q2
        grind
       have GN:=((((G5.mono (Nat.zero_le _)).val hev).fit (HMD.out j hlj (i + 1) (by omega))).keep (RS.noW (by decide)) O9.grown)
       have hbf:Below w6.heap.size w6 (((z4.setCell ⟨RD,0,none⟩ (.bool p5)).setCell ⟨RD,1,none⟩ (.slice a5 n5 c5)).setCell ⟨RD,2,none⟩ (.slice d5 m5 e5)):=(bel_tr hbu hc4).trans (O9.below hRDw)
       clear HB18 G1 G2 G2a G3 G4 G5 RS O9 hc0 hc1 hc2 hc3 hc4 hk1 hk2 hk3 hk4 hbu y0 y1 y2 y3 y4 y5 RV hev BU
       go_wp2
       go_roundw
       case rel=>first | exact ⟨i + 1,p5,a5,n5,c5,d5,m5,e5,by omega,by go_num,RN,GN,hbf⟩ | ((repeat apply Exists.intro);refine ⟨?_,rfl⟩;exact ⟨i + 1,p5,a5,n5,c5,d5,m5,e5,by omega,by go_num,RN,GN,hbf⟩)
       case measure=>simp [intOf];omega
      ·have hiI:¬ (i:Int) < (s.bn:Int):=by omega
       obtain rfl:i = s.bn:=by omega
       have HB19:∀ w',Below wr.heap.size wr w'→(w'.cell? ⟨RD,0,none⟩ = some (.bool p1)∧w'.cell? ⟨RD,1,none⟩ = some (.slice a1 n1 c1)∧w'.cell? ⟨RD,2,none⟩ = some (.slice d1 m1 e1)):=fun w' h=>⟨kept_c h v0,kept_c h v1,kept_c h v2⟩
       clear v0 v1 v2 BU
       go_wp2_with fail
       refine wp_region_noPanic (wp_region_guardB HB19 (by as_aux_lemma=>kernel_rfl) ?_)
       have hc0:Below wr.heap.size wr wr.drew:=bel_d1 _
       generalize wr.drew = z0 at *
       refine wpAnyG.tA 0 (v:=.pointer (some ⟨R,0,none⟩)) (by decide) 5 (by as_aux_lemma=>kernel_rfl) (by rfl) ?y0 (HB19 _ hc0) ?_
       case y0 =>
        rintro w' ⟨q0,q1,q2⟩
        simp only [lgA,lgZ]
        go_simp
       simp only [lgA,lgZ,Act.put,lsA,lsZ,lsS]
       refine wpAnyG.tA 1 (v:=.int .i64 (j:Int)) (by decide) 5 (by as_aux_lemma=>kernel_rfl) (by rfl) ?y1 (HB19 _ hc0) ?_
       case y1 =>
        rintro w' ⟨q0,q1,q2⟩
        simp only [lgA,lgZ,lgS]
        go_simp
       simp only [lgA,lgZ,lgS,Act.put,lsA,lsZ,lsS]
       refine wpAnyG.tA 3 (v:=.agg #[.bool p1,.slice a1 n1 c1,.slice d1 m1 e1]) (by decide) 5 (by as_aux_lemma=>kernel_rfl) (by rfl) ?y3 (HB19 _ hc0) ?_
       case y3 =>
        rintro w' ⟨q0,q1,q2⟩
        simp only [lgA,lgZ,lgS]
        go_simp
       simp only [lgA,lgZ,lgS,Act.put,lsA,lsZ,lsS]
       refine wpAnyG.one 2 (by as_aux_lemma=>kernel_rfl) (by decide) (by rfl) (fun K hK=>?_)
       simp only [lgA,lgZ,lgS]
       go_simp
       refine (hRd z0 j hlj (bel_tr b6 (bel_tr hbu hc0))).mono ?_
       rintro e z1 ⟨p2,a2,n2,c2,d2,m2,e2,rfl,G2,hk1⟩
       have hc1:Below wr.heap.size wr z1:=bel_tr hc0 hk1
       dsimp only
       refine hK _ _ (HB19 _ hc1) ?_
       clear hK K
       refine wpAnyG.one 4 (by as_aux_lemma=>kernel_rfl) (by decide) (by rfl) (fun K hK=>?_)
       simp only [lgA,lgZ,lgS]
       go_simp
       refine (sameL z1 G2 (G1.below hc1) HEQ.out (by omega) (by omega) (by omega)).mono ?_
       rintro e z2 ⟨rfl,hk2⟩
       have hc2:Below wr.heap.size wr z2:=bel_tr hc1 hk2
       dsimp only
       refine hK _ _ (HB19 _ hc2) ?_
       clear hK K
       refine wpAnyG.one 5 (by as_aux_lemma=>kernel_rfl) (by decide) (by rfl) (fun K hK=>?_)
       simp only [lgA,lgZ,lgS]
       go_simp
       refine hK _ _ (HB19 _ hc2) ?_
       clear hK K
       refine wpAnyG.done (by as_aux_lemma=>kernel_rfl) (NoPanic.normal ?_)
       have hbf:=bel_tr b56 (bel_tr hbu hc2)
       clear HB19 G1 G2 hc0 hc1 hc2 hk1 hk2 hbu y1 RV
       go_wp2
       go_roundw
       case rel=>first | exact ⟨j + 1,by omega,by go_num,hbf⟩ | ((repeat apply Exists.intro);refine ⟨?_,rfl⟩;exact ⟨j + 1,by omega,by go_num,hbf⟩)
       case measure=>simp [intOf];omega
    ·have hjI:¬ (j:Int) < (s.cn:Int):=by omega
     have HB22:∀ w',Below wr.heap.size wr w'→(w'.cell? ⟨RW,0,none⟩ = some (.bool p0)∧w'.cell? ⟨RW,1,none⟩ = some (.slice a0 n0 c0)∧w'.cell? ⟨RW,2,none⟩ = some (.slice d0 m0 e0)):=fun w' h=>⟨(((RV.below hbt).below h).cell 0).trans rfl,(((RV.below hbt).below h).cell 1).trans rfl,(((RV.below hbt).below h).cell 2).trans rfl⟩
     go_wp2_with fail
     refine wp_region_noPanic (wp_region_guardB HB22 (by as_aux_lemma=>kernel_rfl) ?_)
     have hc0:Below wr.heap.size wr wr.drew:=bel_d1 _
     generalize wr.drew = z0 at *
     refine wpAnyG.tA 0 (v:=.pointer (some ⟨R,0,none⟩)) (by decide) 4 (by as_aux_lemma=>kernel_rfl) (by rfl) ?y0 (HB22 _ hc0) ?_
     case y0 =>
      rintro w' ⟨q0,q1,q2⟩
      simp only [lgA,lgZ]
      go_simp
     simp only [lgA,lgZ,Act.put,lsA,lsZ,lsS]
     refine wpAnyG.tA 2 (v:=.agg #[.bool p0,.slice a0 n0 c0,.slice d0 m0 e0]) (by decide) 4 (by as_aux_lemma=>kernel_rfl) (by rfl) ?y2 (HB22 _ hc0) ?_
     case y2 =>
      rintro w' ⟨q0,q1,q2⟩
      simp only [lgA,lgZ,lgS]
      go_simp
     simp only [lgA,lgZ,lgS,Act.put,lsA,lsZ,lsS]
     refine wpAnyG.one 1 (by as_aux_lemma=>kernel_rfl) (by decide) (by rfl) (fun K hK=>?_)
     simp only [lgA,lgZ,lgS]
     go_simp
     refine (hWor z0 (bel_tr hbw (bel_tr hbt hc0))).mono ?_
     rintro e z1 ⟨p2,a2,n2,c2,d2,m2,e2,rfl,G2,hk1⟩
     have hc1:Below wr.heap.size wr z1:=bel_tr hc0 hk1
     dsimp only
     refine hK _ _ (HB22 _ hc1) ?_
     clear hK K
     refine wpAnyG.one 3 (by as_aux_lemma=>kernel_rfl) (by decide) (by rfl) (fun K hK=>?_)
     simp only [lgA,lgZ,lgS]
     go_simp
     refine (sameL z1 G2 (G0.below (bel_tr hbt hc1)) HWQ.out (by omega) (by omega) (by omega)).mono ?_
     rintro e z2 ⟨rfl,hk2⟩
     have hc2:Below wr.heap.size wr z2:=bel_tr hc1 hk2
     dsimp only
     refine hK _ _ (HB22 _ hc2) ?_
     clear hK K
     refine wpAnyG.one 4 (by as_aux_lemma=>kernel_rfl) (by decide) (by rfl) (fun K hK=>?_)
     simp only [lgA,lgZ,lgS]
     go_simp
     refine hK _ _ (HB22 _ hc2) ?_
     clear hK K
     refine wpAnyG.done (by as_aux_lemma=>kernel_rfl) (NoPanic.normal ?_)
     have hbf:=bel_tr hb4 (bel_tr hbw (bel_tr hbt hc2))
     clear HB22 G2 hc0 hc1 hc2 hk1 hk2 RV G0 hbw hbt y2
     go_wp2
     go_ret
     exact ⟨rfl,hbf⟩
theorem mults_all {s:StD} {K KC KL:Nat} {sa:Option Addr} {sn sc:Nat} {O:Nat→OpD} {ca:Option Addr} {cn cc:Nat} {Y:Nat→Rat} {ZY:Nat→Nat} {ev0 ev1 ev2:Value} (w:World) (hs:StQ w s K) (hz:∃ z,StZ s z∧stK s z≤K) (hN:s.cn + s.bn≤K) (hO:OpL w sa sn O KC) (hOk:∀ i,i < sn→(O i).cn≤(O i).cc∧(O i).cn≤KC∧∀ N k,k≤(O i).cn→CsZ (lco (O i).Y k) N KC) (hsn:sn≤KC) (hC:LQ w ca cn Y ZY) (hzy:∀ i,i < cn→1≤ZY i∧SzR (Y i) (ZY i)) (hty:tot ZY cn≤KL) (hcc:cn≤cc) (hcn:cn≤KL) (hK:1≤K∧1≤KC∧1≤KL∧K + KC + KL≤1048600) (hT:TB w) (E0:Errs w 0 ev0) (E1:Errs w 1 ev1) (E2:Errs w 2 ev2) :
  Calls Tryz.prog 3 #[.agg #[.slice s.aa s.an s.ac,.slice s.ba s.bn s.bc,.slice s.ca s.cn s.cc,.bool s.zp,.slice s.za s.zn s.zc,.slice s.zd s.zm s.ze],.slice sa sn sc,.slice ca cn cc] w fun e w'=>e = .returned (.bool true)∧Below w.heap.size w w':=by
 have ht:∀ n,totB (fun c=>ZY c + 1) n + 1≤tot ZY n:=fun n=>by
  induction n with
  | zero=>exact Nat.le_refl _
  | succ n ih =>
   show totB (fun c=>ZY c + 1) n + (ZY n + 1) + 1≤tot ZY n + ZY n + 1
   omega
 have h1:=ht cn
 refine mults_walk (KL:=KL) w (fun w' hb=>awake11 w' (hT.below hb) (E0.below hb) (E1.below hb) (E2.below hb)) hs ⟨hz,⟨hK.1,by omega⟩,⟨hK.2.1,by omega⟩,by omega⟩ ⟨hz,⟨hK.1,by omega⟩,⟨hK.2.2.1,by omega⟩,by omega⟩ (by omega) hO (fun i hi=>⟨(hOk i hi).1,by have:=(hOk i hi).2.1;omega,fun k hk=>(hOk i hi).2.2 _ k hk⟩) (by omega) (hC.uni fun i hi=>?_) hcc (by omega) (csz_lco (ZY:=ZY) (fun c hc=>(hzy c hc).2) (by omega) _) hT E0 E1 E2
 have:=totB_one (f:=fun c=>ZY c + 1) hi
 have:ZY i + 1≤totB (fun c=>ZY c + 1) cn:=this
 omega
end Go.Proofs.YtmpkgpilfcbdnaaGreatDoor

import Derived.Test.YtiohbjnflpnfbaaGreatDoorBpOAll
import Derived.Test.YtiohbjnflpnfbaaGreatDoorQAll
namespace Go.Proofs.YtiohbjnflpnfbaaGreatDoor
open Go.RowKit
theorem brt_at {X:Nat→RoD} {m i:Nat} (hi:i < m):brt X m (i:Int) = (X i).r:=by
 unfold brt
 rw [if_pos ⟨by omega,by omega⟩,Int.toNat_natCast]
theorem bat_at {X:Nat→RoD} {m i:Nat} (hi:i < m) (j:Int):bat X m (i:Int) j = latI (X i).l j:=by
 unfold bat
 rw [if_pos ⟨by omega,by omega⟩,Int.toNat_natCast]
def LvS (X:Nat→RoD) (m N q c:Nat):Prop:=q < m∧c < N∧(X q).bas ≠ -1∧0 < lat (X q).l c∧∀ p,p < m→(X p).bas ≠ -1→0 < lat (X p).l c→(X q).r / lat (X q).l c≤(X p).r / lat (X p).l c
theorem lvs_of {X:Nat→RoD} {m N:Nat} {y:Int} (hk:∀ q,q < m→Blw (X q).l N) (h:¬ (lvf X y m).1 < 0):∃ q c:Nat,(lvf X y m).1 = (q:Int)∧y = (c:Int)∧LvS X m N q c:=by
 obtain ⟨q,h1,h2,h3,h4,h5,h6⟩:=lvf_some m (fun e=>h (by rw [e];decide))
 have hy:0≤y:=by
  by_cases h:0≤y
  ·exact h
  ·rw [latI_neg _ (by omega)] at h4
   exact absurd h4 (by decide)
 obtain ⟨c,rfl⟩:∃ c:Nat,y = (c:Int):=⟨y.toNat,by omega⟩
 simp only [latI_nat] at h4 h5 h6
 refine ⟨q,c,h2,rfl,h1,?_,h3,h4,fun p hp hb ha=>by rw [← h5];exact h6 p hp hb ha⟩
 by_cases hc:c < N
 ·exact hc
 ·rw [(hk q h1).lat (by omega)] at h4
  exact absurd h4 (by decide)
set_option maxRecDepth 100000 in
set_option maxHeartbeats 8000000 in
theorem leaves_walk {s:StD} {K KC:Nat} {sa:Option Addr} {sn sc:Nat} {O:Nat→OpD} {ev0 ev1 ev2:Value} (j:Int) (w:World) (hAw:∀ w',Below w.heap.size w w'→Calls Tryz.prog 6 #[] w' fun e w''=>e = .returned (.bool true)∧Below w'.heap.size w' w'') (hs:StQ w s K) (Z:GmZ s K KC) (hKK:K + KC≤1048600) (hO:OpL w sa sn O KC) (hOk:∀ i,i < sn→(O i).cn≤(O i).cc∧(O i).cn≤3000000∧∀ k,k≤(O i).cn→CsZ (lco (O i).Y k) (s.cn + s.bn) KC) (hsn:sn≤100000000) (hT:TB w) (E0:Errs w 0 ev0) (E1:Errs w 1 ev1) (E2:Errs w 2 ev2) :
  Calls Tryz.prog 5 #[.agg #[.slice s.aa s.an s.ac,.slice s.ba s.bn s.bc,.slice s.ca s.cn s.cc,.bool s.zp,.slice s.za s.zn s.zc,.slice s.zd s.zm s.ze],.slice sa sn sc,.int .i64 j] w fun e w'=>e = .returned (.bool true)∧Below w.heap.size w w':=by
 have BX:=box_new w #[.slice s.aa s.an s.ac,.slice s.ba s.bn s.bc,.slice s.ca s.cn s.cc,.bool s.zp,.slice s.za s.zn s.zc,.slice s.zd s.zm s.ze] 31
 have hb0:=bel_d0 w (.cells #[.slice s.aa s.an s.ac,.slice s.ba s.bn s.bc,.slice s.ca s.cn s.cc,.bool s.zp,.slice s.za s.zn s.zc,.slice s.zd s.zm s.ze] 31)
 go_enter Tryz.func5,Tryz.ntmps5
 go_wp2_with fail
 generalize w.alloc (.cells #[.slice s.aa s.an s.ac,.slice s.ba s.bn s.bc,.slice s.ca s.cn s.cc,.bool s.zp,.slice s.za s.zn s.zc,.slice s.zd s.zm s.ze] 31) = W0 at *
 refine (hAw W0 hb0).mono ?_
 clear hAw
 rintro e w1 ⟨rfl,h1⟩
 have hb1:=bel_tr hb0 h1
 replace BX:=BX.below h1
 have x0:=BX 0 _ rfl
 have x1:=BX 1 _ rfl
 have x2:=BX 2 _ rfl
 have x3:=BX 3 _ rfl
 have x4:=BX 4 _ rfl
 have x5:=BX 5 _ rfl
 go_wp2_with fail
 clear x0 x1 x2 x3 x4 x5
 refine (playedB w1 (hs.below hb1) Z (hO.below hb1) hOk hsn (hT.below hb1) (E0.below hb1) (E1.below hb1) (E2.below hb1)).mono ?_
 rintro e w2 ⟨F,f,X,b,lc,rfl,hF1,hF2,G,h2⟩
 have hb2:=bel_tr hb1 h2
 replace BX:=BX.below h2
 obtain ⟨m,em⟩:∃ m,m = s.bn:=⟨_,rfl⟩
 have HM:Hid (m = s.bn):=em
 have hfm:f.m = m:=by rw [em];exact G.m
 have HFM:Hid (f.m = m):=hfm
 have hNN:s.cn + f.m≤3000000:=by rw [G.m];exact Z.n
 have hTF:4 < F:=Nat.lt_of_lt_of_le (hT.below hb1).2 hF1
 obtain ⟨NN,eNN⟩:∃ NN,NN = s.cn + m:=⟨_,rfl⟩
 have HNN:Hid (NN = s.cn + m):=eNN
 obtain ⟨R,eR⟩:∃ R,R = f.b:=⟨_,rfl⟩
 have HR:Hid (f.b = R):=eR.symm
 have hP1:=Z.k
 have hP2:=Z.kc
 have hT2:=hT.below hb2
 have hBas:Calls Tryz.prog 8 #[.pointer (some ⟨R,0,none⟩)] w2 fun e w'=>BasP w2 X m e w':=by
  have h:=basisL w2 G.bd hNN
  rw [hfm,← eR] at h
  exact h
 have hCol:∀ z,Below w2.heap.size w2 z→Calls Tryz.prog 15 #[.pointer (some ⟨R,0,none⟩)] z fun e w'=>e = .returned (.int .i64 (NN:Nat))∧Below z.heap.size z w':=fun z hz=>by
  have h:=colsB z (G.bd.below hz) hNN
  rw [hfm,← eR,← eNN] at h
  exact h
 have hAt:∀ z (i j:Int),Below w2.heap.size w2 z→Calls Tryz.prog 11 #[.pointer (some ⟨R,0,none⟩),.int .i64 i,.int .i64 j] z fun e w'=>NumP z (bat X m i j) K e w':=fun z i j hz=>by
  have h:=atBB i j z (G.bd.below hz) hNN ⟨hP1.1,by omega⟩ (hT2.below hz)
  rw [hfm,← eR] at h
  exact h
 have hLv:∀ z (y:Int),Below w2.heap.size w2 z→Calls Tryz.prog 20 #[.pointer (some ⟨R,0,none⟩),.int .i64 y] z fun e w'=>LvP z X m y e w':=fun z y hz=>by
  have h:=leaveB y z (G.bd.below hz) hP1 hNN (hT2.below hz)
  rw [hfm,← eR] at h
  exact h
 have hRiga:∀ z (i:Int),Below w2.heap.size w2 z→Calls Tryz.prog 19 #[.pointer (some ⟨R,0,none⟩),.int .i64 i] z fun e w'=>NumP z (brt X m i) K e w':=fun z i hz=>by
  have h:=rightB i z (G.bd.below hz) ⟨hP1.1,by omega⟩ (hT2.below hz)
  rw [hfm,← eR] at h
  exact h
 have hWora:∀ z,Below w2.heap.size w2 z→Calls Tryz.prog 23 #[.pointer (some ⟨R,0,none⟩)] z fun e w'=>NumP z (rsum (bco X lc fun q=>(X q).r) m) (K + KC + 1) e w':=fun z hz=>by
  have h:=worthB (T:=K + KC + 1) z (G.bd.below hz) hP1.1 hP2.1 ⟨by omega,by omega⟩ (G.wz Z) hNN (hT2.below hz)
  rw [hfm,← eR] at h
  exact h
 rw [← eR]
 have hmN:m≤3000000:=by omega
 have hBK:∀ q,q < m→-1≤(X q).bas:=fun q hq=>(G.bd.k q (by rw [hfm];exact hq)).2.2.1
 have HBW:Hid (∀ q,q < m→Blw (X q).l (s.cn + m)):=fun q hq=>by
  have h:=(G.bd.k q (by rw [hfm];exact hq)).2.1
  rw [hfm] at h
  exact h
 have HBK:Hid (∀ q,q < m→-1≤(X q).bas):=hBK
 clear em hfm eNN eR h1 h2 hb0 hO hOk hs hBK
 go_wp2_with fail
 refine hBas.mono ?_
 clear hBas
 rintro e w3 ⟨gl,rfl,hgl,RI,h3⟩
 have KL:Hid (∀ z q,q < m→Below w3.heap.size w3 z→z.cell? ⟨gl,q,none⟩ = some (.int .i64 (X q).bas)):=fun z q hq hz=>kept_c hz (RI.cell hq)
 clear RI
 go_wp2
 go_loopw [10] (fun si wr=>∃ i:Nat,i≤m∧si = .int .i64 i∧Hid (∀ q,q < i→(X q).bas ≠ -1→0≤(X q).r)∧Below w3.heap.size w3 wr) (fun x _=>m - (intOf x).toNat)
 case atStart=>exact ⟨0,Nat.zero_le _,rfl,fun q hq=>absurd hq (Nat.not_lt_zero _),Below.refl _ _⟩
 case round =>
  obtain ⟨i,hi,rfl,HQ,hbw⟩:=hrel
  have bw:=bel_tr h3 hbw
  by_cases hlt:i < m
  ·have hiI:(i:Int) < (m:Int):=by omega
   have hi0:¬ (i:Int) < 0:=by omega
   have y0:=KL.out wr i hlt hbw
   obtain ⟨bas,ebas⟩:∃ bas,bas = (X i).bas:=⟨_,rfl⟩
   rw [← ebas] at y0
   have HBS:Hid (bas = (X i).bas):=ebas
   have hbk:-1≤bas:=by rw [ebas];exact HBK.out i hlt
   clear ebas
   by_cases hbn:bas = -1
   ·have HQ2:Hid (∀ q,q < i + 1→(X q).bas ≠ -1→0≤(X q).r):=fun q hq hb=>by
     by_cases e:q = i
     ·subst e;exact absurd (HBS.out.symm.trans hbn) hb
     ·exact HQ.out q (by omega) hb
    have hb0:¬ 0≤bas:=by omega
    have hb1:bas < 0:=by omega
    have hd2:decide (0≤bas) = false:=decide_eq_false (by omega)
    clear HQ hbn
    go_wp2
    go_roundw
    case rel=>first | exact ⟨i + 1,by omega,by go_num,HQ2,hbw⟩ | ((repeat apply Exists.intro);refine ⟨?_,rfl⟩;exact ⟨i + 1,by omega,by go_num,HQ2,hbw⟩)
    case measure=>simp [intOf];omega
   ·have hb0:0≤bas:=by omega
    have hb1:¬ bas < 0:=by omega
    have hd2:decide (0≤bas) = true:=decide_eq_true (by omega)
    go_wp2_with fail
    refine (hRiga _ (i:Int) bw).mono ?_
    rintro e w5 ⟨p1,a1,n1,c1,d1,m1,e1,rfl,G1,h5⟩
    obtain ⟨sg,esg⟩:∃ sg:Int,sg = (brt X m (i:Int)).num.sign:=⟨_,rfl⟩
    have HSG:Hid (sg = (brt X m (i:Int)).num.sign):=esg
    clear esg
    go_wp2_with fail
    refine (signB sg w5 G1.tr (by omega) hP1.1 HSG.out).mono ?_
    rintro e w6 ⟨rfl,h6⟩
    have hbn2:=bel_tr hbw (bel_tr h5 h6)
    clear G1 h5 h6
    by_cases hsg:sg < 0
    ·have hbf:=bel_tr hb2 (bel_tr h3 hbn2)
     clear y0 bw hbw hbn2
     go_wp2
     go_ret
     exact ⟨rfl,hbf⟩
    ·have HQ2:Hid (∀ q,q < i + 1→(X q).bas ≠ -1→0≤(X q).r):=fun q hq hb=>by
      by_cases e:q = i
      ·subst e
       rw [HSG.out,brt_at hlt] at hsg
       exact sgn_nn.1 hsg
      ·exact HQ.out q (by omega) hb
     clear y0 bw hbw HQ
     go_wp2
     go_roundw
     case rel=>first | exact ⟨i + 1,by omega,by go_num,HQ2,hbn2⟩ | ((repeat apply Exists.intro);refine ⟨?_,rfl⟩;exact ⟨i + 1,by omega,by go_num,HQ2,hbn2⟩)
     case measure=>simp [intOf];omega
  ·have hiI:¬ (i:Int) < (m:Int):=by omega
   have HQ2:Hid (∀ q,q < m→(X q).bas ≠ -1→0≤(X q).r):=fun q hq hb=>HQ.out q (by omega) hb
   have z1:=(BX.below bw) 1 _ rfl
   have HB11:∀ w',Below wr.heap.size wr w'→(w'.cell? ⟨w.heap.size,1,none⟩ = some (.slice s.ba s.bn s.bc)):=fun w' h=>kept_c h z1
   clear HQ
   go_wp2_with fail
   refine wp_region_noPanic (wp_region_guardB HB11 (by as_aux_lemma=>kernel_rfl) ?_)
   have hc0:Below wr.heap.size wr wr.drew:=bel_d1 _
   generalize wr.drew = z0 at *
   refine wpAnyG.tA 0 (v:=.int .i64 j) (by decide) 12 (by as_aux_lemma=>kernel_rfl) (by rfl) ?y0 (HB11 _ hc0) ?_
   case y0 =>
    rintro w' q0
    simp only [lgA,lgZ]
    go_simp
   simp only [lgA,lgZ,Act.put,lsA,lsZ,lsS]
   refine wpAnyG.tA 1 (v:=.agg #[.int .i64 0,.int .i64 0,.int .i64 j,.bool false,.slice none 0 0]) (by decide) 12 (by as_aux_lemma=>kernel_rfl) (by rfl) ?y1 (HB11 _ hc0) ?_
   case y1 =>
    rintro w' q0
    simp only [lgA,lgZ,lgS]
    go_simp
   simp only [lgA,lgZ,lgS,Act.put,lsA,lsZ,lsS]
   refine wpAnyG.tA 2 (v:=.pointer (some ⟨w.heap.size,1,none⟩)) (by decide) 12 (by as_aux_lemma=>kernel_rfl) (by rfl) ?y2 (HB11 _ hc0) ?_
   case y2 =>
    rintro w' q0
    simp only [lgA,lgZ,lgS]
    go_simp
   simp only [lgA,lgZ,lgS,Act.put,lsA,lsZ,lsS]
   refine wpAnyG.tA 3 (v:=.slice s.ba s.bn s.bc) (by decide) 12 (by as_aux_lemma=>kernel_rfl) (by rfl) ?y3 (HB11 _ hc0) ?_
   case y3 =>
    rintro w' q0
    simp only [lgA,lgZ,lgS]
    go_simp
   simp only [lgA,lgZ,lgS,Act.put,lsA,lsZ,lsS]
   refine wpAnyG.tA 4 (v:=.int .i64 (s.bn:Nat)) (by decide) 12 (by as_aux_lemma=>kernel_rfl) (by rfl) ?y4 (HB11 _ hc0) ?_
   case y4 =>
    rintro w' q0
    simp only [lgA,lgZ,lgS]
    go_simp
   simp only [lgA,lgZ,lgS,Act.put,lsA,lsZ,lsS]
   refine wpAnyG.tA 5 (v:=.pointer (some ⟨R,0,none⟩)) (by decide) 12 (by as_aux_lemma=>kernel_rfl) (by rfl) ?y5 (HB11 _ hc0) ?_
   case y5 =>
    rintro w' q0
    simp only [lgA,lgZ,lgS]
    go_simp
   simp only [lgA,lgZ,lgS,Act.put,lsA,lsZ,lsS]
   refine wpAnyG.one 6 (by as_aux_lemma=>kernel_rfl) (by decide) (by rfl) (fun K hK=>?_)
   simp only [lgA,lgZ,lgS]
   go_simp
   refine (hCol z0 (bel_tr bw hc0)).mono ?_
   rintro e z1 ⟨rfl,hk1⟩
   have hc1:Below wr.heap.size wr z1:=bel_tr hc0 hk1
   dsimp only
   refine hK _ _ (HB11 _ hc1) ?_
   clear hK K
   refine wpAnyG.one 7 (by as_aux_lemma=>kernel_rfl) (by decide) (by rfl) (fun K hK=>?_)
   simp only [lgA,lgZ,lgS]
   go_simp
   refine (placesB _ _ z1).mono ?_
   rintro e z2 ⟨x,y,rfl,hk2⟩
   have hc2:Below wr.heap.size wr z2:=bel_tr hc1 hk2
   dsimp only
   refine hK _ _ (HB11 _ hc2) ?_
   clear hK K
   refine wpAnyG.tA 8 (v:=.tuple #[.int .i64 x,.int .i64 y]) (by decide) 12 (by as_aux_lemma=>kernel_rfl) (by rfl) ?y8 (HB11 _ hc2) ?_
   case y8 =>
    rintro w' q0
    simp only [lgA,lgZ,lgS]
    go_simp
   simp only [lgA,lgZ,lgS,Act.put,lsA,lsZ,lsS]
   refine wpAnyG.tA 9 (v:=.int .i64 x) (by decide) 12 (by as_aux_lemma=>kernel_rfl) (by rfl) ?y9 (HB11 _ hc2) ?_
   case y9 =>
    rintro w' q0
    simp only [lgA,lgZ,lgS]
    go_simp
   simp only [lgA,lgZ,lgS,Act.put,lsA,lsZ,lsS]
   refine wpAnyG.tA 10 (v:=.int .i64 y) (by decide) 12 (by as_aux_lemma=>kernel_rfl) (by rfl) ?y10 (HB11 _ hc2) ?_
   case y10 =>
    rintro w' q0
    simp only [lgA,lgZ,lgS]
    go_simp
   simp only [lgA,lgZ,lgS,Act.put,lsA,lsZ,lsS]
   refine wpAnyG.tA 11 (v:=.int .i64 x) (by decide) 12 (by as_aux_lemma=>kernel_rfl) (by rfl) ?y11 (HB11 _ hc2) ?_
   case y11 =>
    rintro w' q0
    simp only [lgA,lgZ,lgS]
    go_simp
   simp only [lgA,lgZ,lgS,Act.put,lsA,lsZ,lsS]
   refine wpAnyG.one 12 (by as_aux_lemma=>kernel_rfl) (by decide) (by rfl) (fun K hK=>?_)
   simp only [lgA,lgZ,lgS]
   go_simp
   refine hK _ _ (HB11 _ hc2) ?_
   clear hK K
   refine wpAnyG.done (by as_aux_lemma=>kernel_rfl) (NoPanic.normal ?_)
   have b4:=bel_tr hbw hc2
   have bw4:=bel_tr bw hc2
   clear HB11 z1 hc0 hc1 hc2 hk1 hk2 hbw bw
   obtain ⟨lv,elv⟩:∃ lv,lv = (lvf X y m).1:=⟨_,rfl⟩
   have HLV:Hid (lv = (lvf X y m).1):=elv
   clear elv
   have hlv:=hLv z2 y bw4
   go_wp2_with fail
   refine hlv.mono ?_
   clear hlv
   rintro e w6 ⟨rfl,h6⟩
   rw [← HLV.out]
   have b6:=bel_tr b4 h6
   have bw6:=bel_tr bw4 h6
   clear h6 b4 bw4
   by_cases hl0:lv < 0
   ·have hnone:lv = -1:=by have:=(lvf_lt X y m).1;have:=HLV.out;omega
    have HNO:Hid (∀ q,q < m→(X q).bas ≠ -1→¬ 0 < latI (X q).l y):=lvf_none m (by rw [← HLV.out];exact hnone)
    clear hnone
    go_wp2
    go_loopw [14] (fun si wr=>∃ i:Nat,i≤m∧si = .int .i64 i∧Below w3.heap.size w3 wr) (fun x _=>m - (intOf x).toNat)
    case atStart=>exact ⟨0,Nat.zero_le _,rfl,b6⟩
    case round =>
     clear b6 bw6
     obtain ⟨i,hi,rfl,hbw⟩:=hrel
     have bw:=bel_tr h3 hbw
     by_cases hlt:i < m
     ·have hiI:(i:Int) < (m:Int):=by omega
      have hi0:¬ (i:Int) < 0:=by omega
      have y0:=KL.out wr i hlt hbw
      obtain ⟨bas,ebas⟩:∃ bas,bas = (X i).bas:=⟨_,rfl⟩
      rw [← ebas] at y0
      have HBS:Hid (bas = (X i).bas):=ebas
      have hbk:-1≤bas:=by rw [ebas];exact HBK.out i hlt
      clear ebas
      by_cases hbn:bas = -1
      ·have hb0:¬ 0≤bas:=by omega
       have hb1:bas < 0:=by omega
       have hd2:decide (0≤bas) = false:=decide_eq_false (by omega)
       clear hbn
       go_wp2
       go_roundw
       case rel=>first | exact ⟨i + 1,by omega,by go_num,hbw⟩ | ((repeat apply Exists.intro);refine ⟨?_,rfl⟩;exact ⟨i + 1,by omega,by go_num,hbw⟩)
       case measure=>simp [intOf];omega
      ·have hb0:0≤bas:=by omega
       have hb1:¬ bas < 0:=by omega
       have hd2:decide (0≤bas) = true:=decide_eq_true (by omega)
       go_wp2_with fail
       refine (hAt _ (i:Int) y bw).mono ?_
       rintro e w7 ⟨p1,a1,n1,c1,d1,m1,e1,rfl,G1,h7⟩
       obtain ⟨sg,esg⟩:∃ sg:Int,sg = (bat X m (i:Int) y).num.sign:=⟨_,rfl⟩
       have HSG:Hid (sg = (bat X m (i:Int) y).num.sign):=esg
       clear esg
       go_wp2_with fail
       refine (signB sg w7 G1.tr (by omega) hP1.1 HSG.out).mono ?_
       rintro e w8 ⟨rfl,h8⟩
       have hbn2:=bel_tr hbw (bel_tr h7 h8)
       have hsg:sg≤0:=by
        rw [HSG.out,bat_at hlt]
        exact sgn_le.2 (HNO.out i hlt (by rw [← HBS.out];exact hbn))
       have hsg2:¬ 0 < sg:=by omega
       clear G1 h7 h8 y0 bw hbw
       go_wp2
       go_roundw
       case rel=>first | exact ⟨i + 1,by omega,by go_num,hbn2⟩ | ((repeat apply Exists.intro);refine ⟨?_,rfl⟩;exact ⟨i + 1,by omega,by go_num,hbn2⟩)
       case measure=>simp [intOf];omega
     ·have hiI:¬ (i:Int) < (m:Int):=by omega
      have hbf:=bel_tr hb2 bw
      clear bw hbw
      go_wp2
      go_ret
      exact ⟨rfl,hbf⟩
   ·obtain ⟨q0,c,eq0,ey,HS0⟩:=lvs_of HBW.out (y:=y) (by rw [← HLV.out];exact hl0)
    have elv:lv = (q0:Int):=HLV.out.trans eq0
    subst ey elv
    have HS:Hid (LvS X m (s.cn + m) q0 c):=HS0
    have hq0m:q0 < m:=HS0.1
    have hq0I:¬ (q0:Int) < 0:=by omega
    clear HS0 eq0 HLV
    go_wp2_with fail
    refine (hRiga _ (q0:Int) bw6).mono ?_
    rintro e w7 ⟨p4,a4,n4,c4,d4,m4,e4,rfl,G4,h7⟩
    have bw7:=bel_tr bw6 h7
    go_wp2_with fail
    refine (hAt _ (q0:Int) (c:Int) bw7).mono ?_
    rintro e w8 ⟨p5,a5,n5,c5,d5,m5,e5,rfl,G5,h8⟩
    have hne:bat X m (q0:Int) (c:Int) ≠ 0:=by
     rw [bat_at hq0m,latI_nat]
     intro e
     have:=HS.out.2.2.2.1
     rw [e] at this
     exact absurd this (by decide)
    have HNE:Hid (bat X m (q0:Int) (c:Int) ≠ 0):=hne
    clear hne
    go_wp2_with fail
    refine (quoD w8 (G4.tr.below h8) G5.tr (by omega) hP1.1 hP1.1 HNE.out).mono ?_
    rintro e w9 ⟨p6,a6,n6,c6,d6,m6,e6,rfl,G6,h9⟩
    obtain ⟨rr,err⟩:∃ rr,rr = brt X m (q0:Int) / bat X m (q0:Int) (c:Int):=⟨_,rfl⟩
    rw [← err] at G6
    have HRR:Hid (rr = (X q0).r / lat (X q0).l c):=by show rr = _;rw [err,brt_at hq0m,bat_at hq0m,latI_nat]
    have k9:=bel_d0 w9 (.cells #[.bool p6,.slice a6 n6 c6,.slice d6 m6 e6] 29)
    have RQ9:=Rw.new 29 w9 #[.bool p6,.slice a6 n6 c6,.slice d6 m6 e6]
    have GQ:=(G6.mono (Nat.zero_le _)).below k9
    have b9:=bel_tr b6 (bel_tr h7 (bel_tr h8 (bel_tr h9 k9)))
    have bU:=bel_tr bw7 (bel_tr h8 (bel_tr h9 k9))
    obtain ⟨RQ,eRQ⟩:∃ RQ,RQ = w9.heap.size:=⟨_,rfl⟩
    rw [← eRQ] at RQ9
    clear G4 G5 G6 h7 h8 h9 k9 b6 bw6 bw7 err
    go_wp2_with fail
    try rw [← eRQ]
    clear eRQ
    generalize w9.alloc (.cells #[.bool p6,.slice a6 n6 c6,.slice d6 m6 e6] 29) = U at *
    have hRd:∀ z,Below w2.heap.size w2 z→Calls Tryz.prog 10 #[.pointer (some ⟨R,0,none⟩),.int .i64 (c:Int)] z fun e w'=>NumP z (rdc X lc m (c:Int)) (K + KC + 1) e w':=fun z hz=>by
     have h:=reducedB (T:=K + KC + 1) (c:Int) z (G.bd.below hz) hP1.1 hP2.1 ⟨by omega,by omega⟩ (G.rz Z c (by rw [HFM.out];exact HS.out.2.1)) hNN (hT2.below hz)
     rw [HFM.out,HR.out] at h
     exact h
    have HBX:∀ w',Below U.heap.size U w'→(w'.cell? ⟨RQ,0,none⟩ = some (.bool p6)∧w'.cell? ⟨RQ,1,none⟩ = some (.slice a6 n6 c6)∧w'.cell? ⟨RQ,2,none⟩ = some (.slice d6 m6 e6)):=fun w' h=>⟨((RQ9.below h).cell 0).trans rfl,((RQ9.below h).cell 1).trans rfl,((RQ9.below h).cell 2).trans rfl⟩
    refine wp_cutB (fun a0 a' w'=>∃ (u1 u2 u3 u4 u5 u6 u7:Value) (RW:Nat) (p9:Bool) (a9:Option Addr) (n9 c9:Nat) (d9:Option Addr) (m9 e9:Nat),a' = ((((((((a0.put (some 96) u1).put (some 97) u2).put (some 98) u3).put (some 99) u4).put (some 100) u5).put (some 101) u6).put (some 102) u7).put (some 17) (.pointer (some ⟨RW,0,none⟩)))∧Rw 29 w' RW #[.bool p9,.slice a9 n9 c9,.slice d9 m9 e9]∧GR w' 0 p9 a9 n9 c9 d9 m9 e9 (rsum (bco X lc fun q=>(X q).r) m + rdc X lc m (c:Int) * rr) (K + KC + 1 + (K + KC + 1 + (K + K)) + 1)∧U.heap.size≤RW∧Below U.heap.size U w') ?_ ?_
    ·refine wp_region_noPanic (wp_region_guardT 8 HBX (by as_aux_lemma=>kernel_rfl) ?_)
     have hc0:Below U.heap.size U U.drew:=bel_d1 _
     generalize U.drew = z0 at *
     refine wpAnyG.tT 0 (v:=.pointer (some ⟨R,0,none⟩)) (by decide) 8 (by as_aux_lemma=>kernel_rfl) (by rfl) ?y0 (HBX _ hc0) ?_
     case y0 =>
      rintro w' ⟨q0,q1,q2⟩
      simp only [lgA,lgZ]
      go_simp
     simp only [lgA,lgZ,Act.put,lsA,lsZ,lsS]
     refine wpAnyG.tT 2 (v:=.pointer (some ⟨R,0,none⟩)) (by decide) 8 (by as_aux_lemma=>kernel_rfl) (by rfl) ?y2 (HBX _ hc0) ?_
     case y2 =>
      rintro w' ⟨q0,q1,q2⟩
      simp only [lgA,lgZ,lgS]
      go_simp
     simp only [lgA,lgZ,lgS,Act.put,lsA,lsZ,lsS]
     refine wpAnyG.tT 3 (v:=.int .i64 (c:Int)) (by decide) 8 (by as_aux_lemma=>kernel_rfl) (by rfl) ?y3 (HBX _ hc0) ?_
     case y3 =>
      rintro w' ⟨q0,q1,q2⟩
      simp only [lgA,lgZ,lgS]
      go_simp
     simp only [lgA,lgZ,lgS,Act.put,lsA,lsZ,lsS]
     refine wpAnyG.tT 5 (v:=.agg #[.bool p6,.slice a6 n6 c6,.slice d6 m6 e6]) (by decide) 8 (by as_aux_lemma=>kernel_rfl) (by rfl) ?y5 (HBX _ hc0) ?_
     case y5 =>
      rintro w' ⟨q0,q1,q2⟩
      simp only [lgA,lgZ,lgS]
      go_simp
     simp only [lgA,lgZ,lgS,Act.put,lsA,lsZ,lsS]
     refine wpAnyG.two 1 7 (by as_aux_lemma=>kernel_rfl) (by decide) (by decide) (by rfl) (by rfl) (fun K hK=>?_) (fun K hK=>?_)
     ·simp only [lgA,lgZ,lgS]
      go_simp
      refine (hWora z0 (bel_tr bU hc0)).mono ?_
      rintro e z1 ⟨p7,a7,n7,c7,d7,m7,e7,rfl,GA1,hk⟩
      have hc1:=bel_tr hc0 hk
      dsimp only
      refine hK _ _ ⟨fun _=>HBX _ hc1,fun _=>trivial⟩ ?_
      clear hK K hk
      refine wpAnyG.two 4 7 (by as_aux_lemma=>kernel_rfl) (by decide) (by decide) (by rfl) (by rfl) (fun K hK=>?_) (fun K hK=>?_)
      ·simp only [lgA,lgZ,lgS]
       go_simp
       refine (hRd z1 (bel_tr bU hc1)).mono ?_
       rintro e z2 ⟨p8,a8,n8,c8,d8,m8,e8,rfl,GB2,hk⟩
       have hc2:=bel_tr hc1 hk
       have GA2:=GA1.below hk
       dsimp only
       refine hK _ _ ⟨fun _=>HBX _ hc2,fun _=>trivial⟩ ?_
       clear hK K hk
       refine wpAnyG.two 6 7 (by as_aux_lemma=>kernel_rfl) (by decide) (by decide) (by rfl) (by rfl) (fun K hK=>?_) (fun K hK=>?_)
       ·simp only [lgA,lgZ,lgS]
        go_simp
        refine (plusB z2 GA2.tr GB2.tr (GQ.tr.below hc2) ⟨by omega,by omega,by omega⟩ (by omega)).mono ?_
        rintro e z3 ⟨p9,a9,n9,c9,d9,m9,e9,rfl,GC3,hk⟩
        have hc3:=bel_tr hc2 hk
        have GA3:=GA2.below hk
        have GB3:=GB2.below hk
        dsimp only
        refine hK _ _ ⟨fun _=>HBX _ hc3,fun _=>trivial⟩ ?_
        clear hK K hk
        refine wpAnyG.one 7 (by as_aux_lemma=>kernel_rfl) (by decide) (by rfl) (fun K hK=>?_)
        simp only [lgA,lgZ,lgS]
        go_simp
        have hx:=bel_d0 z3 (.cells #[.bool false,.slice none 0 0,.slice none 0 0] 29)
        have RX4:=Rw.new 29 z3 #[.bool false,.slice none 0 0,.slice none 0 0]
        have hc4:=bel_tr hc3 hx
        have hRX:U.heap.size≤z3.heap.size:=hc3.size
        have GC4:=GC3.below hx
        refine hK _ _ ⟨fun _=>HBX _ hc4,fun _=>trivial⟩ ?_
        clear hK K hx
        generalize z3.alloc (.cells #[.bool false,.slice none 0 0,.slice none 0 0] 29) = z4 at *
        refine wpAnyG.one 8 (by as_aux_lemma=>kernel_rfl) (by decide) (by rfl) (fun K hK=>?_)
        have y0:=(RX4.cell 0).trans (show _ = some (.bool false) from rfl)
        have y1:=(RX4.cell 1).trans (show _ = some (.slice none 0 0) from rfl)
        have y2:=(RX4.cell 2).trans (show _ = some (.slice none 0 0) from rfl)
        have y3:=RX4.frozen 0
        have y4:=RX4.frozen 1
        have y5:=RX4.frozen 2
        simp only [lgA,lgZ,lgS]
        go_simp
        obtain ⟨RN,O⟩:=RX4.set3 (.bool p9) (.slice a9 n9 c9) (.slice d9 m9 e9)
        have hd:=hc4.trans (O.below hRX)
        have GN:=(GC4.mono (Nat.zero_le _)).keep (RX4.noW (by decide)) O.grown
        refine hK _ _ ⟨fun h=>absurd h (by decide),fun _=>trivial⟩ ?_
        clear hK K y0 y1 y2 y3 y4 y5 O
        refine wpAnyG.done (by as_aux_lemma=>kernel_rfl) (NoPanic.normal ?_)
        exact ⟨rfl,_,_,_,_,_,_,_,z3.heap.size,_,_,_,_,_,_,_,rfl,RN,GN,hRX,hd⟩
       ·simp only [lgA,lgZ,lgS]
        go_simp
        have hx:=bel_d0 z2 (.cells #[.bool false,.slice none 0 0,.slice none 0 0] 29)
        have RX3:=Rw.new 29 z2 #[.bool false,.slice none 0 0,.slice none 0 0]
        have hc3:=bel_tr hc2 hx
        have hRX:U.heap.size≤z2.heap.size:=hc2.size
        have GA3:=GA2.below hx
        have GB3:=GB2.below hx
        refine hK _ _ ⟨fun _=>HBX _ hc3,fun _=>trivial⟩ ?_
        clear hK K hx
        generalize z2.alloc (.cells #[.bool false,.slice none 0 0,.slice none 0 0] 29) = z3 at *
        refine wpAnyG.one 6 (by as_aux_lemma=>kernel_rfl) (by decide) (by rfl) (fun K hK=>?_)
        simp only [lgA,lgZ,lgS]
        go_simp
        refine (plusB z3 GA3.tr GB3.tr (GQ.tr.below hc3) ⟨by omega,by omega,by omega⟩ (by omega)).mono ?_
        rintro e z4 ⟨p9,a9,n9,c9,d9,m9,e9,rfl,GC4,hk⟩
        have hc4:=bel_tr hc3 hk
        have RX4:=RX3.below hk
        have GA4:=GA3.below hk
        have GB4:=GB3.below hk
        dsimp only
        refine hK _ _ ⟨fun _=>HBX _ hc4,fun _=>trivial⟩ ?_
        clear hK K hk
        refine wpAnyG.one 8 (by as_aux_lemma=>kernel_rfl) (by decide) (by rfl) (fun K hK=>?_)
        have y0:=(RX4.cell 0).trans (show _ = some (.bool false) from rfl)
        have y1:=(RX4.cell 1).trans (show _ = some (.slice none 0 0) from rfl)
        have y2:=(RX4.cell 2).trans (show _ = some (.slice none 0 0) from rfl)
        have y3:=RX4.frozen 0
        have y4:=RX4.frozen 1
        have y5:=RX4.frozen 2
        simp only [lgA,lgZ,lgS]
        go_simp
        obtain ⟨RN,O⟩:=RX4.set3 (.bool p9) (.slice a9 n9 c9) (.slice d9 m9 e9)
        have hd:=hc4.trans (O.below hRX)
        have GN:=(GC4.mono (Nat.zero_le _)).keep (RX4.noW (by decide)) O.grown
        refine hK _ _ ⟨fun h=>absurd h (by decide),fun _=>trivial⟩ ?_
        clear hK K y0 y1 y2 y3 y4 y5 O
        refine wpAnyG.done (by as_aux_lemma=>kernel_rfl) (NoPanic.normal ?_)
        exact ⟨rfl,_,_,_,_,_,_,_,z2.heap.size,_,_,_,_,_,_,_,rfl,RN,GN,hRX,hd⟩
      ·simp only [lgA,lgZ,lgS]
       go_simp
       have hx:=bel_d0 z1 (.cells #[.bool false,.slice none 0 0,.slice none 0 0] 29)
       have RX2:=Rw.new 29 z1 #[.bool false,.slice none 0 0,.slice none 0 0]
       have hc2:=bel_tr hc1 hx
       have hRX:U.heap.size≤z1.heap.size:=hc1.size
       have GA2:=GA1.below hx
       refine hK _ _ ⟨fun _=>HBX _ hc2,fun _=>trivial⟩ ?_
       clear hK K hx
       generalize z1.alloc (.cells #[.bool false,.slice none 0 0,.slice none 0 0] 29) = z2 at *
       refine wpAnyG.one 4 (by as_aux_lemma=>kernel_rfl) (by decide) (by rfl) (fun K hK=>?_)
       simp only [lgA,lgZ,lgS]
       go_simp
       refine (hRd z2 (bel_tr bU hc2)).mono ?_
       rintro e z3 ⟨p8,a8,n8,c8,d8,m8,e8,rfl,GB3,hk⟩
       have hc3:=bel_tr hc2 hk
       have RX3:=RX2.below hk
       have GA3:=GA2.below hk
       dsimp only
       refine hK _ _ ⟨fun _=>HBX _ hc3,fun _=>trivial⟩ ?_
       clear hK K hk
       refine wpAnyG.one 6 (by as_aux_lemma=>kernel_rfl) (by decide) (by rfl) (fun K hK=>?_)
       simp only [lgA,lgZ,lgS]
       go_simp
       refine (plusB z3 GA3.tr GB3.tr (GQ.tr.below hc3) ⟨by omega,by omega,by omega⟩ (by omega)).mono ?_
       rintro e z4 ⟨p9,a9,n9,c9,d9,m9,e9,rfl,GC4,hk⟩
       have hc4:=bel_tr hc3 hk
       have RX4:=RX3.below hk
       have GA4:=GA3.below hk
       have GB4:=GB3.below hk
       dsimp only
       refine hK _ _ ⟨fun _=>HBX _ hc4,fun _=>trivial⟩ ?_
       clear hK K hk
       refine wpAnyG.one 8 (by as_aux_lemma=>kernel_rfl) (by decide) (by rfl) (fun K hK=>?_)
       have y0:=(RX4.cell 0).trans (show _ = some (.bool false) from rfl)
       have y1:=(RX4.cell 1).trans (show _ = some (.slice none 0 0) from rfl)
       have y2:=(RX4.cell 2).trans (show _ = some (.slice none 0 0) from rfl)
       have y3:=RX4.frozen 0
       have y4:=RX4.frozen 1
       have y5:=RX4.frozen 2
       simp only [lgA,lgZ,lgS]
       go_simp
       obtain ⟨RN,O⟩:=RX4.set3 (.bool p9) (.slice a9 n9 c9) (.slice d9 m9 e9)
       have hd:=hc4.trans (O.below hRX)
       have GN:=(GC4.mono (Nat.zero_le _)).keep (RX4.noW (by decide)) O.grown
       refine hK _ _ ⟨fun h=>absurd h (by decide),fun _=>trivial⟩ ?_
       clear hK K y0 y1 y2 y3 y4 y5 O
       refine wpAnyG.done (by as_aux_lemma=>kernel_rfl) (NoPanic.normal ?_)
       exact ⟨rfl,_,_,_,_,_,_,_,z1.heap.size,_,_,_,_,_,_,_,rfl,RN,GN,hRX,hd⟩
     ·simp only [lgA,lgZ,lgS]
      go_simp
      have hx:=bel_d0 z0 (.cells #[.bool false,.slice none 0 0,.slice none 0 0] 29)
      have RX1:=Rw.new 29 z0 #[.bool false,.slice none 0 0,.slice none 0 0]
      have hc1:=bel_tr hc0 hx
      have hRX:U.heap.size≤z0.heap.size:=hc0.size
      refine hK _ _ ⟨fun _=>HBX _ hc1,fun _=>trivial⟩ ?_
      clear hK K hx
      generalize z0.alloc (.cells #[.bool false,.slice none 0 0,.slice none 0 0] 29) = z1 at *
      refine wpAnyG.one 1 (by as_aux_lemma=>kernel_rfl) (by decide) (by rfl) (fun K hK=>?_)
      simp only [lgA,lgZ,lgS]
      go_simp
      refine (hWora z1 (bel_tr bU hc1)).mono ?_
      rintro e z2 ⟨p7,a7,n7,c7,d7,m7,e7,rfl,GA2,hk⟩
      have hc2:=bel_tr hc1 hk
      have RX2:=RX1.below hk
      dsimp only
      refine hK _ _ ⟨fun _=>HBX _ hc2,fun _=>trivial⟩ ?_
      clear hK K hk
      refine wpAnyG.one 4 (by as_aux_lemma=>kernel_rfl) (by decide) (by rfl) (fun K hK=>?_)
      simp only [lgA,lgZ,lgS]
      go_simp
      refine (hRd z2 (bel_tr bU hc2)).mono ?_
      rintro e z3 ⟨p8,a8,n8,c8,d8,m8,e8,rfl,GB3,hk⟩
      have hc3:=bel_tr hc2 hk
      have RX3:=RX2.below hk
      have GA3:=GA2.below hk
      dsimp only
      refine hK _ _ ⟨fun _=>HBX _ hc3,fun _=>trivial⟩ ?_
      clear hK K hk
      refine wpAnyG.one 6 (by as_aux_lemma=>kernel_rfl) (by decide) (by rfl) (fun K hK=>?_)
      simp only [lgA,lgZ,lgS]
      go_simp
      refine (plusB z3 GA3.tr GB3.tr (GQ.tr.below hc3) ⟨by omega,by omega,by omega⟩ (by omega)).mono ?_
      rintro e z4 ⟨p9,a9,n9,c9,d9,m9,e9,rfl,GC4,hk⟩
      have hc4:=bel_tr hc3 hk
      have RX4:=RX3.below hk
      have GA4:=GA3.below hk
      have GB4:=GB3.below hk
      dsimp only
      refine hK _ _ ⟨fun _=>HBX _ hc4,fun _=>trivial⟩ ?_
      clear hK K hk
      refine wpAnyG.one 8 (by as_aux_lemma=>kernel_rfl) (by decide) (by rfl) (fun K hK=>?_)
      have y0:=(RX4.cell 0).trans (show _ = some (.bool false) from rfl)
      have y1:=(RX4.cell 1).trans (show _ = some (.slice none 0 0) from rfl)
      have y2:=(RX4.cell 2).trans (show _ = some (.slice none 0 0) from rfl)
      have y3:=RX4.frozen 0
      have y4:=RX4.frozen 1
      have y5:=RX4.frozen 2
      simp only [lgA,lgZ,lgS]
      go_simp
      obtain ⟨RN,O⟩:=RX4.set3 (.bool p9) (.slice a9 n9 c9) (.slice d9 m9 e9)
      have hd:=hc4.trans (O.below hRX)
      have GN:=(GC4.mono (Nat.zero_le _)).keep (RX4.noW (by decide)) O.grown
      refine hK _ _ ⟨fun h=>absurd h (by decide),fun _=>trivial⟩ ?_
      clear hK K y0 y1 y2 y3 y4 y5 O
      refine wpAnyG.done (by as_aux_lemma=>kernel_rfl) (NoPanic.normal ?_)
      exact ⟨rfl,_,_,_,_,_,_,_,z0.heap.size,_,_,_,_,_,_,_,rfl,RN,GN,hRX,hd⟩
    rintro a' wv ⟨u1,u2,u3,u4,u5,u6,u7,RW,p9,a9,n9,c9,d9,m9,e9,rfl,RW9,GW,hRW,hUv⟩
    simp only [Act.put,List.setIfInBounds_toArray,List.set_cons_zero,List.set_cons_succ]
    have bv:=bel_tr bU hUv
    have b3v:=bel_tr b9 hUv
    have hbv:=bel_tr hb2 bv
    have GV:Gam wv F f s X b lc K KC:=⟨G.bd.below bv,G.m,G.p,G.c⟩
    have hlf:=G.bd.lt
    have hFv:F≤wv.heap.size:=Nat.le_trans hF2 bv.size
    have hnw:¬ f.has RW:=fun h=>by have:=(hlf RW h).2;have:=bU.size;omega
    have hng:¬ f.has gl:=fun h=>by have:=(hlf gl h).2;omega
    have hnf:=GV.bd.noU
    have hpiv:=pivotB (q0:Int) (c:Int) wv GV.bd (GV.pz Z) ⟨hP1.1,by omega⟩ hNN (hT.below hbv) hTF hFv (E0.below hbv) (E1.below hbv) (E2.below hbv)
    rw [HR.out] at hpiv
    have KL2:Hid (∀ q,q < m→wv.cell? ⟨gl,q,none⟩ = some (.int .i64 (X q).bas)):=fun q hq=>KL.out wv q hq b3v
    clear HBX RQ9 GQ hUv b9 bU hRd KL
    go_wp2_with fail
    refine hpiv.mono ?_
    clear hpiv
    intro e wp hP
    obtain ⟨hs1,hs2,hs3,hs4,hs5⟩:=HS.out
    rcases hP with ⟨hc,_⟩ | ⟨_,_,hz,_⟩ | ⟨_,_,_,rfl,f',X',e1,e2,e3,e4,B2,K2,P⟩
    ·exfalso
     rcases hc with h | h
     ·unfold thr at h
      rw [HFM.out,decide_eq_true (show 0≤(q0:Int)∧(q0:Int) < (m:Int) by omega),Bool.true_and,Bool.not_eq_false',decide_eq_true_eq,Int.toNat_natCast] at h
      exact hs3 h
     ·exact h ⟨by omega,by rw [HFM.out];omega⟩
    ·exfalso
     rw [Int.toNat_natCast,Int.toNat_natCast] at hz
     rw [hz] at hs4
     exact absurd hs4 (by decide)
    ·have P0:PivR X X' m q0 c:=by
      rw [Int.toNat_natCast,Int.toNat_natCast,HFM.out] at P
      exact P
     have P':PivR X X' s.bn q0 c:=by rw [← HM.out];exact P0
     have hne:lat (X q0).l c ≠ 0:=fun e=>by rw [e] at hs4;exact absurd hs4 (by decide)
     have hbp:Below w.heap.size w wp:=hbv.trans ((K2.below (fun k hk=>(hlf k hk).1) hFv).mono (Nat.le_trans hb1.size hF1))
     have GP:Gam wp F f' s X' (fun q=>if q = q0 then c else b q) lc K KC:=⟨B2,e3.trans G.m,G.p.pivot P' (by rw [← HM.out];exact hs1) (by rw [← HM.out];exact hs2) hne,G.c⟩
     have RWp:=RW9.kf K2 hnw
     have G9:=GW.kf K2 hnf
     have KL3:Hid (∀ z q,q < m→Below wp.heap.size wp z→z.cell? ⟨gl,q,none⟩ = some (.int .i64 (X q).bas)):=fun z q hq hz=>kept_c hz (kf_cell K2 hng (KL2.out q hq))
     have hR':f'.b = R:=e1.trans HR.out
     have hM':f'.m = m:=e3.trans HFM.out
     have hNN':s.cn + f'.m≤3000000:=by rw [hM',← HFM.out];exact hNN
     have hTp:=hT.below hbp
     have HNP:Hid (∀ q,q < m→(X q).bas ≠ -1→0≤(X' q).r):=fun q hq hb=>piv_nn HQ2.out P0 hs1 hs3 hs4 hs5 hq hb
     have HWW:Hid (rsum (bco X' lc fun q=>(X' q).r) m = rsum (bco X lc fun q=>(X q).r) m + rdc X lc m (c:Int) * rr):=by
      show _ = _
      rw [piv_wor lc P0 hs1 hs3 hne,HRR.out]
     have hRigb:∀ z (i:Int),Below wp.heap.size wp z→Calls Tryz.prog 19 #[.pointer (some ⟨R,0,none⟩),.int .i64 i] z fun e w'=>NumP z (brt X' m i) K e w':=fun z i hz=>by
      have h:=rightB i z (GP.bd.below hz) ⟨hP1.1,by omega⟩ (hTp.below hz)
      rw [hM',hR'] at h
      exact h
     have hWorb:∀ z,Below wp.heap.size wp z→Calls Tryz.prog 23 #[.pointer (some ⟨R,0,none⟩)] z fun e w'=>NumP z (rsum (bco X' lc fun q=>(X' q).r) m) (K + KC + 1) e w':=fun z hz=>by
      have h:=worthB (T:=K + KC + 1) z (GP.bd.below hz) hP1.1 hP2.1 ⟨by omega,by omega⟩ (GP.wz Z) hNN' (hTp.below hz)
      rw [hM',hR'] at h
      exact h
     clear e1 e2 e3 e4 P P' P0 B2 K2 hne hs1 hs2 hs3 hs4 hs5 hlf hnf hng hnw GV GP RW9 GW KL2 hR' hM' hNN' b3v bv hbv HQ2 HRR HNE hRiga hWora hAt hCol hLv
     go_wp2
     go_loopw [19] (fun si wr=>∃ i:Nat,i≤m∧si = .int .i64 i∧Below wp.heap.size wp wr) (fun x _=>m - (intOf x).toNat)
     case atStart=>exact ⟨0,Nat.zero_le _,rfl,Below.refl _ _⟩
     case round =>
      obtain ⟨i,hi,rfl,hbw⟩:=hrel
      by_cases hlt:i < m
      ·have hiI:(i:Int) < (m:Int):=by omega
       have hi0:¬ (i:Int) < 0:=by omega
       have y0:=KL3.out wr i hlt hbw
       obtain ⟨bas,ebas⟩:∃ bas,bas = (X i).bas:=⟨_,rfl⟩
       rw [← ebas] at y0
       have HBS:Hid (bas = (X i).bas):=ebas
       have hbk:-1≤bas:=by rw [ebas];exact HBK.out i hlt
       clear ebas
       by_cases hbn:bas = -1
       ·have hb0:¬ 0≤bas:=by omega
        have hb1:bas < 0:=by omega
        have hd2:decide (0≤bas) = false:=decide_eq_false (by omega)
        clear hbn
        go_wp2
        go_roundw
        case rel=>first | exact ⟨i + 1,by omega,by go_num,hbw⟩ | ((repeat apply Exists.intro);refine ⟨?_,rfl⟩;exact ⟨i + 1,by omega,by go_num,hbw⟩)
        case measure=>simp [intOf];omega
       ·have hb0:0≤bas:=by omega
        have hb1:¬ bas < 0:=by omega
        have hd2:decide (0≤bas) = true:=decide_eq_true (by omega)
        go_wp2_with fail
        refine (hRigb _ (i:Int) hbw).mono ?_
        rintro e w5 ⟨p1,a1,n1,c1,d1,m1,e1,rfl,G1,h5⟩
        obtain ⟨sg,esg⟩:∃ sg:Int,sg = (brt X' m (i:Int)).num.sign:=⟨_,rfl⟩
        have HSG:Hid (sg = (brt X' m (i:Int)).num.sign):=esg
        clear esg
        go_wp2_with fail
        refine (signB sg w5 G1.tr (by omega) hP1.1 HSG.out).mono ?_
        rintro e w6 ⟨rfl,h6⟩
        have hbn2:=bel_tr hbw (bel_tr h5 h6)
        have hsg:¬ sg < 0:=by
         rw [HSG.out,brt_at hlt]
         exact sgn_nn.2 (HNP.out i hlt (by rw [← HBS.out];exact hbn))
        clear G1 h5 h6 y0 hbw
        go_wp2
        go_roundw
        case rel=>first | exact ⟨i + 1,by omega,by go_num,hbn2⟩ | ((repeat apply Exists.intro);refine ⟨?_,rfl⟩;exact ⟨i + 1,by omega,by go_num,hbn2⟩)
        case measure=>simp [intOf];omega
      ·have hiI:¬ (i:Int) < (m:Int):=by omega
       have HB30:∀ w',Below wr.heap.size wr w'→(w'.cell? ⟨RW,0,none⟩ = some (.bool p9)∧w'.cell? ⟨RW,1,none⟩ = some (.slice a9 n9 c9)∧w'.cell? ⟨RW,2,none⟩ = some (.slice d9 m9 e9)):=fun w' h=>⟨(((RWp.below hbw).below h).cell 0).trans rfl,(((RWp.below hbw).below h).cell 1).trans rfl,(((RWp.below hbw).below h).cell 2).trans rfl⟩
       go_wp2_with fail
       refine wp_region_noPanic (wp_region_guardB HB30 (by as_aux_lemma=>kernel_rfl) ?_)
       have hc0:Below wr.heap.size wr wr.drew:=bel_d1 _
       generalize wr.drew = z0 at *
       refine wpAnyG.tA 0 (v:=.pointer (some ⟨R,0,none⟩)) (by decide) 4 (by as_aux_lemma=>kernel_rfl) (by rfl) ?y0 (HB30 _ hc0) ?_
       case y0 =>
        rintro w' ⟨q0,q1,q2⟩
        simp only [lgA,lgZ]
        go_simp
       simp only [lgA,lgZ,Act.put,lsA,lsZ,lsS]
       refine wpAnyG.tA 2 (v:=.agg #[.bool p9,.slice a9 n9 c9,.slice d9 m9 e9]) (by decide) 4 (by as_aux_lemma=>kernel_rfl) (by rfl) ?y2 (HB30 _ hc0) ?_
       case y2 =>
        rintro w' ⟨q0,q1,q2⟩
        simp only [lgA,lgZ,lgS]
        go_simp
       simp only [lgA,lgZ,lgS,Act.put,lsA,lsZ,lsS]
       refine wpAnyG.one 1 (by as_aux_lemma=>kernel_rfl) (by decide) (by rfl) (fun K hK=>?_)
       simp only [lgA,lgZ,lgS]
       go_simp
       refine (hWorb z0 (bel_tr hbw hc0)).mono ?_
       rintro e z1 ⟨p7,a7,n7,c7,d7,m7,e7,rfl,G7,hk1⟩
       have hc1:Below wr.heap.size wr z1:=bel_tr hc0 hk1
       dsimp only
       refine hK _ _ (HB30 _ hc1) ?_
       clear hK K
       refine wpAnyG.one 3 (by as_aux_lemma=>kernel_rfl) (by decide) (by rfl) (fun K hK=>?_)
       simp only [lgA,lgZ,lgS]
       go_simp
       refine (sameL z1 G7 (G9.below (bel_tr hbw hc1)) HWW.out (by omega) (by omega) (by omega)).mono ?_
       rintro e z2 ⟨rfl,hk2⟩
       have hc2:Below wr.heap.size wr z2:=bel_tr hc1 hk2
       dsimp only
       refine hK _ _ (HB30 _ hc2) ?_
       clear hK K
       refine wpAnyG.one 4 (by as_aux_lemma=>kernel_rfl) (by decide) (by rfl) (fun K hK=>?_)
       simp only [lgA,lgZ,lgS]
       go_simp
       refine hK _ _ (HB30 _ hc2) ?_
       clear hK K
       refine wpAnyG.done (by as_aux_lemma=>kernel_rfl) (NoPanic.normal ?_)
       have hbf:=bel_tr hbp (bel_tr hbw hc2)
       clear HB30 G7 hc0 hc1 hc2 hk1 hk2 RWp G9 hbw
       go_wp2
       go_ret
       exact ⟨rfl,hbf⟩
theorem leaves_all {s:StD} {K KC:Nat} {sa:Option Addr} {sn sc:Nat} {O:Nat→OpD} {ev0 ev1 ev2:Value} (j:Int) (w:World) (hs:StQ w s K) (hz:∃ z,StZ s z∧stK s z≤K) (hN:s.cn + s.bn≤K) (hO:OpL w sa sn O KC) (hOk:∀ i,i < sn→(O i).cn≤(O i).cc∧(O i).cn≤KC∧∀ N k,k≤(O i).cn→CsZ (lco (O i).Y k) N KC) (hsn:sn≤KC) (hK:1≤K∧1≤KC∧K + KC≤1048600) (hT:TB w) (E0:Errs w 0 ev0) (E1:Errs w 1 ev1) (E2:Errs w 2 ev2) :
  Calls Tryz.prog 5 #[.agg #[.slice s.aa s.an s.ac,.slice s.ba s.bn s.bc,.slice s.ca s.cn s.cc,.bool s.zp,.slice s.za s.zn s.zc,.slice s.zd s.zm s.ze],.slice sa sn sc,.int .i64 j] w fun e w'=>e = .returned (.bool true)∧Below w.heap.size w w' :=
 leaves_walk j w (fun w' hb=>awake11 w' (hT.below hb) (E0.below hb) (E1.below hb) (E2.below hb)) hs ⟨hz,⟨hK.1,by omega⟩,⟨hK.2.1,by omega⟩,by omega⟩ hK.2.2 hO (fun i hi=>⟨(hOk i hi).1,by have:=(hOk i hi).2.1;omega,fun k hk=>(hOk i hi).2.2 _ k hk⟩) (by omega) hT E0 E1 E2
end Go.Proofs.YtiohbjnflpnfbaaGreatDoor

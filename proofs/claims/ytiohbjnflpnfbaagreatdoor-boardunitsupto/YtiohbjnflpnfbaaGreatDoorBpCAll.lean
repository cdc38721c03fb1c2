import Derived.Test.YtiohbjnflpnfbaaGreatDoorBpB
import Derived.Test.YtiohbjnflpnfbaaGreatDoorQAll
import Derived.Test.YtiohbjnflpnfbaaGreatDoorGuardK
namespace Go.Proofs.YtiohbjnflpnfbaaGreatDoor
open Go.RowKit
set_option maxRecDepth 100000 in
set_option maxHeartbeats 8000000 in
theorem isB {p:Bool} {a:Option Addr} {na ca:Nat} {d:Option Addr} {nd cd:Nat} {r:Rat} {B S:Nat} (v:Int) (w:World) (G:GR w B p a na ca d nd cd r S) (hr:r = (v:Rat)) (hv:-9223372036854775808≤v∧v < 9223372036854775808) (hS:S≤100000000):Calls Tryz.prog 9 #[.agg #[.bool p,.slice a na ca,.slice d nd cd],.int .i64 v] w fun e w'=>e = .returned (.bool true)∧Below w.heap.size w w':=by
 have BX:=box_new w #[.bool p,.slice a na ca,.slice d nd cd] 29
 have hb0:=bel_d0 w (.cells #[.bool p,.slice a na ca,.slice d nd cd] 29)
 have G0:=G.below hb0
 go_enter Tryz.func9,Tryz.ntmps9
 go_wp2_with fail
 generalize w.alloc (.cells #[.bool p,.slice a na ca,.slice d nd cd] 29) = W0 at *
 have HBX:∀ w',Below W0.heap.size W0 w'→(w'.cell? ⟨w.heap.size,0,none⟩ = some (.bool p)∧w'.cell? ⟨w.heap.size,1,none⟩ = some (.slice a na ca)∧w'.cell? ⟨w.heap.size,2,none⟩ = some (.slice d nd cd)):=fun w' h=>⟨kept_c h (BX 0 _ rfl),kept_c h (BX 1 _ rfl),kept_c h (BX 2 _ rfl)⟩
 refine wp_region_noPanic (wp_region_guardB HBX (by as_aux_lemma=>kernel_rfl) ?_)
 have hc0:Below W0.heap.size W0 W0.drew:=bel_d1 _
 generalize W0.drew = z0 at *
 refine wpAnyG.tA 0 (v:=.agg #[.bool p,.slice a na ca,.slice d nd cd]) (by decide) 4 (by as_aux_lemma=>kernel_rfl) (by rfl) ?y0 (HBX _ hc0) ?_
 case y0 =>
  rintro w' ⟨q0,q1,q2⟩
  simp only [lgA,lgZ]
  go_simp
 simp only [lgA,lgZ,Act.put,lsA,lsZ,lsS]
 refine wpAnyG.tA 1 (v:=.int .i64 v) (by decide) 4 (by as_aux_lemma=>kernel_rfl) (by rfl) ?y1 (HBX _ hc0) ?_
 case y1 =>
  rintro w' ⟨q0,q1,q2⟩
  simp only [lgA,lgZ,lgS]
  go_simp
 simp only [lgA,lgZ,lgS,Act.put,lsA,lsZ,lsS]
 refine wpAnyG.one 2 (by as_aux_lemma=>kernel_rfl) (by decide) (by rfl) (fun K hK=>?_)
 simp only [lgA,lgZ,lgS]
 go_simp
 refine (ofD v z0 hv.1 hv.2).mono ?_
 rintro e z1 ⟨f2,c2,n2,k2,d2,m2,l2,rfl,G2,hk1⟩
 have hc1:Below W0.heap.size W0 z1:=bel_tr hc0 hk1
 have G1:=(G0.below hc1).val hr
 dsimp only
 refine hK _ _ (HBX _ hc1) ?_
 clear hK K
 refine wpAnyG.one 3 (by as_aux_lemma=>kernel_rfl) (by decide) (by rfl) (fun K hK=>?_)
 simp only [lgA,lgZ,lgS]
 go_simp
 refine (refSameP z1 G1.1 G1.2 G2.1 G2.2 hS).mono ?_
 rintro e z2 ⟨rfl,hk2⟩
 have hc2:Below W0.heap.size W0 z2:=bel_tr hc1 hk2
 dsimp only
 refine hK _ _ (HBX _ hc2) ?_
 clear hK K
 refine wpAnyG.one 4 (by as_aux_lemma=>kernel_rfl) (by decide) (by rfl) (fun K hK=>?_)
 simp only [lgA,lgZ,lgS]
 go_simp
 refine hK _ _ (HBX _ hc2) ?_
 clear hK K
 refine wpAnyG.done (by as_aux_lemma=>kernel_rfl) (NoPanic.normal ?_)
 have hbn:=bel_tr hb0 hc2
 clear HBX BX G0 G1 G2 hc0 hc1 hc2 hk1 hk2
 go_wp2
 go_ret
 exact ⟨rfl,hbn⟩
set_option maxRecDepth 100000 in
set_option maxHeartbeats 8000000 in
theorem units_walk {s:StD} {K KC:Nat} {sa:Option Addr} {sn sc:Nat} {O:Nat→OpD} {ev0 ev1 ev2:Value} (w:World) (hAw:∀ w',Below w.heap.size w w'→Calls Tryz.prog 6 #[] w' fun e w''=>e = .returned (.bool true)∧Below w'.heap.size w' w'') (hs:StQ w s K) (Z:GmZ s K KC) (hO:OpL w sa sn O KC) (hOk:∀ i,i < sn→(O i).cn≤(O i).cc∧(O i).cn≤3000000∧∀ k,k≤(O i).cn→CsZ (lco (O i).Y k) (s.cn + s.bn) KC) (hsn:sn≤100000000) (hT:TB w) (E0:Errs w 0 ev0) (E1:Errs w 1 ev1) (E2:Errs w 2 ev2) :
  Calls Tryz.prog 3 #[.agg #[.slice s.aa s.an s.ac,.slice s.ba s.bn s.bc,.slice s.ca s.cn s.cc,.bool s.zp,.slice s.za s.zn s.zc,.slice s.zd s.zm s.ze],.slice sa sn sc] w fun e w'=>e = .returned (.bool true)∧Below w.heap.size w w':=by
 have BX:=box_new w #[.slice s.aa s.an s.ac,.slice s.ba s.bn s.bc,.slice s.ca s.cn s.cc,.bool s.zp,.slice s.za s.zn s.zc,.slice s.zd s.zm s.ze] 31
 have hb0:=bel_d0 w (.cells #[.slice s.aa s.an s.ac,.slice s.ba s.bn s.bc,.slice s.ca s.cn s.cc,.bool s.zp,.slice s.za s.zn s.zc,.slice s.zd s.zm s.ze] 31)
 go_enter Tryz.func3,Tryz.ntmps3
 go_wp2_with fail
 generalize w.alloc (.cells #[.slice s.aa s.an s.ac,.slice s.ba s.bn s.bc,.slice s.ca s.cn s.cc,.bool s.zp,.slice s.za s.zn s.zc,.slice s.zd s.zm s.ze] 31) = W0 at *
 refine (hAw W0 hb0).mono ?_
 rintro e w1 ⟨rfl,h1⟩
 have hb1:=bel_tr hb0 h1
 replace BX:=BX.below h1
 have x0:=BX 0 _ rfl
 have x1:=BX 1 _ rfl
 have x2:=BX 2 _ rfl
 have x3:=BX 3 _ rfl
 have x4:=BX 4 _ rfl
 have x5:=BX 5 _ rfl
 go_wp2_with fail
 clear x0 x1 x2 x3 x4 x5
 refine (playedB w1 (hs.below hb1) Z (hO.below hb1) hOk hsn (hT.below hb1) (E0.below hb1) (E1.below hb1) (E2.below hb1)).mono ?_
 rintro e w2 ⟨F,f,X,b,lc,rfl,hF1,hF2,G,h2⟩
 have hb2:=bel_tr hb1 h2
 replace BX:=BX.below h2
 have hNN:s.cn + f.m≤3000000:=by rw [G.m];exact Z.n
 obtain ⟨m,em⟩:∃ m,m = s.bn:=⟨_,rfl⟩
 have HM:Hid (m = s.bn):=em
 have hfm:f.m = m:=by rw [em];exact G.m
 have HFM:Hid (f.m = m):=hfm
 have hcall:=basisL w2 G.bd hNN
 rw [hfm] at hcall
 clear em
 go_wp2_with fail
 refine hcall.mono ?_
 rintro e w3 ⟨g,rfl,hg,RI,h3⟩
 have hb3:=bel_tr hb2 h3
 have x1:=(BX.below h3) 1 _ rfl
 have hmI:((m:Int) != (s.bn:Int)) = false:=by rw [HM.out];simp
 have hmN:m≤3000000:=by have:=HFM.out;omega
 have G3:Gam w3 F f s X b lc K KC:=⟨G.bd.below h3,G.m,G.p,G.c⟩
 clear hcall BX h1 h2 h3 hfm
 go_wp2
 go_loopw [8] (fun sq wr=>∃ i:Nat,i≤m∧sq = .int .i64 i∧Below w3.heap.size w3 wr) (fun x _=>m - (intOf x).toNat)
 case atStart=>exact ⟨0,Nat.zero_le _,rfl,Below.refl _ _⟩
 case round =>
  clear x1
  obtain ⟨i,hi,rfl,hbw⟩:=hrel
  by_cases hlt:i < m
  ·have hiI:(i:Int) < (m:Int):=by omega
   have hi0:¬ (i:Int) < 0:=by omega
   obtain ⟨bas,ebas⟩:∃ bas,bas = (X i).bas:=⟨_,rfl⟩
   have y0:=kept_c hbw (RI.cell hlt)
   rw [← ebas] at y0
   have HBS:Hid (bas = (X i).bas):=ebas
   have his:i < s.bn:=by rw [← HM.out];exact hlt
   have hgi:=G.p.g i his
   rw [← ebas] at hgi
   clear ebas
   by_cases hbn:bas = -1
   ·subst hbn
    go_wp2
    go_roundw
    case rel=>first | exact ⟨i + 1,by omega,by go_num,hbw⟩ | ((repeat apply Exists.intro);refine ⟨?_,rfl⟩;exact ⟨i + 1,by omega,by go_num,hbw⟩)
    case measure=>simp [intOf];omega
   ·have hbi:bas = (b i:Int):=hgi.resolve_left hbn
    obtain ⟨bi,ebi⟩:∃ bi,bi = b i:=⟨_,rfl⟩
    rw [← ebi] at hbi
    subst hbi
    have HBI:Hid (bi = b i):=ebi
    have hbN:bi < s.cn + f.m:=by rw [ebi,G.m];exact G.p.l i his
    have hred:rdc X lc f.m (bi:Int) = ((0:Int):Rat):=by
     rw [HBS.out,G.m]
     exact G.p.reduced lc his (by rw [← HBS.out];exact hbn)
    have HRD:Hid (rdc X lc f.m (bi:Int) = ((0:Int):Rat)):=hred
    have GQ:Gam wr F f s X b lc K KC:=⟨G3.bd.below hbw,G.m,G.p,G.c⟩
    have hbU:=bel_tr hb3 hbw
    clear ebi hbn hgi hred
    go_wp2_with fail
    refine (reducedB (T:=K + KC + 1) (bi:Int) wr GQ.bd Z.k.1 Z.kc.1 ⟨by omega,Z.kc.2⟩ (GQ.rz Z bi hbN) hNN (hT.below hbU)).mono ?_
    rintro e w4 ⟨g5,v5,i5,j5,o5,t5,x5,rfl,G5,h4⟩
    go_wp2_with fail
    refine (isB 0 w4 G5 HRD.out (by decide) (by have:=Z.kc.2;omega)).mono ?_
    rintro e w5 ⟨rfl,h5⟩
    have hb5:=bel_tr hbw (bel_tr h4 h5)
    clear G5 h4 h5 GQ hbU y0
    go_wp2
    go_loopw [10] (fun sr wr=>∃ q:Nat,q≤m∧sr = .int .i64 q∧Below w3.heap.size w3 wr) (fun x _=>m - (intOf x).toNat)
    case atStart=>exact ⟨0,Nat.zero_le _,rfl,hb5⟩
    case round =>
     clear hb5
     obtain ⟨q,hq,rfl,hbq⟩:=hrel
     by_cases hlq:q < m
     ·have hqI:(q:Int) < (m:Int):=by omega
      have y1:=kept_c hbq (RI.cell hlt)
      rw [← HBS.out] at y1
      have hqs:q < s.bn:=by rw [← HM.out];exact hlq
      have GQ:Gam wr F f s X b lc K KC:=⟨G3.bd.below hbq,G.m,G.p,G.c⟩
      have hbU:=bel_tr hb3 hbq
      have hu:bat X f.m (q:Int) (bi:Int) = if q = i then 1 else 0:=by
       unfold bat
       rw [if_pos ⟨by omega,by rw [G.m];omega⟩,Int.toNat_natCast,latI_nat,HBI.out]
       exact G.p.unit his hqs
      by_cases hqi:q = i
      ·subst hqi
       rw [if_pos rfl] at hu
       have HU:Hid (bat X f.m (q:Int) (bi:Int) = ((1:Int):Rat)):=hu
       clear hu
       go_wp2_with fail
       refine (atBB (q:Int) (bi:Int) wr GQ.bd hNN ⟨Z.k.1,by have:=Z.k.2;omega⟩ (hT.below hbU)).mono ?_
       rintro e w4 ⟨g5,v5,i5,j5,o5,t5,x5,rfl,G5,h4⟩
       go_wp2_with fail
       refine (isB 1 w4 G5 HU.out (by decide) (by have:=Z.k.2;omega)).mono ?_
       rintro e w5 ⟨rfl,h5⟩
       have hb5:=bel_tr hbq (bel_tr h4 h5)
       clear G5 h4 h5 GQ hbU y1 hbq
       go_wp2
       go_roundw
       case rel=>first | exact ⟨q + 1,by omega,by go_num,hb5⟩ | ((repeat apply Exists.intro);refine ⟨?_,rfl⟩;exact ⟨q + 1,by omega,by go_num,hb5⟩)
       case measure=>simp [intOf];omega
      ·rw [if_neg hqi] at hu
       have HU:Hid (bat X f.m (q:Int) (bi:Int) = ((0:Int):Rat)):=hu
       have hqiI:¬ (q:Int) = (i:Int):=by omega
       have hqiE:((q:Int) == (i:Int)) = false:=by simpa using hqiI
       clear hu
       go_wp2_with fail
       refine (atBB (q:Int) (bi:Int) wr GQ.bd hNN ⟨Z.k.1,by have:=Z.k.2;omega⟩ (hT.below hbU)).mono ?_
       rintro e w4 ⟨g5,v5,i5,j5,o5,t5,x5,rfl,G5,h4⟩
       go_wp2_with fail
       refine (isB 0 w4 G5 HU.out (by decide) (by have:=Z.k.2;omega)).mono ?_
       rintro e w5 ⟨rfl,h5⟩
       have hb5:=bel_tr hbq (bel_tr h4 h5)
       clear G5 h4 h5 GQ hbU y1 hbq
       go_wp2
       go_roundw
       case rel=>first | exact ⟨q + 1,by omega,by go_num,hb5⟩ | ((repeat apply Exists.intro);refine ⟨?_,rfl⟩;exact ⟨q + 1,by omega,by go_num,hb5⟩)
       case measure=>simp [intOf];omega
     ·have hqI:¬ (q:Int) < (m:Int):=by omega
      go_wp2
      go_roundw
      case rel=>first | exact ⟨i + 1,by omega,by go_num,hbq⟩ | ((repeat apply Exists.intro);refine ⟨?_,rfl⟩;exact ⟨i + 1,by omega,by go_num,hbq⟩)
      case measure=>simp [intOf];omega
  ·have hiI:¬ (i:Int) < (m:Int):=by omega
   have hbn:=bel_tr hb3 hbw
   go_wp2
   go_ret
   exact ⟨rfl,hbn⟩
def bmu (X:Nat→RoD) (lc:List (Nat × Rat)) (n m i:Nat):Rat:=dsg (X i).tu (latI lc ((n + i:Nat):Int) - rdc X lc m ((n + i:Nat):Int))
set_option maxRecDepth 100000 in
set_option maxHeartbeats 8000000 in
theorem multB {F:Nat} {f:Bf} {n:Nat} {X:Nat→RoD} {lc:List (Nat × Rat)} {S Sc:Nat} {T:Nat} (i:Nat) (w:World) (h:BD w F f n X lc S Sc) (hi:i < f.m) (hS:1≤S) (hSc:1≤Sc) (hTT:1≤T∧T + (Sc + S)≤6000000) (hz:RdZ X lc f.m T ((n + i:Nat):Int)) (hz2:SzR (latI lc ((n + i:Nat):Int) - rdc X lc f.m ((n + i:Nat):Int)) T) (hN:n + f.m≤3000000) (hT:TB w) :
  Calls Tryz.prog 31 #[.pointer (some ⟨f.b,0,none⟩),.int .i64 (i:Nat)] w fun e w'=>NumP w (bmu X lc n f.m i) T e w':=by
 obtain ⟨art,eart⟩:∃ art,art = n + i:=⟨_,rfl⟩
 have HART:Hid (art = n + i):=eart
 rw [← eart] at hz hz2
 have hartI:(n:Int) + (i:Int) = (art:Int):=by omega
 have hartw:IntKind.i64.wrap (art:Int) = (art:Int):=wrap_id art (by omega)
 have HZ:Hid (RdZ X lc f.m T (art:Int)):=hz
 have HZ2:Hid (SzR (latI lc (art:Int) - rdc X lc f.m (art:Int)) T):=hz2
 have R0:=var3_new w (.bool false) (.slice none 0 0) (.slice none 0 0) 29
 have hb0:=bel_d0 w (.cells #[.bool false,.slice none 0 0,.slice none 0 0] 29)
 have hs0:(w.alloc (.cells #[.bool false,.slice none 0 0,.slice none 0 0] 29)).heap.size = w.heap.size + 1:=by simp
 have B0:=h.below hb0
 obtain ⟨rg,rc,p,a,na,ca,d,nd,cd,erv,_,_,_,_,_,y5,_⟩:=B0.get hi
 obtain ⟨m,em⟩:∃ m,m = f.m:=⟨_,rfl⟩
 have x0:=(B0.rw.cell 0).trans (show _ = some (.int .i64 (n:Nat)) from rfl)
 have x1:=(B0.rw.cell 1).trans (show _ = some f.rv from rfl)
 rw [erv,← em] at x1
 have hiI:(i:Int) < (m:Int):=by omega
 have hi0:¬ (i:Int) < 0:=by omega
 have hi6:(i:Int) * 6 = ((i * 6:Nat):Int):=by omega
 have hd:decide (0≤(i:Int)∧(i:Int) < (f.m:Int)) = true:=decide_eq_true (by omega)
 have hkc:=h.kc
 have hlenc:=hkc.1.len _ hkc.2
 obtain ⟨ua,uc,ecv,_⟩:=h.c.form
 obtain ⟨um,eum⟩:∃ um,um = lc.length:=⟨_,rfl⟩
 rw [← eum] at ecv hlenc
 have LC:=B0.c
 rw [ecv] at LC
 have x2:=(B0.rw.cell 2).trans (show _ = some f.cv from rfl)
 rw [ecv] at x2
 obtain ⟨tu,etu⟩:∃ tu,tu = (X i).tu:=⟨_,rfl⟩
 rw [← etu] at y5
 have HTU:Hid (tu = (X i).tu):=etu
 have HUM:Hid (um = lc.length):=eum
 clear hz hz2 eart em erv ecv eum etu
 go_enter Tryz.func31,Tryz.ntmps31
 go_wp2_with fail
 generalize w.alloc (.cells #[.bool false,.slice none 0 0,.slice none 0 0] 29) = W0 at *
 refine (isRowB (i:Int) W0 B0).mono ?_
 rintro e w1 ⟨rfl,rfl⟩
 rw [hd]
 clear hd
 go_wp2_with fail
 refine (atB (art:Int) w1 LC hkc.1 (by rw [← HUM.out];omega)).mono ?_
 rintro e w2 ⟨kp,ka,kn,kc,kd,km,ke,rfl,ZK,h2⟩
 go_wp2_with fail
 refine (reducedB (T:=T) (art:Int) w2 (B0.below h2) hS hSc hTT HZ.out hN ((hT.below hb0).below h2)).mono ?_
 rintro e w3 ⟨g5,v5,i5,j5,o5,t5,x5,rfl,G5,h3⟩
 have hb3:=bel_tr hb0 (bel_tr h2 h3)
 go_wp2_with fail
 refine (subQ w3 ((ZK.below h3).tr) G5.tr (by omega) hSc hTT.1 (hT.below hb3)).mono ?_
 rintro e w4 ⟨g6,v6,i6,j6,o6,t6,x6,rfl,G6,h4⟩
 have hb4:=bel_tr hb3 h4
 have h24:=bel_tr (bel_tr h2 h3) h4
 have hz4:=bel_d0 w4 (.cells #[.bool g6,.slice v6 i6 j6,.slice o6 t6 x6] 29)
 have QB:=box_new w4 #[.bool g6,.slice v6 i6 j6,.slice o6 t6 x6] 29
 have hs4:(w4.alloc (.cells #[.bool g6,.slice v6 i6 j6,.slice o6 t6 x6] 29)).heap.size = w4.heap.size + 1:=by simp
 have h3s:=(bel_tr h2 h3).size
 have GQ:=(G6.fit HZ2.out).below hz4
 have h25:=bel_tr h24 hz4
 have z1:=kept_c h25 x1
 have z5:=kept_c h25 y5
 have R5:=R0.below h25
 have hb5:=bel_tr hb4 hz4
 have q0:=QB 0 _ rfl
 have q1:=QB 1 _ rfl
 have q2:=QB 2 _ rfl
 have h4s:=h4.size
 clear ZK G5 G6 h2 h3 h4 hb3 hb4 h24 h25 hz4 QB R0 x0 x1 x2 y5 LC B0
 cases tu with
 | true =>
  go_wp2_with fail
  generalize w4.alloc (.cells #[.bool g6,.slice v6 i6 j6,.slice o6 t6 x6] 29) = W4 at *
  refine (negQ W4 GQ.tr (by omega) hTT.1 (hT.below hb5)).mono ?_
  rintro e w5 ⟨f7,c7,n7,k7,d7,m7,l7,rfl,G7,h5⟩
  have R6:=R5.below h5
  obtain ⟨r0,r1,r2,r3,r4,r5⟩:=id R6
  obtain ⟨V,O⟩:=R6.set (.bool f7) (.slice c7 n7 k7) (.slice d7 m7 l7)
  have h5s:=h5.size
  have GN:=(G7.off O (by omega)).mono (B':=w.heap.size) (by omega)
  have hw:=(bel_tr hb5 h5).trans (O.below (by omega))
  have HP:NumP w (bmu X lc n f.m i) T (.returned (.agg #[.bool f7,.slice c7 n7 k7,.slice d7 m7 l7])) _:=⟨_,_,_,_,_,_,_,rfl,GN.val (by unfold bmu dsg;rw [← HTU.out,← HART.out,if_pos rfl]),hw⟩
  clear GN hw O R5 R6 G7 GQ h5 hb5 z1 z5 q0 q1 q2
  go_wp2
  exact bodyPost_ret (v:=.agg #[.bool f7,.slice c7 n7 k7,.slice d7 m7 l7]) (by simp [results,Tryz.results31,go_sem,V.c0,V.c1,V.c2]) rfl HP
 | false =>
  obtain ⟨r0,r1,r2,r3,r4,r5⟩:=id R5
  obtain ⟨V,O⟩:=R5.set (.bool g6) (.slice v6 i6 j6) (.slice o6 t6 x6)
  have GN:=(GQ.off O (by omega)).mono (B':=w.heap.size) (by omega)
  have hw:=hb5.trans (O.below (by omega))
  have HP:NumP w (bmu X lc n f.m i) T (.returned (.agg #[.bool g6,.slice v6 i6 j6,.slice o6 t6 x6])) _:=⟨_,_,_,_,_,_,_,rfl,GN.val (by unfold bmu dsg;rw [← HTU.out,← HART.out,if_neg (by decide)]),hw⟩
  clear GN hw O R5 GQ hb5
  go_wp2
  exact bodyPost_ret (v:=.agg #[.bool g6,.slice v6 i6 j6,.slice o6 t6 x6]) (by simp [results,Tryz.results31,go_sem,V.c0,V.c1,V.c2]) rfl HP
def nfl:List Bool→Nat
 | []=>0
 | b :: l=>(if b then 0 else 1) + nfl l
theorem nfl_set:∀ (l:List Bool) (i:Nat),l[i]? = some false→nfl (l.set i true) + 1 = nfl l
 | [],i,h=>by simp at h
 | b :: l,0,h=>by
  simp at h
  subst h
  show (if true then 0 else 1) + nfl l + 1 = (if false then 0 else 1) + nfl l
  simp
  omega
 | b :: l,i + 1,h=>by
  have:=nfl_set l i (by simpa using h)
  show (if b then 0 else 1) + nfl (l.set i true) + 1 = (if b then 0 else 1) + nfl l
  omega
theorem nfl_pos:∀ (l:List Bool) (i:Nat),l[i]? = some false→0 < nfl l:=fun l i h=>by
 have:=nfl_set l i h
 omega
theorem getD_false {L:Array Bool} {i:Nat} (h:L.getD i true = false):L.toList[i]? = some false:=by
 by_cases hi:i < L.size
 ·rw [Array.getElem?_toList,Array.getElem?_eq_getElem hi]
  simp only [Array.getD,hi,dif_pos] at h
  exact congrArg some h
 ·simp only [Array.getD,hi,dif_neg,not_false_eq_true] at h
  cases h
theorem wpAny.inv {P:Program} {md:Region.Mode} {ops:Array Oper} {Q:Exit→Act→World→Prop} (I:Array Bool→Act→World→Prop) (hs:∀ L a w i,I L a w→i ∈ Region.ready md ops L→wpOp P ops Q i (fun a' w'=>I (L.setIfInBounds i true) a' w') a w) (he:∀ L a w,I L a w→Region.ready md ops L = []→Q .normal a w):∀ f L a w,nfl L.toList≤f→I L a w→wpAny P md ops Q f L a w:=by
 intro f
 induction f with
 | zero =>
  intro L a w hf hI
  have hr:Region.ready md ops L = []:=by
   cases h:Region.ready md ops L with
   | nil=>rfl
   | cons i l =>
    have hm:i ∈ Region.ready md ops L:=by rw [h];simp
    have:=nfl_pos _ _ (getD_false (mem_ready.1 hm).1)
    omega
  exact ⟨hr,he L a w hI hr⟩
 | succ f ih =>
  intro L a w hf hI
  refine ⟨he L a w hI,fun i hi=>?_⟩
  refine wpOp_mono ?_ (hs L a w i hI hi)
  intro a' w' h
  refine ih _ a' w' ?_ h
  have h1:=nfl_set _ _ (getD_false (mem_ready.1 hi).1)
  rw [Array.toList_setIfInBounds]
  omega
theorem ready_nil {md:Region.Mode} {ops:Array Oper} {L:Array Bool} (hsz:L.size = ops.size) (hd:∀ k o,ops[k]? = some o→∀ e ∈ o.after,Region.binds md e = true→e.on < k) (h:Region.ready md ops L = []):∀ k,k < ops.size→L.getD k false = true:=by
 intro k
 induction k using Nat.strongRecOn with
 | ind k ih =>
  intro hk
  cases hL:L.getD k false with
  | true=>rfl
  | false =>
   exfalso
   have hkL:k < L.size:=by omega
   have hL2:L.getD k true = false:=by
    simp only [Array.getD,hkL,dif_pos] at hL ⊢
    exact hL
   have ho:ops[k]? = some ops[k]:=Array.getElem?_eq_getElem hk
   have hm:k ∈ Region.ready md ops L:=mem_ready.2 ⟨hL2,ops[k],ho,fun e he hb=>by
    have h1:=hd k _ ho e he hb
    exact ih e.on h1 (by omega)⟩
   rw [h] at hm
   cases hm
theorem set_came {L:Array Bool} {i k:Nat} (h:(L.setIfInBounds i true).getD k false = true):k = i∨L.getD k false = true:=by
 by_cases e:k = i
 ·exact .inl e
 ·refine .inr ?_
  by_cases hk:k < L.size
  ·simp only [Array.getD,Array.size_setIfInBounds,hk,dif_pos,Array.getInternal_eq_getElem] at h ⊢
   rw [Array.getElem_setIfInBounds_ne hk (Ne.symm e)] at h
   exact h
  ·simp only [Array.getD,Array.size_setIfInBounds,hk,dif_neg,not_false_eq_true] at h
   cases h
end Go.Proofs.YtiohbjnflpnfbaaGreatDoor

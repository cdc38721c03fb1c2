import Derived.Test.YtiohbjnflpnfbaaGreatDoorBpL
import Derived.Test.YtiohbjnflpnfbaaGreatDoorBpH0All
namespace Go.Proofs.YtiohbjnflpnfbaaGreatDoor
open Go.RowKit
theorem eqS11 (w:World) (a:Addr):(binOp .eql 49 (.iface 161 (.pointer (some a))) (.iface 161 (.pointer (some a)))).run Tryz.prog w = .ok (.bool true) w:=by
 obtain ⟨i,hi,hcmp⟩:=Option.map_eq_some_iff.1 (show (Tryz.prog.info? 161).map (·.comparable) = some true by kernel_rfl)
 obtain ⟨j,hj,hsz⟩:=Option.map_eq_some_iff.1 (show (Tryz.prog.info? 178).map (·.size) = some 1 by kernel_rfl)
 exact run_eql_iface_ptr_same (P:=Tryz.prog) w a Tryz.underlying49 Tryz.underlying161 hi hcmp hj
def IsP (w:World) (r:Rat) (v:Int) (e:Ending) (w':World):Prop:=∃ t:Bool,e = .returned (.bool t)∧(r = (v:Rat)→t = true)∧Below w.heap.size w w'
theorem isA {p:Bool} {a:Option Addr} {na ca:Nat} {d:Option Addr} {nd cd:Nat} {r:Rat} {B S:Nat} (v:Int) (w:World) (G:GR w B p a na ca d nd cd r S) (hv:-9223372036854775808≤v∧v < 9223372036854775808) (hS:S≤100000000):Calls Tryz.prog 9 #[.agg #[.bool p,.slice a na ca,.slice d nd cd],.int .i64 v] w fun e w'=>IsP w r v e w':=by
 by_cases h:r = (v:Rat)
 ·exact (isB v w G h hv hS).mono fun e w' ⟨h1,h2⟩=>⟨true,h1,fun _=>rfl,h2⟩
 ·exact (isN v w G h hv hS).mono fun e w' ⟨h1,h2⟩=>⟨false,h1,fun h'=>absurd h' h,h2⟩
set_option maxRecDepth 100000 in
set_option maxHeartbeats 8000000 in
theorem back_walk {s:StD} {K KC:Nat} {sa:Option Addr} {sn sc:Nat} {O:Nat→OpD} {ev0 ev1 ev2:Value} (i j:Int) (w:World) (hAw:∀ w',Below w.heap.size w w'→Calls Tryz.prog 6 #[] w' fun e w''=>e = .returned (.bool true)∧Below w'.heap.size w' w'') (hs:StQ w s K) (Z:GmZ s K KC) (hO:OpL w sa sn O KC) (hOk:∀ i,i < sn→(O i).cn≤(O i).cc∧(O i).cn≤3000000∧∀ k,k≤(O i).cn→CsZ (lco (O i).Y k) (s.cn + s.bn) KC) (hsn:sn≤100000000) (hT:TB w) (E0:Errs w 0 ev0) (E1:Errs w 1 ev1) (E2:Errs w 2 ev2) :
  Calls Tryz.prog 4 #[.agg #[.slice s.aa s.an s.ac,.slice s.ba s.bn s.bc,.slice s.ca s.cn s.cc,.bool s.zp,.slice s.za s.zn s.zc,.slice s.zd s.zm s.ze],.slice sa sn sc,.int .i64 i,.int .i64 j] w fun e w'=>e = .returned (.bool true)∧Below w.heap.size w w':=by
 have BX:=box_new w #[.slice s.aa s.an s.ac,.slice s.ba s.bn s.bc,.slice s.ca s.cn s.cc,.bool s.zp,.slice s.za s.zn s.zc,.slice s.zd s.zm s.ze] 31
 have hb0:=bel_d0 w (.cells #[.slice s.aa s.an s.ac,.slice s.ba s.bn s.bc,.slice s.ca s.cn s.cc,.bool s.zp,.slice s.za s.zn s.zc,.slice s.zd s.zm s.ze] 31)
 go_enter Tryz.func4,Tryz.ntmps4
 go_wp2_with fail
 generalize w.alloc (.cells #[.slice s.aa s.an s.ac,.slice s.ba s.bn s.bc,.slice s.ca s.cn s.cc,.bool s.zp,.slice s.za s.zn s.zc,.slice s.zd s.zm s.ze] 31) = W0 at *
 refine (hAw W0 hb0).mono ?_
 clear hAw
 rintro e w1 ⟨rfl,h1⟩
 have hb1:=bel_tr hb0 h1
 replace BX:=BX.below h1
 have x0:=BX 0 _ rfl
 have x1:=BX 1 _ rfl
 have x2:=BX 2 _ rfl
 have x3:=BX 3 _ rfl
 have x4:=BX 4 _ rfl
 have x5:=BX 5 _ rfl
 go_wp2_with fail
 clear x0 x1 x2 x3 x4 x5 BX
 refine (playedB w1 (hs.below hb1) Z (hO.below hb1) hOk hsn (hT.below hb1) (E0.below hb1) (E1.below hb1) (E2.below hb1)).mono ?_
 rintro e w2 ⟨F,f,X,b,lc,rfl,hF1,hF2,G,h2⟩
 have hb2:=bel_tr hb1 h2
 obtain ⟨m,em⟩:∃ m,m = s.bn:=⟨_,rfl⟩
 have HM:Hid (m = s.bn):=em
 have hfm:f.m = m:=by rw [em];exact G.m
 have HFM:Hid (f.m = m):=hfm
 have hNN:s.cn + f.m≤3000000:=by rw [G.m];exact Z.n
 have hTF:4 < F:=Nat.lt_of_lt_of_le (hT.below hb1).2 hF1
 obtain ⟨NN,eNN⟩:∃ NN,NN = s.cn + m:=⟨_,rfl⟩
 have HNN:Hid (NN = s.cn + m):=eNN
 obtain ⟨R,eR⟩:∃ R,R = f.b:=⟨_,rfl⟩
 have HR:Hid (f.b = R):=eR.symm
 have hcl:=cloneB w2 G.bd hNN
 rw [hfm,← eR] at hcl
 rw [← eR]
 have hmN:m≤3000000:=by omega
 clear em hfm eNN eR h1 h2 hb0 hO hOk hs
 go_wp2_with fail
 refine hcl.mono ?_
 clear hcl
 rintro e w3 ⟨fc,rfl,hfc,BC,h3⟩
 have hb3:=bel_tr hb2 h3
 obtain ⟨RC,eRC⟩:∃ RC,RC = fc.b:=⟨_,rfl⟩
 have HRC:Hid (fc.b = RC):=eRC.symm
 have HFC:Hid (fc.m = m):=hfc
 rw [← eRC]
 clear eRC hfc
 have hdj:∀ k,fc.has k→¬ f.has k:=fun k h1 h2=>by have:=(BC.lt k h1).1;have:=(G.bd.lt k h2).2;omega
 have G3:Gam w3 F f s X b lc K KC:=⟨G.bd.below h3,G.m,G.p,G.c⟩
 have hF3:F≤w3.heap.size:=Nat.le_trans hF2 h3.size
 have hRow:=rowsB w3 G3.bd
 rw [HFM.out,HR.out] at hRow
 have hCol:=colsB w3 G3.bd hNN
 rw [HFM.out,HR.out,← HNN.out] at hCol
 have hP1:=Z.k
 have hP2:=Z.kc
 clear G
 go_wp2_with fail
 refine hRow.mono ?_
 clear hRow
 rintro e z ⟨rfl,ez⟩;subst z
 go_wp2_with fail
 refine hCol.mono ?_
 clear hCol
 rintro e w4 ⟨rfl,h4⟩
 go_wp2_with fail
 refine (placesB _ _ w4).mono ?_
 rintro e w5 ⟨x,y,rfl,h5⟩
 have h45:=bel_tr h4 h5
 have G5:Gam w5 F f s X b lc K KC:=⟨G3.bd.below h45,G3.m,G3.p,G3.c⟩
 have BC5:=BC.below h45
 have hb6:=bel_tr hb3 h45
 have hF5:F≤w5.heap.size:=Nat.le_trans hF3 h45.size
 have hpiv:=pivotB x y w5 G5.bd (G5.pz Z) ⟨hP1.1,by omega⟩ hNN (hT.below hb6) hTF hF5 (E0.below hb6) (E1.below hb6) (E2.below hb6)
 rw [HR.out] at hpiv
 clear h4 h5 h45 G3 BC hb3 h3
 go_wp2_with fail
 refine hpiv.mono ?_
 clear hpiv
 intro e w7 hP
 have HBK:Hid (∀ q,q < m→-1≤(X q).bas):=fun q hq=>(BC5.k q (by rw [HFC.out];exact hq)).2.2.1
 obtain ⟨pe,epe⟩:=E0.2
 obtain ⟨pf,epf⟩:=E1.2
 subst epe epf
 rcases hP with ⟨hc,rfl,h7⟩ | ⟨ht,hj,h0,rfl,h7⟩ | ⟨ht,hj,h0,rfl,f',X',e1,e2,e3,e4,B2,K2,P⟩
 ·-- no such row or column
  have hb7:=bel_tr hb6 h7
  have BC7:=BC5.below h7
  have G7:Gam w7 F f s X b lc K KC:=⟨G5.bd.below h7,G5.m,G5.p,G5.c⟩
  have hAtc:∀ z (i j:Int),Below w7.heap.size w7 z→Calls Tryz.prog 11 #[.pointer (some ⟨RC,0,none⟩),.int .i64 i,.int .i64 j] z fun e w'=>NumP z (bat X m i j) K e w':=fun z i j hz=>by
   have h:=atBB i j z (BC7.below hz) (by rw [HFC.out,← HFM.out];exact hNN) (by omega) ((hT.below hb7).below hz)
   rw [HFC.out,HRC.out] at h
   exact h
  have hAl:∀ z,Below w7.heap.size w7 z→Calls Tryz.prog 17 #[.pointer (some ⟨R,0,none⟩),.pointer (some ⟨RC,0,none⟩)] z fun e w'=>e = .returned (.bool true)∧Below z.heap.size z w':=fun z hz =>
   alikeB (T:=K + KC + 1) z (G7.bd.below hz) (BC7.below hz) HR.out HRC.out HFM.out HFC.out (SmR.of fun _ _=>rfl) (fun k hk=>G7.wz Z k (by rw [HFM.out];exact hk)) ⟨hP1.1,by omega⟩ hP2.1 ⟨by omega,by omega,by omega⟩ (by rw [← HFM.out];exact hNN) ((hT.below hb7).below hz)
  have hcb:Calls Tryz.prog 8 #[.pointer (some ⟨RC,0,none⟩)] w7 fun e w'=>BasP w7 X m e w':=by
   have h:=basisL w7 BC7 (by rw [HFC.out,← HFM.out];exact hNN)
   rw [HFC.out,HRC.out] at h
   exact h
  have hcc:∀ z,Below w7.heap.size w7 z→Calls Tryz.prog 15 #[.pointer (some ⟨RC,0,none⟩)] z fun e w'=>e = .returned (.int .i64 (NN:Nat))∧Below z.heap.size z w':=fun z hz=>by
   have h:=colsB z (BC7.below hz) (by rw [HFC.out,← HFM.out];exact hNN)
   rw [HFC.out,HRC.out,← HNN.out] at h
   exact h
  go_wp2_with fail
  refine hcb.mono ?_
  rintro e w8 ⟨gl,rfl,_,RI,h8⟩
  have KL:∀ z q,q < m→Below w8.heap.size w8 z→z.cell? ⟨gl,q,none⟩ = some (.int .i64 (X q).bas):=fun z q hq hz=>kept_c hz (RI.cell hq)
  clear RI BC7 G7 BC5 G5
  rw [HFM.out] at hc
  have HC:Hid ((thr X m x = false∨¬ (0≤y∧y < ((s.cn + m:Nat):Int)))):=hc
  clear hc
  by_cases hx0:x < 0
  ·have bv:=h8
   go_wp2_with fail
   refine (hAtc _ x y bv).mono ?_
   rintro e w10 ⟨p3,a3,n3,c3,d3,m3,e3,rfl,G3,h10⟩
   have b10:=bel_tr bv h10
   go_wp2_with fail
   refine (isA 0 w10 G3 (by decide) (by omega)).mono ?_
   rintro e w11 ⟨t,rfl,ht0,h11⟩
   have b11:=bel_tr b10 h11
   clear G3 h10 h11 b10 bv
   go_wp2_with fail
   refine (hAl _ b11).mono ?_
   rintro e w12 ⟨rfl,h12⟩
   have b12:=bel_tr b11 h12
   have hbn:=bel_tr hb7 b12
   have g0:=(E0.below (bel_tr (bel_tr hb6 h7) b12)).1
   have q0:=eqS11 w12 pe
   clear h12 b11 b12 hAl hAtc hcb
   go_wp2
   go_ret
   exact ⟨rfl,hbn⟩
  by_cases hxm:(m:Int)≤x
  ·have bv:=h8
   go_wp2_with fail
   refine (hAtc _ x y bv).mono ?_
   rintro e w10 ⟨p3,a3,n3,c3,d3,m3,e3,rfl,G3,h10⟩
   have b10:=bel_tr bv h10
   go_wp2_with fail
   refine (isA 0 w10 G3 (by decide) (by omega)).mono ?_
   rintro e w11 ⟨t,rfl,ht0,h11⟩
   have b11:=bel_tr b10 h11
   clear G3 h10 h11 b10 bv
   go_wp2_with fail
   refine (hAl _ b11).mono ?_
   rintro e w12 ⟨rfl,h12⟩
   have b12:=bel_tr b11 h12
   have hbn:=bel_tr hb7 b12
   have g0:=(E0.below (bel_tr (bel_tr hb6 h7) b12)).1
   have q0:=eqS11 w12 pe
   clear h12 b11 b12 hAl hAtc hcb
   go_wp2
   go_ret
   exact ⟨rfl,hbn⟩
  by_cases hy0:y < 0
  ·have bv:=h8
   go_wp2_with fail
   refine (hAtc _ x y bv).mono ?_
   rintro e w10 ⟨p3,a3,n3,c3,d3,m3,e3,rfl,G3,h10⟩
   have b10:=bel_tr bv h10
   go_wp2_with fail
   refine (isA 0 w10 G3 (by decide) (by omega)).mono ?_
   rintro e w11 ⟨t,rfl,ht0,h11⟩
   have b11:=bel_tr b10 h11
   clear G3 h10 h11 b10 bv
   go_wp2_with fail
   refine (hAl _ b11).mono ?_
   rintro e w12 ⟨rfl,h12⟩
   have b12:=bel_tr b11 h12
   have hbn:=bel_tr hb7 b12
   have g0:=(E0.below (bel_tr (bel_tr hb6 h7) b12)).1
   have q0:=eqS11 w12 pe
   clear h12 b11 b12 hAl hAtc hcb
   go_wp2
   go_ret
   exact ⟨rfl,hbn⟩
  by_cases hyN:(NN:Int)≤y
  ·go_wp2_with fail
   refine (hcc _ h8).mono ?_
   rintro e w9 ⟨rfl,h9⟩
   have bv:=bel_tr h8 h9
   clear h9
   go_wp2_with fail
   refine (hAtc _ x y bv).mono ?_
   rintro e w10 ⟨p3,a3,n3,c3,d3,m3,e3,rfl,G3,h10⟩
   have b10:=bel_tr bv h10
   go_wp2_with fail
   refine (isA 0 w10 G3 (by decide) (by omega)).mono ?_
   rintro e w11 ⟨t,rfl,ht0,h11⟩
   have b11:=bel_tr b10 h11
   clear G3 h10 h11 b10 bv
   go_wp2_with fail
   refine (hAl _ b11).mono ?_
   rintro e w12 ⟨rfl,h12⟩
   have b12:=bel_tr b11 h12
   have hbn:=bel_tr hb7 b12
   have g0:=(E0.below (bel_tr (bel_tr hb6 h7) b12)).1
   have q0:=eqS11 w12 pe
   clear h12 b11 b12 hAl hAtc hcb
   go_wp2
   go_ret
   exact ⟨rfl,hbn⟩
  ·obtain ⟨xn,rfl⟩:∃ xn:Nat,x = (xn:Int):=⟨x.toNat,by omega⟩
   have hxl:xn < m:=by omega
   have hbas:(X xn).bas = -1:=by
    rcases HC.out with h | h
    ·unfold thr at h
     rw [decide_eq_true (show 0≤(xn:Int)∧(xn:Int) < (m:Int) by omega),Bool.true_and,Bool.not_eq_false',decide_eq_true_eq,Int.toNat_natCast] at h
     exact h
    ·exact absurd ⟨by omega,by have:=HNN.out;omega⟩ h
   go_wp2_with fail
   refine (hcc _ h8).mono ?_
   rintro e w9 ⟨rfl,h9⟩
   have bv:=bel_tr h8 h9
   have y0:=KL w9 xn hxl h9
   rw [hbas] at y0
   have hxI:(xn:Int) < (m:Int):=by omega
   clear h9 hbas
   go_wp2_with fail
   refine (hAtc _ (xn:Int) y bv).mono ?_
   rintro e w10 ⟨p3,a3,n3,c3,d3,m3,e3,rfl,G3,h10⟩
   have b10:=bel_tr bv h10
   go_wp2_with fail
   refine (isA 0 w10 G3 (by decide) (by omega)).mono ?_
   rintro e w11 ⟨t,rfl,ht0,h11⟩
   have b11:=bel_tr b10 h11
   clear G3 h10 h11 b10 bv
   go_wp2_with fail
   refine (hAl _ b11).mono ?_
   rintro e w12 ⟨rfl,h12⟩
   have b12:=bel_tr b11 h12
   have hbn:=bel_tr hb7 b12
   have g0:=(E0.below (bel_tr (bel_tr hb6 h7) b12)).1
   have q0:=eqS11 w12 pe
   clear h12 b11 b12 hAl hAtc hcb
   go_wp2
   go_ret
   exact ⟨rfl,hbn⟩
 ·-- nothing but nought there
  have hb7:=bel_tr hb6 h7
  have BC7:=BC5.below h7
  have G7:Gam w7 F f s X b lc K KC:=⟨G5.bd.below h7,G5.m,G5.p,G5.c⟩
  have hAtc:∀ z (i j:Int),Below w7.heap.size w7 z→Calls Tryz.prog 11 #[.pointer (some ⟨RC,0,none⟩),.int .i64 i,.int .i64 j] z fun e w'=>NumP z (bat X m i j) K e w':=fun z i j hz=>by
   have h:=atBB i j z (BC7.below hz) (by rw [HFC.out,← HFM.out];exact hNN) (by omega) ((hT.below hb7).below hz)
   rw [HFC.out,HRC.out] at h
   exact h
  have hAl:∀ z,Below w7.heap.size w7 z→Calls Tryz.prog 17 #[.pointer (some ⟨R,0,none⟩),.pointer (some ⟨RC,0,none⟩)] z fun e w'=>e = .returned (.bool true)∧Below z.heap.size z w':=fun z hz =>
   alikeB (T:=K + KC + 1) z (G7.bd.below hz) (BC7.below hz) HR.out HRC.out HFM.out HFC.out (SmR.of fun _ _=>rfl) (fun k hk=>G7.wz Z k (by rw [HFM.out];exact hk)) ⟨hP1.1,by omega⟩ hP2.1 ⟨by omega,by omega,by omega⟩ (by rw [← HFM.out];exact hNN) ((hT.below hb7).below hz)
  have hcb:Calls Tryz.prog 8 #[.pointer (some ⟨RC,0,none⟩)] w7 fun e w'=>BasP w7 X m e w':=by
   have h:=basisL w7 BC7 (by rw [HFC.out,← HFM.out];exact hNN)
   rw [HFC.out,HRC.out] at h
   exact h
  have hcc:∀ z,Below w7.heap.size w7 z→Calls Tryz.prog 15 #[.pointer (some ⟨RC,0,none⟩)] z fun e w'=>e = .returned (.int .i64 (NN:Nat))∧Below z.heap.size z w':=fun z hz=>by
   have h:=colsB z (BC7.below hz) (by rw [HFC.out,← HFM.out];exact hNN)
   rw [HFC.out,HRC.out,← HNN.out] at h
   exact h
  go_wp2_with fail
  refine hcb.mono ?_
  rintro e w8 ⟨gl,rfl,_,RI,h8⟩
  have KL:∀ z q,q < m→Below w8.heap.size w8 z→z.cell? ⟨gl,q,none⟩ = some (.int .i64 (X q).bas):=fun z q hq hz=>kept_c hz (RI.cell hq)
  clear RI BC7 G7 BC5 G5
  have hx:0≤x∧x < (m:Int):=by
   rw [HFM.out] at ht
   unfold thr at ht
   rw [Bool.and_eq_true,decide_eq_true_eq] at ht
   exact ht.1
  obtain ⟨xn,rfl⟩:∃ xn:Nat,x = (xn:Int):=⟨x.toNat,by omega⟩
  have hxl:xn < m:=by omega
  have hbas:¬ (X xn).bas < 0:=by
   rw [HFM.out] at ht
   unfold thr at ht
   rw [Bool.and_eq_true,Bool.not_eq_true',decide_eq_false_iff_not,Int.toNat_natCast] at ht
   have:=(HBK.out xn hxl)
   omega
  have hj':0≤y∧y < (NN:Int):=by have:=HNN.out;have:=HFM.out;omega
  have HZ:Hid (bat X m (xn:Int) y = ((0:Int):Rat)):=by
   show bat X m (xn:Int) y = ((0:Int):Rat)
   unfold bat
   rw [if_pos (by omega),Int.toNat_natCast]
   rw [Int.toNat_natCast] at h0
   unfold latI
   rw [if_pos hj'.1,h0]
   rfl
  have hx0:¬ (xn:Int) < 0:=by omega
  have hxm:¬ (m:Int)≤(xn:Int):=by omega
  have hy0:¬ y < 0:=by omega
  have hyN:¬ (NN:Int)≤y:=by omega
  have hxI:(xn:Int) < (m:Int):=by omega
  clear ht hj h0 hj' hx
  go_wp2_with fail
  refine (hcc _ h8).mono ?_
  rintro e w9 ⟨rfl,h9⟩
  have bv:=bel_tr h8 h9
  have y0:=KL w9 xn hxl h9
  clear h9
  obtain ⟨bas,ebas⟩:∃ bas,bas = (X xn).bas:=⟨_,rfl⟩
  rw [← ebas] at y0 hbas
  clear ebas
  go_wp2_with fail
  refine (hAtc _ (xn:Int) y bv).mono ?_
  rintro e w10 ⟨p3,a3,n3,c3,d3,m3,e3,rfl,G3,h10⟩
  have b10:=bel_tr bv h10
  go_wp2_with fail
  refine (isB 0 w10 G3 HZ.out (by decide) (by omega)).mono ?_
  rintro e w11 ⟨rfl,h11⟩
  have b11:=bel_tr b10 h11
  clear G3 h10 h11 b10 bv
  go_wp2_with fail
  refine (hAl _ b11).mono ?_
  rintro e w12 ⟨rfl,h12⟩
  have b12:=bel_tr b11 h12
  have hbn:=bel_tr hb7 b12
  have g1:=(E1.below (bel_tr (bel_tr hb6 h7) b12)).1
  have q0:=eqS11 w12 pf
  clear h12 b11 b12 hAl hAtc hcb
  go_wp2
  go_ret
  have hv:(!decide ((xn:Int) < 0) && !decide (m≤xn) && !decide (y < 0) && !decide ((NN:Int)≤y) && !decide (bas < 0)) = true:=by
   rw [decide_eq_false (show ¬ (xn:Int) < 0 by omega),decide_eq_false (show ¬ m≤xn by omega),decide_eq_false (show ¬ y < 0 by omega),decide_eq_false (show ¬ (NN:Int)≤y by omega),decide_eq_false (show ¬ bas < 0 by omega)]
   rfl
  exact ⟨congrArg (fun t=>Ending.returned (Value.bool t)) hv,hbn⟩
 ·-- there and back
  have hx:0≤x∧x < (m:Int):=by
   rw [HFM.out] at ht
   unfold thr at ht
   rw [Bool.and_eq_true,decide_eq_true_eq] at ht
   exact ht.1
  obtain ⟨xn,rfl⟩:∃ xn:Nat,x = (xn:Int):=⟨x.toNat,by omega⟩
  have hxl:xn < m:=by omega
  have hbn:(X xn).bas ≠ -1:=by
   rw [HFM.out] at ht
   unfold thr at ht
   rw [Bool.and_eq_true,Bool.not_eq_true',decide_eq_false_iff_not,Int.toNat_natCast] at ht
   exact ht.2
  obtain ⟨yn,rfl⟩:∃ yn:Nat,y = (yn:Int):=⟨y.toNat,by omega⟩
  have hyl:yn < s.cn + s.bn:=by have:=HFM.out;have:=HM.out;omega
  have hxs:xn < s.bn:=by rw [← HM.out];exact hxl
  rw [Int.toNat_natCast,Int.toNat_natCast] at h0
  have P':PivR X X' s.bn xn yn:=by
   rw [Int.toNat_natCast,Int.toNat_natCast] at P
   rw [← HM.out,← HFM.out]
   exact P
  have hbI:(X xn).bas = (b xn:Int):=(G5.p.g xn hxs).resolve_left hbn
  have hlf:=G5.bd.lt
  have hnf:=G5.bd.noU
  have hinv:lat (X' xn).l (b xn) ≠ 0:=by
   rw [G5.p.inv hxs P']
   intro h
   exact h0 (by rw [← Rat.inv_inv (lat (X xn).l yn),h,Rat.inv_zero])
  have G7:Gam w7 F f' s X' (fun q=>if q = xn then yn else b q) lc K KC:=⟨B2,e3.trans G5.m,G5.p.pivot P' hxs hyl h0,G5.c⟩
  have hb7:Below w.heap.size w w7:=hb6.trans ((K2.below (fun k hk=>(hlf k hk).1) hF5).mono (Nat.le_trans hb1.size hF1))
  have BC7:=BC5.kf K2 hnf hdj
  have hdj7:∀ k,fc.has k→¬ f'.has k:=fun k h1 h2=>by
   rcases K2.sub k h2 with h | h
   ·exact hdj k h1 h
   ·have:=(BC5.lt k h1).2
    omega
  have hF7:F≤w7.heap.size:=Nat.le_trans hF5 K2.size
  have hPly:=G5.p
  have hBk:=G5.bd.k
  have hR':f'.b = R:=e1.trans HR.out
  have hM':f'.m = m:=e3.trans HFM.out
  have hNN':s.cn + f'.m≤3000000:=by rw [hM',← HFM.out];exact hNN
  have hcb:Calls Tryz.prog 8 #[.pointer (some ⟨RC,0,none⟩)] w7 fun e w'=>BasP w7 X m e w':=by
   have h:=basisL w7 BC7 (by rw [HFC.out,← HFM.out];exact hNN)
   rw [HFC.out,HRC.out] at h
   exact h
  have HH:Hid (f'.b = R∧f'.m = m∧(X xn).bas = (b xn:Int)∧lat (X' xn).l (b xn) ≠ 0∧lat (X xn).l yn ≠ 0):=⟨hR',hM',hbI,hinv,h0⟩
  have HBN:Hid ((X xn).bas ≠ -1):=hbn
  clear e1 e2 e3 e4 ht hj P B2 hlf hnf hbn hR' hM' hbI hinv h0 K2
  go_wp2_with fail
  refine hcb.mono ?_
  clear hcb
  rintro e w8 ⟨gl,rfl,_,RI,h8⟩
  have y0:=RI.cell hxl
  rw [HH.out.2.2.1] at y0
  obtain ⟨bx,ebx⟩:∃ bx,bx = b xn:=⟨_,rfl⟩
  rw [← ebx] at y0
  have HBX:Hid (bx = b xn):=ebx
  have hb8:=bel_tr hb7 h8
  have G8:Gam w8 F f' s X' (fun q=>if q = xn then yn else b q) lc K KC:=⟨G7.bd.below h8,G7.m,G7.p,G7.c⟩
  have BC8:=BC7.below h8
  have hF8:F≤w8.heap.size:=Nat.le_trans hF7 h8.size
  have hpiv:=pivotB (xn:Int) (bx:Int) w8 G8.bd (G8.pz Z) ⟨hP1.1,by omega⟩ hNN' (hT.below hb8) hTF hF8 (E0.below hb8) (E1.below hb8) (E2.below hb8)
  rw [HH.out.1] at hpiv
  have hxI:¬ (m:Int)≤(xn:Int):=by omega
  have hxL:(xn:Int) < (m:Int):=by omega
  have hx0:¬ (xn:Int) < 0:=by omega
  have hbx0:¬ (bx:Int) < 0:=by omega
  clear ebx RI h8 G7 BC7 G5 BC5 hb7
  go_wp2_with fail
  refine hpiv.mono ?_
  clear hpiv
  intro e w9 hP
  have hbxN:bx < s.cn + s.bn:=by rw [HBX.out];exact hPly.l xn hxs
  have hbas':(X' xn).bas ≠ -1:=by rw [P'.bi];omega
  rcases hP with ⟨hc,_⟩ | ⟨_,_,hz,_⟩ | ⟨_,_,_,rfl,f2,X2,e1,e2,e3,e4,B3,K3,P2⟩
  ·exfalso
   rcases hc with h | h
   ·unfold thr at h
    rw [HH.out.2.1,decide_eq_true (show 0≤(xn:Int)∧(xn:Int) < (m:Int) by omega),Bool.true_and,Bool.not_eq_false',decide_eq_true_eq,Int.toNat_natCast] at h
    exact hbas' h
   ·exact h ⟨by omega,by rw [HH.out.2.1,HM.out];omega⟩
  ·exfalso
   rw [Int.toNat_natCast,Int.toNat_natCast,HBX.out] at hz
   exact HH.out.2.2.2.1 hz
  ·have P2':PivR X' X2 s.bn xn (b xn):=by
    rw [Int.toNat_natCast,Int.toNat_natCast,HH.out.2.1,HM.out,HBX.out] at P2
    exact P2
   have SM:SmR X2 X s.bn:=hPly.back hxs HBN.out HH.out.2.2.2.2 P' P2'
   have hb9:Below w.heap.size w w9:=hb8.trans ((K3.below (fun k hk=>(G8.bd.lt k hk).1) hF8).mono (Nat.le_trans hb1.size hF1))
   have BC9:=BC8.kf K3 G8.bd.noU hdj7
   have G9:Gam w9 F f2 s X2 (fun q=>if q = xn then b xn else if q = xn then yn else b q) lc K KC:=⟨B3,e3.trans G8.m,G8.p.pivot P2' hxs (by rw [← HBX.out];exact hbxN) HH.out.2.2.2.1,G8.c⟩
   have hAl:Calls Tryz.prog 17 #[.pointer (some ⟨R,0,none⟩),.pointer (some ⟨RC,0,none⟩)] w9 fun e w'=>e = .returned (.bool true)∧Below w9.heap.size w9 w' :=
    alikeB (T:=K + KC + 1) w9 G9.bd BC9 (e1.trans HH.out.1) HRC.out (e3.trans HH.out.2.1) HFC.out (by rw [HM.out];exact SM) (fun k hk=>G9.wz Z k (by rw [e3.trans HH.out.2.1];exact hk)) ⟨hP1.1,by omega⟩ hP2.1 ⟨by omega,by omega,by omega⟩ (by rw [← HFM.out];exact hNN) (hT.below hb9)
   clear G9 BC9 G8 BC8 K3 P2 P2' SM B3 e1 e2 e3 e4 y0 hb8 hbas' hPly hBk hdj hdj7 P' HH HBN
   go_wp2_with fail
   refine hAl.mono ?_
   clear hAl
   rintro e w10 ⟨rfl,h10⟩
   have hbn:=bel_tr hb9 h10
   clear h10 hb9
   go_wp2
   go_ret
   exact ⟨rfl,hbn⟩
theorem back_all {s:StD} {K KC:Nat} {sa:Option Addr} {sn sc:Nat} {O:Nat→OpD} {ev0 ev1 ev2:Value} (i j:Int) (w:World) (hs:StQ w s K) (hz:∃ z,StZ s z∧stK s z≤K) (hN:s.cn + s.bn≤K) (hO:OpL w sa sn O KC) (hOk:∀ i,i < sn→(O i).cn≤(O i).cc∧(O i).cn≤KC∧∀ N k,k≤(O i).cn→CsZ (lco (O i).Y k) N KC) (hsn:sn≤KC) (hK:1≤K∧1≤KC∧K + KC≤1048600) (hT:TB w) (E0:Errs w 0 ev0) (E1:Errs w 1 ev1) (E2:Errs w 2 ev2) :
  Calls Tryz.prog 4 #[.agg #[.slice s.aa s.an s.ac,.slice s.ba s.bn s.bc,.slice s.ca s.cn s.cc,.bool s.zp,.slice s.za s.zn s.zc,.slice s.zd s.zm s.ze],.slice sa sn sc,.int .i64 i,.int .i64 j] w fun e w'=>e = .returned (.bool true)∧Below w.heap.size w w' :=
 back_walk i j w (fun w' hb=>awake11 w' (hT.below hb) (E0.below hb) (E1.below hb) (E2.below hb)) hs ⟨hz,⟨hK.1,by omega⟩,⟨hK.2.1,by omega⟩,by omega⟩ hO (fun i hi=>⟨(hOk i hi).1,by have:=(hOk i hi).2.1;omega,fun k hk=>(hOk i hi).2.2 _ k hk⟩) (by omega) hT E0 E1 E2
end Go.Proofs.YtiohbjnflpnfbaaGreatDoor

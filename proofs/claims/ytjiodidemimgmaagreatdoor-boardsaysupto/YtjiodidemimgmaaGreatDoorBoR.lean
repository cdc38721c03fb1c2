import Derived.Test.YtjiodidemimgmaaGreatDoorBoQ
namespace Go.Proofs.YtjiodidemimgmaaGreatDoor
open Go.RowKit
theorem fe_red:FnE 45:=fun _ _=>by kernel_rfl
theorem fe_wor:FnE 46:=fun _ _=>by kernel_rfl
set_option maxRecDepth 100000 in
set_option maxHeartbeats 8000000 in
theorem red1F {F:Nat} {f:Bf} {n:Nat} {X:Nat→RoD} {lc:List (Nat × Rat)} {S Sc:Nat} {jb:Nat} (j:Int) (w:World) (h:BD w F f n X lc S Sc) (hN:n + f.m≤3000000) (hj:w.cell? ⟨jb,0,none⟩ = some (.int .i64 j)):RowFn w f X S 45 #[.pointer (some ⟨jb,0,none⟩)] (fun q=>latI (X q).l j):=by
 intro q hq p0 a0 n0 c0 d0 m0 e0 _
 have LK:=h.t q hq
 have hkk:=h.k q hq
 have hlen:=hkk.1.len _ hkk.2.1
 obtain ⟨va,vc,eva,_⟩:=LK.form
 obtain ⟨vn,evn⟩:∃ vn,vn = (X q).l.length:=⟨_,rfl⟩
 rw [← evn] at eva hlen
 rw [eva] at LK
 obtain ⟨kp,ka,kn,kc,kd,km,ke,ZK,HAT⟩:=atF j w LK hkk.1 (by rw [← evn];omega)
 refine ⟨kp,ka,kn,kc,kd,km,ke,ZK,fun w' hw=>?_⟩
 show Calls Tryz.prog 45 (#[.agg #[f.V q,.bool p0,.slice a0 n0 c0,.slice d0 m0 e0,.int .i64 (X q).bas,.bool (X q).tu]] ++ #[.pointer (some ⟨jb,0,none⟩)]) w' _
 rw [eva]
 have BX:=box_new w' #[.slice va vn vc,.bool p0,.slice a0 n0 c0,.slice d0 m0 e0,.int .i64 (X q).bas,.bool (X q).tu] 67
 have hb1:=bel_d0 w' (.cells #[.slice va vn vc,.bool p0,.slice a0 n0 c0,.slice d0 m0 e0,.int .i64 (X q).bas,.bool (X q).tu] 67)
 have hs1:(w'.alloc (.cells #[.slice va vn vc,.bool p0,.slice a0 n0 c0,.slice d0 m0 e0,.int .i64 (X q).bas,.bool (X q).tu] 67)).heap.size = w'.heap.size + 1:=by simp
 have R0:=var3_new (w'.alloc (.cells #[.slice va vn vc,.bool p0,.slice a0 n0 c0,.slice d0 m0 e0,.int .i64 (X q).bas,.bool (X q).tu] 67)) (.bool false) (.slice none 0 0) (.slice none 0 0) 29
 rw [hs1] at R0
 have hb2:=bel_d0 (w'.alloc (.cells #[.slice va vn vc,.bool p0,.slice a0 n0 c0,.slice d0 m0 e0,.int .i64 (X q).bas,.bool (X q).tu] 67)) (.cells #[.bool false,.slice none 0 0,.slice none 0 0] 29)
 have x0:=kept_c hb2 (BX 0 _ rfl)
 have hb:=bel_tr hb1 hb2
 have xj:=kept_c (bel_tr hw hb) hj
 have HA:=HAT _ (bel_tr hw hb)
 show Calls Tryz.prog 45 #[.agg #[.slice va vn vc,.bool p0,.slice a0 n0 c0,.slice d0 m0 e0,.int .i64 (X q).bas,.bool (X q).tu],.pointer (some ⟨jb,0,none⟩)] w' _
 clear LK ZK HAT hkk hlen evn eva hb1 hb2 BX
 go_enter Tryz.func45,Tryz.ntmps45
 go_wp2_with fail
 generalize (w'.alloc (.cells #[.slice va vn vc,.bool p0,.slice a0 n0 c0,.slice d0 m0 e0,.int .i64 (X q).bas,.bool (X q).tu] 67)).alloc (.cells #[.bool false,.slice none 0 0,.slice none 0 0] 29) = U at *
 refine HA.mono ?_
 rintro e w1 ⟨rfl,hk⟩
 replace R0:=R0.below hk
 replace hb:=bel_tr hb hk
 obtain ⟨r0,r1,r2,r3,r4,r5⟩:=id R0
 obtain ⟨V,O⟩:=R0.set (.bool kp) (.slice ka kn kc) (.slice kd km ke)
 have hw2:=hb.trans (O.below (by omega))
 clear HA hk xj x0
 go_wp2
 exact bodyPost_ret (v:=.agg #[.bool kp,.slice ka kn kc,.slice kd km ke]) (by simp [results,Tryz.results45,go_sem,V.c0,V.c1,V.c2]) rfl ⟨rfl,hw2⟩
set_option maxRecDepth 100000 in
set_option maxHeartbeats 8000000 in
theorem wor1F {F:Nat} {f:Bf} {n:Nat} {X:Nat→RoD} {lc:List (Nat × Rat)} {S Sc:Nat} (w:World) (h:BD w F f n X lc S Sc):RowFn w f X S 46 #[] (fun q=>(X q).r):=by
 intro q hq p0 a0 n0 c0 d0 m0 e0 G
 obtain ⟨va,vc,eva,_⟩:=(h.t q hq).form
 obtain ⟨vn,evn⟩:∃ vn,vn = (X q).l.length:=⟨_,rfl⟩
 rw [← evn] at eva
 refine ⟨p0,a0,n0,c0,d0,m0,e0,.inr G,fun w' hw=>?_⟩
 show Calls Tryz.prog 46 #[.agg #[f.V q,.bool p0,.slice a0 n0 c0,.slice d0 m0 e0,.int .i64 (X q).bas,.bool (X q).tu]] w' _
 rw [eva]
 have BX:=box_new w' #[.slice va vn vc,.bool p0,.slice a0 n0 c0,.slice d0 m0 e0,.int .i64 (X q).bas,.bool (X q).tu] 67
 have hb1:=bel_d0 w' (.cells #[.slice va vn vc,.bool p0,.slice a0 n0 c0,.slice d0 m0 e0,.int .i64 (X q).bas,.bool (X q).tu] 67)
 have hs1:(w'.alloc (.cells #[.slice va vn vc,.bool p0,.slice a0 n0 c0,.slice d0 m0 e0,.int .i64 (X q).bas,.bool (X q).tu] 67)).heap.size = w'.heap.size + 1:=by simp
 have R0:=var3_new (w'.alloc (.cells #[.slice va vn vc,.bool p0,.slice a0 n0 c0,.slice d0 m0 e0,.int .i64 (X q).bas,.bool (X q).tu] 67)) (.bool false) (.slice none 0 0) (.slice none 0 0) 29
 rw [hs1] at R0
 have hb2:=bel_d0 (w'.alloc (.cells #[.slice va vn vc,.bool p0,.slice a0 n0 c0,.slice d0 m0 e0,.int .i64 (X q).bas,.bool (X q).tu] 67)) (.cells #[.bool false,.slice none 0 0,.slice none 0 0] 29)
 have x1:=kept_c hb2 (BX 1 _ rfl)
 have x2:((w'.alloc (.cells #[.slice va vn vc,.bool p0,.slice a0 n0 c0,.slice d0 m0 e0,.int .i64 (X q).bas,.bool (X q).tu] 67)).alloc (.cells #[.bool false,.slice none 0 0,.slice none 0 0] 29)).cell? ⟨w'.heap.size,1 + 1,none⟩ = some (.slice a0 n0 c0):=kept_c hb2 (BX 2 _ rfl)
 have x3:((w'.alloc (.cells #[.slice va vn vc,.bool p0,.slice a0 n0 c0,.slice d0 m0 e0,.int .i64 (X q).bas,.bool (X q).tu] 67)).alloc (.cells #[.bool false,.slice none 0 0,.slice none 0 0] 29)).cell? ⟨w'.heap.size,1 + 2,none⟩ = some (.slice d0 m0 e0):=kept_c hb2 (BX 3 _ rfl)
 have V:=var3_new (w'.alloc (.cells #[.slice va vn vc,.bool p0,.slice a0 n0 c0,.slice d0 m0 e0,.int .i64 (X q).bas,.bool (X q).tu] 67)) (.bool p0) (.slice a0 n0 c0) (.slice d0 m0 e0) 29
 rw [hs1] at V
 have hw2:=bel_tr hb1 (bel_d0 (w'.alloc (.cells #[.slice va vn vc,.bool p0,.slice a0 n0 c0,.slice d0 m0 e0,.int .i64 (X q).bas,.bool (X q).tu] 67)) (.cells #[.bool p0,.slice a0 n0 c0,.slice d0 m0 e0] 29))
 clear R0
 clear evn eva hb1 hb2 BX hw G h
 go_enter Tryz.func46,Tryz.ntmps46
 go_wp2
 exact bodyPost_ret (v:=.agg #[.bool p0,.slice a0 n0 c0,.slice d0 m0 e0]) (by simp [results,Tryz.results46,go_sem,V.c0,V.c1,V.c2]) rfl ⟨rfl,hw2⟩
def rdc (X:Nat→RoD) (lc:List (Nat × Rat)) (m:Nat) (j:Int):Rat:=latI lc j - rsum (bco X lc fun q=>latI (X q).l j) m
def RdZ (X:Nat→RoD) (lc:List (Nat × Rat)) (m T:Nat) (j:Int):Prop:=(∀ k,k≤m→SzR (rsum (bco X lc fun q=>latI (X q).l j) k) T)∧SzR (rdc X lc m j) T
set_option maxRecDepth 100000 in
set_option maxHeartbeats 8000000 in
theorem reducedB {F:Nat} {f:Bf} {n:Nat} {X:Nat→RoD} {lc:List (Nat × Rat)} {S Sc:Nat} {T:Nat} (j:Int) (w:World) (h:BD w F f n X lc S Sc) (hS:1≤S) (hSc:1≤Sc) (hTT:1≤T∧T + (Sc + S)≤6000000) (hz:RdZ X lc f.m T j) (hN:n + f.m≤3000000) (hT:TB w) :
  Calls Tryz.prog 19 #[.pointer (some ⟨f.b,0,none⟩),.int .i64 j] w fun e w'=>NumP w (rdc X lc f.m j) T e w':=by
 have HZ:Hid (RdZ X lc f.m T j):=hz
 have JB:=box_new w #[.int .i64 j] 3
 have hb1:=bel_d0 w (.cells #[.int .i64 j] 3)
 have hs1:(w.alloc (.cells #[.int .i64 j] 3)).heap.size = w.heap.size + 1:=by simp
 have R0:=var3_new (w.alloc (.cells #[.int .i64 j] 3)) (.bool false) (.slice none 0 0) (.slice none 0 0) 29
 rw [hs1] at R0
 have hb2:=bel_d0 (w.alloc (.cells #[.int .i64 j] 3)) (.cells #[.bool false,.slice none 0 0,.slice none 0 0] 29)
 have hsz:((w.alloc (.cells #[.int .i64 j] 3)).alloc (.cells #[.bool false,.slice none 0 0,.slice none 0 0] 29)).heap.size = w.heap.size + 2:=by simp
 have xj:=kept_c hb2 (JB 0 _ rfl)
 have hb:=bel_tr hb1 hb2
 have B1:=h.below hb
 have hT1:=hT.below hb
 have hkc:=h.kc
 have hlenc:=hkc.1.len _ hkc.2
 obtain ⟨ua,uc,ecv,_⟩:=h.c.form
 obtain ⟨um,eum⟩:∃ um,um = lc.length:=⟨_,rfl⟩
 rw [← eum] at ecv hlenc
 have LC:=B1.c
 rw [ecv] at LC
 obtain ⟨kp,ka,kn,kc,kd,km,ke,ZK,HAT⟩:=atF j _ LC hkc.1 (by rw [← eum];omega)
 have xr:=(B1.rw.cell 2).trans (show _ = some f.cv from rfl)
 rw [ecv] at xr
 clear hz eum ecv LC hlenc JB hb1 hb2 h hT
 go_enter Tryz.func19,Tryz.ntmps19
 go_wp2_with fail
 generalize (w.alloc (.cells #[.int .i64 j] 3)).alloc (.cells #[.bool false,.slice none 0 0,.slice none 0 0] 29) = W0 at *
 have HBX:∀ w',Below W0.heap.size W0 w'→(w'.cell? ⟨f.b,2,none⟩ = some (.slice ua um uc)∧w'.cell? ⟨w.heap.size,0,none⟩ = some (.int .i64 j)):=fun w' h=>⟨kept_c h xr,kept_c h xj⟩
 refine wp_region_noPanic (wp_region_guardT 10 HBX (by as_aux_lemma=>kernel_rfl) ?_)
 have hc0:Below W0.heap.size W0 W0.drew:=bel_d1 _
 generalize W0.drew = z0 at *
 refine wpAnyG.tT 0 (v:=.pointer (some ⟨f.b,0,none⟩)) (by decide) 10 (by as_aux_lemma=>kernel_rfl) (by rfl) ?y0 (HBX _ hc0) ?_
 case y0 =>
  rintro w' ⟨q0,q1⟩
  simp only [lgA,lgZ]
  go_simp
 simp only [lgA,lgZ,Act.put,lsA,lsZ,lsS]
 refine wpAnyG.tT 1 (v:=.pointer (some ⟨f.b,0,none⟩)) (by decide) 10 (by as_aux_lemma=>kernel_rfl) (by rfl) ?y1 (HBX _ hc0) ?_
 case y1 =>
  rintro w' ⟨q0,q1⟩
  simp only [lgA,lgZ,lgS]
  go_simp
 simp only [lgA,lgZ,lgS,Act.put,lsA,lsZ,lsS]
 refine wpAnyG.tT 2 (v:=.pointer (some ⟨f.b,2,none⟩)) (by decide) 10 (by as_aux_lemma=>kernel_rfl) (by rfl) ?y2 (HBX _ hc0) ?_
 case y2 =>
  rintro w' ⟨q0,q1⟩
  simp only [lgA,lgZ,lgS]
  go_simp
 simp only [lgA,lgZ,lgS,Act.put,lsA,lsZ,lsS]
 refine wpAnyG.tT 3 (v:=.slice ua um uc) (by decide) 10 (by as_aux_lemma=>kernel_rfl) (by rfl) ?y3 (HBX _ hc0) ?_
 case y3 =>
  rintro w' ⟨q0,q1⟩
  simp only [lgA,lgZ,lgS]
  go_simp
 simp only [lgA,lgZ,lgS,Act.put,lsA,lsZ,lsS]
 refine wpAnyG.tT 4 (v:=.int .i64 j) (by decide) 10 (by as_aux_lemma=>kernel_rfl) (by rfl) ?y4 (HBX _ hc0) ?_
 case y4 =>
  rintro w' ⟨q0,q1⟩
  simp only [lgA,lgZ,lgS]
  go_simp
 simp only [lgA,lgZ,lgS,Act.put,lsA,lsZ,lsS]
 refine wpAnyG.tT 6 (v:=.pointer (some ⟨f.b,0,none⟩)) (by decide) 10 (by as_aux_lemma=>kernel_rfl) (by rfl) ?y6 (HBX _ hc0) ?_
 case y6 =>
  rintro w' ⟨q0,q1⟩
  simp only [lgA,lgZ,lgS]
  go_simp
 simp only [lgA,lgZ,lgS,Act.put,lsA,lsZ,lsS]
 refine wpAnyG.tT 7 (v:=.func (.func 45) #[] #[.pointer (some ⟨w.heap.size,0,none⟩)]) (by decide) 10 (by as_aux_lemma=>kernel_rfl) (by rfl) ?y7 (HBX _ hc0) ?_
 case y7 =>
  rintro w' ⟨q0,q1⟩
  simp only [lgA,lgZ,lgS]
  go_simp
 simp only [lgA,lgZ,lgS,Act.put,lsA,lsZ,lsS]
 refine wpAnyG.one 5 (by as_aux_lemma=>kernel_rfl) (by decide) (by rfl) (fun K hK=>?_)
 simp only [lgA,lgZ,lgS]
 go_simp
 refine (HAT z0 hc0).mono ?_
 rintro e z1 ⟨rfl,hk1⟩
 have hc1:Below W0.heap.size W0 z1:=bel_tr hc0 hk1
 dsimp only
 refine hK _ _ ⟨fun _=>HBX _ hc1,fun _=>trivial⟩ ?_
 clear hK K
 refine wpAnyG.one 8 (by as_aux_lemma=>kernel_rfl) (by decide) (by rfl) (fun K hK=>?_)
 simp only [lgA,lgZ,lgS]
 go_simp
 refine (basisB (T:=T) z1 (B1.below hc1) fe_red (red1F j z1 (B1.below hc1) hN (HBX _ hc1).2) hS hSc ⟨hTT.1,by omega,hTT.2⟩ HZ.out.1 hN (hT1.below hc1)).mono ?_
 rintro e z2 ⟨g4,v4,i4,j4,o4,t4,x4,rfl,G4,hk2⟩
 have hc2:Below W0.heap.size W0 z2:=bel_tr hc1 hk2
 dsimp only
 refine hK _ _ ⟨fun _=>HBX _ hc2,fun _=>trivial⟩ ?_
 clear hK K
 refine wpAnyG.one 9 (by as_aux_lemma=>kernel_rfl) (by decide) (by rfl) (fun K hK=>?_)
 simp only [lgA,lgZ,lgS]
 go_simp
 refine (subQ z2 ((ZK.below hc2).tr) G4.tr (by omega) hSc hTT.1 (hT1.below hc2)).mono ?_
 rintro e z3 ⟨g5,v5,i5,j5,o5,t5,x5,rfl,G5,hk3⟩
 have hc3:Below W0.heap.size W0 z3:=bel_tr hc2 hk3
 dsimp only
 refine hK _ _ ⟨fun _=>HBX _ hc3,fun _=>trivial⟩ ?_
 clear hK K
 refine wpAnyG.one 10 (by as_aux_lemma=>kernel_rfl) (by decide) (by rfl) (fun K hK=>?_)
 simp only [lgA,lgZ,lgS]
 have VS:=R0.below hc3
 obtain ⟨y0,y1,y2,y3,y4,y5⟩:=id VS
 go_simp
 refine hK _ _ ⟨fun h=>absurd h (by decide),fun _=>trivial⟩ ?_
 clear hK K
 refine wpAnyG.done (by as_aux_lemma=>kernel_rfl) (NoPanic.normal ?_)
 obtain ⟨V',O⟩:=VS.set (.bool g5) (.slice v5 i5 j5) (.slice o5 t5 x5)
 have hsa:=hc2.size
 have GN:=((G5.fit HZ.out.2).off O (by omega)).mono (B':=w.heap.size) (by omega)
 have hw:=(bel_tr hb hc3).trans (O.below (by omega))
 clear HBX R0 VS G4 G5 hc0 hc1 hc2 hc3 hk1 hk2 hk3 O y0 y1 y2 y3 y4 y5 B1 hT1 ZK HAT xr xj
 go_wp2
 exact bodyPost_ret (v:=.agg #[.bool g5,.slice v5 i5 j5,.slice o5 t5 x5]) (by simp [results,Tryz.results19,go_sem,V'.c0,V'.c1,V'.c2]) rfl ⟨_,_,_,_,_,_,_,rfl,GN,hw⟩
set_option maxRecDepth 100000 in
set_option maxHeartbeats 8000000 in
theorem worthB {F:Nat} {f:Bf} {n:Nat} {X:Nat→RoD} {lc:List (Nat × Rat)} {S Sc:Nat} {T:Nat} (w:World) (h:BD w F f n X lc S Sc) (hS:1≤S) (hSc:1≤Sc) (hTT:1≤T∧T + (Sc + S)≤6000000) (hz:∀ k,k≤f.m→SzR (rsum (bco X lc fun q=>(X q).r) k) T) (hN:n + f.m≤3000000) (hT:TB w) :
  Calls Tryz.prog 20 #[.pointer (some ⟨f.b,0,none⟩)] w fun e w'=>NumP w (rsum (bco X lc fun q=>(X q).r) f.m) T e w':=by
 have HZ:Hid (∀ k,k≤f.m→SzR (rsum (bco X lc fun q=>(X q).r) k) T):=hz
 have R0:=var3_new w (.bool false) (.slice none 0 0) (.slice none 0 0) 29
 have hb:=bel_d0 w (.cells #[.bool false,.slice none 0 0,.slice none 0 0] 29)
 have hs0:(w.alloc (.cells #[.bool false,.slice none 0 0,.slice none 0 0] 29)).heap.size = w.heap.size + 1:=by simp
 have B1:=h.below hb
 have hT1:=hT.below hb
 clear hz h hT
 go_enter Tryz.func20,Tryz.ntmps20
 go_wp2_with fail
 generalize w.alloc (.cells #[.bool false,.slice none 0 0,.slice none 0 0] 29) = W0 at *
 refine (basisB (T:=T) W0 B1 fe_wor (wor1F W0 B1) hS hSc ⟨hTT.1,by omega,hTT.2⟩ HZ.out hN hT1).mono ?_
 rintro e w1 ⟨g5,v5,i5,j5,o5,t5,x5,rfl,G5,hk⟩
 replace R0:=R0.below hk
 replace hb:=bel_tr hb hk
 obtain ⟨y0,y1,y2,y3,y4,y5⟩:=id R0
 obtain ⟨V',O⟩:=R0.set (.bool g5) (.slice v5 i5 j5) (.slice o5 t5 x5)
 have GN:=(G5.off O (by omega)).mono (B':=w.heap.size) (by omega)
 have hw:=hb.trans (O.below (by omega))
 clear R0 G5 hk O B1 hT1
 go_wp2
 exact bodyPost_ret (v:=.agg #[.bool g5,.slice v5 i5 j5,.slice o5 t5 x5]) (by simp [results,Tryz.results20,go_sem,V'.c0,V'.c1,V'.c2]) rfl ⟨_,_,_,_,_,_,_,rfl,GN,hw⟩
end Go.Proofs.YtjiodidemimgmaaGreatDoor

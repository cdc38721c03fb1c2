import Derived.Test.YtjiodidemimgmaaGreatDoorQAll
import Derived.Test.YtjiodidemimgmaaGreatDoorLentAll
import Derived.Test.YtjiodidemimgmaaGreatDoorRatAll
import Derived.Test.YtjiodidemimgmaaGreatDoorBpAAll
import Derived.Test.YtjiodidemimgmaaGreatDoorGuardK
namespace Go.Proofs.YtjiodidemimgmaaGreatDoor
open Go.RowKit
theorem box_ir (w:World) (u0 v0 u v z:Value) (t t':TypeId):Var2 ((w.alloc (.cells #[u0,v0] t')).alloc (.cells #[u,v,z] t)) w.heap.size u0 v0∧Var3 ((w.alloc (.cells #[u0,v0] t')).alloc (.cells #[u,v,z] t)) (w.heap.size + 1) u v z∧Below w.heap.size w ((w.alloc (.cells #[u0,v0] t')).alloc (.cells #[u,v,z] t))∧((w.alloc (.cells #[u0,v0] t')).alloc (.cells #[u,v,z] t)).heap.size = w.heap.size + 2:=by
 have h1:=var2_new w u0 v0 t'
 have h:=var3_new (w.alloc (.cells #[u0,v0] t')) u v z t
 rw [World.size_alloc] at h
 exact ⟨h1.alloc _,h,bel_tr (bel_d0 _ _) (bel_d0 _ _),by simp⟩
theorem q_one (x:Int):((x:Rat)).num = x∧(((x:Rat)).den:Int) = 1:=⟨Rat.num_intCast x,by rw [Rat.den_intCast];rfl⟩
set_option maxHeartbeats 4000000 in
theorem wholeD {p:Bool} {a:Option Addr} {na ca:Nat} {x:Int} {S:Nat} (w:World) (hX:TI w p a na ca x S) (hS:S≤7000000) (hS1:1≤S) :
  Calls Tryz.prog 29 #[.agg #[.bool p,.slice a na ca]] w fun e w'=>∃ f c n k c' n' k',e = .returned (.agg #[.bool f,.slice c n k,.slice c' n' k'])∧GR w' w.heap.size f c n k c' n' k' ((x:Rat)) (S)∧Below w.heap.size w w':=by
 obtain ⟨P0,R0,hb0,hsz⟩:=box_ir w (.bool p) (.slice a na ca) (.bool false) (.slice none 0 0) (.slice none 0 0) 29 27
 replace hX:=hX.below hb0
 go_enter Tryz.func29,Tryz.ntmps29
 go_wp2_with fail
 generalize (w.alloc (.cells #[.bool p,.slice a na ca] 27)).alloc (.cells #[.bool false,.slice none 0 0,.slice none 0 0] 29) = W0 at *
 replace hsz:=Nat.le_of_eq hsz.symm
 obtain ⟨p0c0,p0c1,p0c2,p0c3⟩:=id P0
 refine (rnormT _ hX (by omega)).mono ?_
 rintro e w1 ⟨f1,c1,n1,k1,rfl,K1,hx⟩
 replace K1:=K1.mono (B':=w.heap.size + 2) hsz
 clear p0c0 p0c1 p0c2 p0c3
 replace hX:=hX.below hx
 replace P0:=P0.below hx
 replace R0:=R0.below hx
 replace hb0:=bel_tr hb0 hx
 replace hsz:=Nat.le_trans hsz (Below.size hx)
 clear hx
 clear hX
 clear P0
 have hx:=bel_d0 w1 (.cells #[.bool f1,.slice c1 n1 k1] 27)
 replace K1:=K1.below hx
 replace R0:=R0.below hx
 replace hb0:=bel_tr hb0 hx
 replace hsz:=Nat.le_trans hsz (Below.size hx)
 have Vm:=var2_new w1 (.bool f1) (.slice c1 n1 k1) 27
 clear hx
 go_wp2_with fail
 generalize w1.alloc (.cells #[.bool f1,.slice c1 n1 k1] 27) = w2 at *
 refine (oneD _).mono ?_
 rintro e w3 ⟨co,no,ko,rfl,Go,hx⟩
 replace Go:=Go.mono (B':=w.heap.size + 2) hsz
 replace K1:=K1.below hx
 replace R0:=R0.below hx
 replace Vm:=Vm.below hx
 replace hb0:=bel_tr hb0 hx
 replace hsz:=Nat.le_trans hsz (Below.size hx)
 clear hx
 obtain ⟨vmc0,vmc1,vmc2,vmc3⟩:=id Vm
 obtain ⟨q1,q2⟩:=q_one x
 clear vmc0 vmc1 vmc2 vmc3
 obtain ⟨r0c0,r0c1,r0c2,r0c3,r0c4,r0c5⟩:=id R0
 obtain ⟨V,OO⟩:=R0.set (.bool f1) (.slice c1 n1 k1) (.slice co no ko)
 have hw:=hb0.trans (OO.below (B:=w.heap.size) (by omega))
 have GF:GR _ (w.heap.size + 2) f1 c1 n1 k1 co no ko (x:Rat) S:=⟨(K1.off OO (by omega)).val q1.symm,((Go.off OO (by omega)).le hS1).val q2.symm⟩
 obtain ⟨vmc0,vmc1,vmc2,vmc3⟩:=id Vm
 clear K1 Go q1 q2 Vm
 clear R0 OO hb0
 go_wp2
 refine bodyPost_ret (v:=.agg #[.bool f1,.slice c1 n1 k1,.slice co no ko]) (by simp [results,Tryz.results29,go_sem,V.c0,V.c1,V.c2]) rfl ⟨_,_,_,_,_,_,_,rfl,GF.mono (by omega),hw⟩
set_option maxHeartbeats 4000000 in
theorem ofD (v:Int) (w:World) (h0:-9223372036854775808≤v) (h1:v < 9223372036854775808) :
  Calls Tryz.prog 6 #[.int .i64 v] w fun e w'=>∃ f c n k c' n' k',e = .returned (.agg #[.bool f,.slice c n k,.slice c' n' k'])∧GR w' w.heap.size f c n k c' n' k' ((v:Rat)) (1)∧Below w.heap.size w w':=by
 have R0:=var3_new w (.bool false) (.slice none 0 0) (.slice none 0 0) 29
 have hb0:=bel_d0 w (.cells #[.bool false,.slice none 0 0,.slice none 0 0] 29)
 have hsz:w.heap.size + 1≤(w.alloc (.cells #[.bool false,.slice none 0 0,.slice none 0 0] 29)).heap.size:=by simp
 go_enter Tryz.func6,Tryz.ntmps6
 go_wp2_with fail
 generalize w.alloc (.cells #[.bool false,.slice none 0 0,.slice none 0 0] 29) = W0 at *
 refine (rofI v _ h0 h1).mono ?_
 rintro e w1 ⟨f1,c1,n1,k1,rfl,K1,hx⟩
 replace K1:=K1.mono (B':=w.heap.size + 1) hsz
 replace R0:=R0.below hx
 replace hb0:=bel_tr hb0 hx
 replace hsz:=Nat.le_trans hsz (Below.size hx)
 clear hx
 have hx:=bel_d0 w1 (.cells #[.bool f1,.slice c1 n1 k1] 27)
 replace K1:=K1.below hx
 replace R0:=R0.below hx
 replace hb0:=bel_tr hb0 hx
 replace hsz:=Nat.le_trans hsz (Below.size hx)
 have Vm:=var2_new w1 (.bool f1) (.slice c1 n1 k1) 27
 clear hx
 obtain ⟨vmc0,vmc1,vmc2,vmc3⟩:=id Vm
 go_wp2_with fail
 generalize w1.alloc (.cells #[.bool f1,.slice c1 n1 k1] 27) = w2 at *
 refine (wholeD _ K1.ti (by omega) (by omega)).mono ?_
 rintro e w3 ⟨f5,c5,n5,k5,d5,m5,l5,rfl,G5,hx⟩
 replace G5:=G5.mono (B':=w.heap.size + 1) hsz
 clear vmc0 vmc1 vmc2 vmc3
 replace K1:=K1.below hx
 replace R0:=R0.below hx
 replace Vm:=Vm.below hx
 replace hb0:=bel_tr hb0 hx
 replace hsz:=Nat.le_trans hsz (Below.size hx)
 clear hx
 clear K1
 clear Vm
 obtain ⟨r0c0,r0c1,r0c2,r0c3,r0c4,r0c5⟩:=id R0
 obtain ⟨V,OO⟩:=R0.set (.bool f5) (.slice c5 n5 k5) (.slice d5 m5 l5)
 have hw:=hb0.trans (OO.below (B:=w.heap.size) (by omega))
 have GF:=G5.off OO (by omega)
 clear G5
 clear R0 OO hb0
 go_wp2
 refine bodyPost_ret (v:=.agg #[.bool f5,.slice c5 n5 k5,.slice d5 m5 l5]) (by simp [results,Tryz.results6,go_sem,V.c0,V.c1,V.c2]) rfl ⟨_,_,_,_,_,_,_,rfl,GF.mono (by omega),hw⟩
set_option maxHeartbeats 4000000 in
theorem refSameP {f g:Bool} {c c2:Option Addr} {n n2 k k2:Nat} {d d2:Option Addr} {nd nd2 kd kd2:Nat} {x y:Int} {B B' S R:Nat} (w:World) (ha:GI w B (.agg #[.bool f,.slice c n k]) x S) (La:Got w B (.slice d nd kd) y S) (hb:GI w B' (.agg #[.bool g,.slice c2 n2 k2]) x R) (Lb:Got w B' (.slice d2 nd2 kd2) y R) (hS:S≤100000000) :
  Calls Tryz.prog 42 #[.agg #[.bool f,.slice c n k,.slice d nd kd],.agg #[.bool g,.slice c2 n2 k2,.slice d2 nd2 kd2]] w fun e w'=>e = .returned (.bool true)∧Below w.heap.size w w':=by
 obtain ⟨P0,P1,hb0,hsz⟩:=box_rr w (.bool f) (.slice c n k) (.slice d nd kd) (.bool g) (.slice c2 n2 k2) (.slice d2 nd2 kd2) 29
 obtain ⟨_,_,_,e1,Ka⟩:=ha
 obtain ⟨_,_,_,e2,Kb⟩:=hb
 simp only [Value.agg.injEq,Array.mk.injEq,List.cons.injEq,Value.bool.injEq,Value.slice.injEq,and_true] at e1 e2
 obtain ⟨rfl,rfl,rfl,rfl⟩:=e1
 obtain ⟨rfl,rfl,rfl,rfl⟩:=e2
 generalize decide (x < 0) = f at *
 replace Ka:=Ka.below hb0
 replace La:=La.below hb0
 replace Kb:=Kb.below hb0
 replace Lb:=Lb.below hb0
 go_enter Tryz.func42,Tryz.ntmps42
 obtain ⟨p0c0,p0c1,p0c2,p0c3,p0c4,p0c5⟩:=id P0
 obtain ⟨p1c0,p1c1,p1c2,p1c3,p1c4,p1c5⟩:=id P1
 go_wp2_with fail
 generalize (w.alloc (.cells #[.bool f,.slice c n k,.slice d nd kd] 29)).alloc (.cells #[.bool f,.slice c2 n2 k2,.slice d2 nd2 kd2] 29) = W0 at *
 refine (sameG _ Ka Kb rfl (by omega)).mono ?_
 rintro e w1 ⟨rfl,hx⟩
 clear p0c0 p0c1 p0c2 p0c3 p0c4 p0c5 p1c0 p1c1 p1c2 p1c3 p1c4 p1c5
 replace Ka:=Ka.below hx
 replace La:=La.below hx
 replace Kb:=Kb.below hx
 replace Lb:=Lb.below hx
 replace P0:=P0.below hx
 replace P1:=P1.below hx
 replace hb0:=bel_tr hb0 hx
 have hsw1:W0.heap.size≤w1.heap.size:=Below.size hx
 clear hx
 obtain ⟨p0c0,p0c1,p0c2,p0c3,p0c4,p0c5⟩:=id P0
 obtain ⟨p1c0,p1c1,p1c2,p1c3,p1c4,p1c5⟩:=id P1
 go_wp2_with fail
 refine (sameG _ La Lb rfl (by omega)).mono ?_
 rintro e w2 ⟨rfl,hx⟩
 clear p0c0 p0c1 p0c2 p0c3 p0c4 p0c5 p1c0 p1c1 p1c2 p1c3 p1c4 p1c5
 replace Ka:=Ka.below hx
 replace La:=La.below hx
 replace Kb:=Kb.below hx
 replace Lb:=Lb.below hx
 replace P0:=P0.below hx
 replace P1:=P1.below hx
 replace hb0:=bel_tr hb0 hx
 have hsw2:w1.heap.size≤w2.heap.size:=Below.size hx
 clear hx
 obtain ⟨p0c0,p0c1,p0c2,p0c3,p0c4,p0c5⟩:=id P0
 obtain ⟨p1c0,p1c1,p1c2,p1c3,p1c4,p1c5⟩:=id P1
 go_wp2_with (cases f <;> rfl)
 go_ret
 exact ⟨by simp,hb0⟩
set_option maxRecDepth 100000 in
set_option maxHeartbeats 8000000 in
theorem isB {p:Bool} {a:Option Addr} {na ca:Nat} {d:Option Addr} {nd cd:Nat} {r:Rat} {B S:Nat} (v:Int) (w:World) (G:GR w B p a na ca d nd cd r S) (hr:r = (v:Rat)) (hv:-9223372036854775808≤v∧v < 9223372036854775808) (hS:S≤100000000):Calls Tryz.prog 18 #[.agg #[.bool p,.slice a na ca,.slice d nd cd],.int .i64 v] w fun e w'=>e = .returned (.bool true)∧Below w.heap.size w w':=by
 have BX:=box_new w #[.bool p,.slice a na ca,.slice d nd cd] 29
 have hb0:=bel_d0 w (.cells #[.bool p,.slice a na ca,.slice d nd cd] 29)
 have G0:=G.below hb0
 go_enter Tryz.func18,Tryz.ntmps18
 go_wp2_with fail
 generalize w.alloc (.cells #[.bool p,.slice a na ca,.slice d nd cd] 29) = W0 at *
 have HBX:∀ w',Below W0.heap.size W0 w'→(w'.cell? ⟨w.heap.size,0,none⟩ = some (.bool p)∧w'.cell? ⟨w.heap.size,1,none⟩ = some (.slice a na ca)∧w'.cell? ⟨w.heap.size,2,none⟩ = some (.slice d nd cd)):=fun w' h=>⟨kept_c h (BX 0 _ rfl),kept_c h (BX 1 _ rfl),kept_c h (BX 2 _ rfl)⟩
 refine wp_region_noPanic (wp_region_guardB HBX (by as_aux_lemma=>kernel_rfl) ?_)
 have hc0:Below W0.heap.size W0 W0.drew:=bel_d1 _
 generalize W0.drew = z0 at *
 refine wpAnyG.tA 0 (v:=.agg #[.bool p,.slice a na ca,.slice d nd cd]) (by decide) 4 (by as_aux_lemma=>kernel_rfl) (by rfl) ?y0 (HBX _ hc0) ?_
 case y0 =>
  rintro w' ⟨q0,q1,q2⟩
  simp only [lgA,lgZ]
  go_simp
 simp only [lgA,lgZ,Act.put,lsA,lsZ,lsS]
 refine wpAnyG.tA 1 (v:=.int .i64 v) (by decide) 4 (by as_aux_lemma=>kernel_rfl) (by rfl) ?y1 (HBX _ hc0) ?_
 case y1 =>
  rintro w' ⟨q0,q1,q2⟩
  simp only [lgA,lgZ,lgS]
  go_simp
 simp only [lgA,lgZ,lgS,Act.put,lsA,lsZ,lsS]
 refine wpAnyG.one 2 (by as_aux_lemma=>kernel_rfl) (by decide) (by rfl) (fun K hK=>?_)
 simp only [lgA,lgZ,lgS]
 go_simp
 refine (ofD v z0 hv.1 hv.2).mono ?_
 rintro e z1 ⟨f2,c2,n2,k2,d2,m2,l2,rfl,G2,hk1⟩
 have hc1:Below W0.heap.size W0 z1:=bel_tr hc0 hk1
 have G1:=(G0.below hc1).val hr
 dsimp only
 refine hK _ _ (HBX _ hc1) ?_
 clear hK K
 refine wpAnyG.one 3 (by as_aux_lemma=>kernel_rfl) (by decide) (by rfl) (fun K hK=>?_)
 simp only [lgA,lgZ,lgS]
 go_simp
 refine (refSameP z1 G1.1 G1.2 G2.1 G2.2 hS).mono ?_
 rintro e z2 ⟨rfl,hk2⟩
 have hc2:Below W0.heap.size W0 z2:=bel_tr hc1 hk2
 dsimp only
 refine hK _ _ (HBX _ hc2) ?_
 clear hK K
 refine wpAnyG.one 4 (by as_aux_lemma=>kernel_rfl) (by decide) (by rfl) (fun K hK=>?_)
 simp only [lgA,lgZ,lgS]
 go_simp
 refine hK _ _ (HBX _ hc2) ?_
 clear hK K
 refine wpAnyG.done (by as_aux_lemma=>kernel_rfl) (NoPanic.normal ?_)
 have hbn:=bel_tr hb0 hc2
 clear HBX BX G0 G1 G2 hc0 hc1 hc2 hk1 hk2
 go_wp2
 go_ret
 exact ⟨rfl,hbn⟩
def bmu (X:Nat→RoD) (lc:List (Nat × Rat)) (n m i:Nat):Rat:=dsg (X i).tu (latI lc ((n + i:Nat):Int) - rdc X lc m ((n + i:Nat):Int))
set_option maxRecDepth 100000 in
set_option maxHeartbeats 8000000 in
theorem multB {F:Nat} {f:Bf} {n:Nat} {X:Nat→RoD} {lc:List (Nat × Rat)} {S Sc:Nat} {T:Nat} (i:Nat) (w:World) (h:BD w F f n X lc S Sc) (hi:i < f.m) (hS:1≤S) (hSc:1≤Sc) (hTT:1≤T∧T + (Sc + S)≤6000000) (hz:RdZ X lc f.m T ((n + i:Nat):Int)) (hz2:SzR (latI lc ((n + i:Nat):Int) - rdc X lc f.m ((n + i:Nat):Int)) T) (hN:n + f.m≤3000000) (hT:TB w) :
  Calls Tryz.prog 24 #[.pointer (some ⟨f.b,0,none⟩),.int .i64 (i:Nat)] w fun e w'=>NumP w (bmu X lc n f.m i) T e w':=by
 obtain ⟨art,eart⟩:∃ art,art = n + i:=⟨_,rfl⟩
 have HART:Hid (art = n + i):=eart
 rw [← eart] at hz hz2
 have hartI:(n:Int) + (i:Int) = (art:Int):=by omega
 have hartw:IntKind.i64.wrap (art:Int) = (art:Int):=wrap_id art (by omega)
 have HZ:Hid (RdZ X lc f.m T (art:Int)):=hz
 have HZ2:Hid (SzR (latI lc (art:Int) - rdc X lc f.m (art:Int)) T):=hz2
 have R0:=var3_new w (.bool false) (.slice none 0 0) (.slice none 0 0) 29
 have hb0:=bel_d0 w (.cells #[.bool false,.slice none 0 0,.slice none 0 0] 29)
 have hs0:(w.alloc (.cells #[.bool false,.slice none 0 0,.slice none 0 0] 29)).heap.size = w.heap.size + 1:=by simp
 have B0:=h.below hb0
 obtain ⟨rg,rc,p,a,na,ca,d,nd,cd,erv,_,_,_,_,_,y5,_⟩:=B0.get hi
 obtain ⟨m,em⟩:∃ m,m = f.m:=⟨_,rfl⟩
 have x0:=(B0.rw.cell 0).trans (show _ = some (.int .i64 (n:Nat)) from rfl)
 have x1:=(B0.rw.cell 1).trans (show _ = some f.rv from rfl)
 rw [erv,← em] at x1
 have hiI:(i:Int) < (m:Int):=by omega
 have hi0:¬ (i:Int) < 0:=by omega
 have hi6:(i:Int) * 6 = ((i * 6:Nat):Int):=by omega
 have hd:decide (0≤(i:Int)∧(i:Int) < (f.m:Int)) = true:=decide_eq_true (by omega)
 have hkc:=h.kc
 have hlenc:=hkc.1.len _ hkc.2
 obtain ⟨ua,uc,ecv,_⟩:=h.c.form
 obtain ⟨um,eum⟩:∃ um,um = lc.length:=⟨_,rfl⟩
 rw [← eum] at ecv hlenc
 have LC:=B0.c
 rw [ecv] at LC
 have x2:=(B0.rw.cell 2).trans (show _ = some f.cv from rfl)
 rw [ecv] at x2
 obtain ⟨tu,etu⟩:∃ tu,tu = (X i).tu:=⟨_,rfl⟩
 rw [← etu] at y5
 have HTU:Hid (tu = (X i).tu):=etu
 have HUM:Hid (um = lc.length):=eum
 clear hz hz2 eart em erv ecv eum etu
 go_enter Tryz.func24,Tryz.ntmps24
 go_wp2_with fail
 generalize w.alloc (.cells #[.bool false,.slice none 0 0,.slice none 0 0] 29) = W0 at *
 refine (isRowB (i:Int) W0 B0).mono ?_
 rintro e w1 ⟨rfl,rfl⟩
 rw [hd]
 clear hd
 go_wp2_with fail
 refine (atB (art:Int) w1 LC hkc.1 (by rw [← HUM.out];omega)).mono ?_
 rintro e w2 ⟨kp,ka,kn,kc,kd,km,ke,rfl,ZK,h2⟩
 go_wp2_with fail
 refine (reducedB (T:=T) (art:Int) w2 (B0.below h2) hS hSc hTT HZ.out hN ((hT.below hb0).below h2)).mono ?_
 rintro e w3 ⟨g5,v5,i5,j5,o5,t5,x5,rfl,G5,h3⟩
 have hb3:=bel_tr hb0 (bel_tr h2 h3)
 go_wp2_with fail
 refine (subQ w3 ((ZK.below h3).tr) G5.tr (by omega) hSc hTT.1 (hT.below hb3)).mono ?_
 rintro e w4 ⟨g6,v6,i6,j6,o6,t6,x6,rfl,G6,h4⟩
 have hb4:=bel_tr hb3 h4
 have h24:=bel_tr (bel_tr h2 h3) h4
 have hz4:=bel_d0 w4 (.cells #[.bool g6,.slice v6 i6 j6,.slice o6 t6 x6] 29)
 have QB:=box_new w4 #[.bool g6,.slice v6 i6 j6,.slice o6 t6 x6] 29
 have hs4:(w4.alloc (.cells #[.bool g6,.slice v6 i6 j6,.slice o6 t6 x6] 29)).heap.size = w4.heap.size + 1:=by simp
 have h3s:=(bel_tr h2 h3).size
 have GQ:=(G6.fit HZ2.out).below hz4
 have h25:=bel_tr h24 hz4
 have z1:=kept_c h25 x1
 have z5:=kept_c h25 y5
 have R5:=R0.below h25
 have hb5:=bel_tr hb4 hz4
 have q0:=QB 0 _ rfl
 have q1:=QB 1 _ rfl
 have q2:=QB 2 _ rfl
 have h4s:=h4.size
 clear ZK G5 G6 h2 h3 h4 hb3 hb4 h24 h25 hz4 QB R0 x0 x1 x2 y5 LC B0
 cases tu with
 | true =>
  go_wp2_with fail
  generalize w4.alloc (.cells #[.bool g6,.slice v6 i6 j6,.slice o6 t6 x6] 29) = W4 at *
  refine (negQ W4 GQ.tr (by omega) hTT.1 (hT.below hb5)).mono ?_
  rintro e w5 ⟨f7,c7,n7,k7,d7,m7,l7,rfl,G7,h5⟩
  have R6:=R5.below h5
  obtain ⟨r0,r1,r2,r3,r4,r5⟩:=id R6
  obtain ⟨V,O⟩:=R6.set (.bool f7) (.slice c7 n7 k7) (.slice d7 m7 l7)
  have h5s:=h5.size
  have GN:=(G7.off O (by omega)).mono (B':=w.heap.size) (by omega)
  have hw:=(bel_tr hb5 h5).trans (O.below (by omega))
  have HP:NumP w (bmu X lc n f.m i) T (.returned (.agg #[.bool f7,.slice c7 n7 k7,.slice d7 m7 l7])) _:=⟨_,_,_,_,_,_,_,rfl,GN.val (by unfold bmu dsg;rw [← HTU.out,← HART.out,if_pos rfl]),hw⟩
  clear GN hw O R5 R6 G7 GQ h5 hb5 z1 z5 q0 q1 q2
  go_wp2
  exact bodyPost_ret (v:=.agg #[.bool f7,.slice c7 n7 k7,.slice d7 m7 l7]) (by simp [results,Tryz.results24,go_sem,V.c0,V.c1,V.c2]) rfl HP
 | false =>
  obtain ⟨r0,r1,r2,r3,r4,r5⟩:=id R5
  obtain ⟨V,O⟩:=R5.set (.bool g6) (.slice v6 i6 j6) (.slice o6 t6 x6)
  have GN:=(GQ.off O (by omega)).mono (B':=w.heap.size) (by omega)
  have hw:=hb5.trans (O.below (by omega))
  have HP:NumP w (bmu X lc n f.m i) T (.returned (.agg #[.bool g6,.slice v6 i6 j6,.slice o6 t6 x6])) _:=⟨_,_,_,_,_,_,_,rfl,GN.val (by unfold bmu dsg;rw [← HTU.out,← HART.out,if_neg (by decide)]),hw⟩
  clear GN hw O R5 GQ hb5
  go_wp2
  exact bodyPost_ret (v:=.agg #[.bool g6,.slice v6 i6 j6,.slice o6 t6 x6]) (by simp [results,Tryz.results24,go_sem,V.c0,V.c1,V.c2]) rfl HP
def nfl:List Bool→Nat
 | []=>0
 | b :: l=>(if b then 0 else 1) + nfl l
theorem nfl_set:∀ (l:List Bool) (i:Nat),l[i]? = some false→nfl (l.set i true) + 1 = nfl l
 | [],i,h=>by simp at h
 | b :: l,0,h=>by
  simp at h
  subst h
  show (if true then 0 else 1) + nfl l + 1 = (if false then 0 else 1) + nfl l
  simp
  omega
 | b :: l,i + 1,h=>by
  have:=nfl_set l i (by simpa using h)
  show (if b then 0 else 1) + nfl (l.set i true) + 1 = (if b then 0 else 1) + nfl l
  omega
theorem nfl_pos:∀ (l:List Bool) (i:Nat),l[i]? = some false→0 < nfl l:=fun l i h=>by
 have:=nfl_set l i h
 omega
theorem getD_false {L:Array Bool} {i:Nat} (h:L.getD i true = false):L.toList[i]? = some false:=by
 by_cases hi:i < L.size
 ·rw [Array.getElem?_toList,Array.getElem?_eq_getElem hi]
  simp only [Array.getD,hi,dif_pos] at h
  exact congrArg some h
 ·simp only [Array.getD,hi,dif_neg,not_false_eq_true] at h
  cases h
theorem wpAny.inv {P:Program} {md:Region.Mode} {ops:Array Oper} {Q:Exit→Act→World→Prop} (I:Array Bool→Act→World→Prop) (hs:∀ L a w i,I L a w→i ∈ Region.ready md ops L→wpOp P ops Q i (fun a' w'=>I (L.setIfInBounds i true) a' w') a w) (he:∀ L a w,I L a w→Region.ready md ops L = []→Q .normal a w):∀ f L a w,nfl L.toList≤f→I L a w→wpAny P md ops Q f L a w:=by
 intro f
 induction f with
 | zero =>
  intro L a w hf hI
  have hr:Region.ready md ops L = []:=by
   cases h:Region.ready md ops L with
   | nil=>rfl
   | cons i l =>
    have hm:i ∈ Region.ready md ops L:=by rw [h];simp
    have:=nfl_pos _ _ (getD_false (mem_ready.1 hm).1)
    omega
  exact ⟨hr,he L a w hI hr⟩
 | succ f ih =>
  intro L a w hf hI
  refine ⟨he L a w hI,fun i hi=>?_⟩
  refine wpOp_mono ?_ (hs L a w i hI hi)
  intro a' w' h
  refine ih _ a' w' ?_ h
  have h1:=nfl_set _ _ (getD_false (mem_ready.1 hi).1)
  rw [Array.toList_setIfInBounds]
  omega
theorem ready_nil {md:Region.Mode} {ops:Array Oper} {L:Array Bool} (hsz:L.size = ops.size) (hd:∀ k o,ops[k]? = some o→∀ e ∈ o.after,Region.binds md e = true→e.on < k) (h:Region.ready md ops L = []):∀ k,k < ops.size→L.getD k false = true:=by
 intro k
 induction k using Nat.strongRecOn with
 | ind k ih =>
  intro hk
  cases hL:L.getD k false with
  | true=>rfl
  | false =>
   exfalso
   have hkL:k < L.size:=by omega
   have hL2:L.getD k true = false:=by
    simp only [Array.getD,hkL,dif_pos] at hL ⊢
    exact hL
   have ho:ops[k]? = some ops[k]:=Array.getElem?_eq_getElem hk
   have hm:k ∈ Region.ready md ops L:=mem_ready.2 ⟨hL2,ops[k],ho,fun e he hb=>by
    have h1:=hd k _ ho e he hb
    exact ih e.on h1 (by omega)⟩
   rw [h] at hm
   cases hm
theorem set_came {L:Array Bool} {i k:Nat} (h:(L.setIfInBounds i true).getD k false = true):k = i∨L.getD k false = true:=by
 by_cases e:k = i
 ·exact .inl e
 ·refine .inr ?_
  by_cases hk:k < L.size
  ·simp only [Array.getD,Array.size_setIfInBounds,hk,dif_pos,Array.getInternal_eq_getElem] at h ⊢
   rw [Array.getElem_setIfInBounds_ne hk (Ne.symm e)] at h
   exact h
  ·simp only [Array.getD,Array.size_setIfInBounds,hk,dif_neg,not_false_eq_true] at h
   cases h
end Go.Proofs.YtjiodidemimgmaaGreatDoor

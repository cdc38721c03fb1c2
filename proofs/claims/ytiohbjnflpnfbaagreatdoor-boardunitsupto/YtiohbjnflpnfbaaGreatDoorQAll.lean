import Derived.Test.YtiohbjnflpnfbaaGreatDoorRatAll
import Derived.Test.YtiohbjnflpnfbaaGreatDoorRefNAll
import Derived.Test.YtiohbjnflpnfbaaGreatDoorR2All
import Derived.Test.YtiohbjnflpnfbaaGreatDoorLentAll
namespace Go.Proofs.YtiohbjnflpnfbaaGreatDoor
open Go.RowKit
theorem oneD (w:World) :
  Calls Tryz.prog 82 #[] w fun e w'=>∃ c n k,e = .returned (.slice c n k)∧Got w' w.heap.size (.slice c n k) 1 1∧Below w.heap.size w w':=by
 go_enter Tryz.func82,Tryz.ntmps82
 go_wp2_with fail
 refine (rofGot 1 _ (by decide) (by decide)).mono ?_
 rintro e w1 ⟨c,n,k,rfl,G,hx⟩
 go_wp2
 go_ret
 exact ⟨c,n,k,rfl,G,hx⟩
theorem box_ir (w:World) (u0 v0 u v z:Value) (t t':TypeId):Var2 ((w.alloc (.cells #[u0,v0] t')).alloc (.cells #[u,v,z] t)) w.heap.size u0 v0∧Var3 ((w.alloc (.cells #[u0,v0] t')).alloc (.cells #[u,v,z] t)) (w.heap.size + 1) u v z∧Below w.heap.size w ((w.alloc (.cells #[u0,v0] t')).alloc (.cells #[u,v,z] t))∧((w.alloc (.cells #[u0,v0] t')).alloc (.cells #[u,v,z] t)).heap.size = w.heap.size + 2:=by
 have h1:=var2_new w u0 v0 t'
 have h:=var3_new (w.alloc (.cells #[u0,v0] t')) u v z t
 rw [World.size_alloc] at h
 exact ⟨h1.alloc _,h,bel_tr (bel_d0 _ _) (bel_d0 _ _),by simp⟩
theorem q_one (x:Int):((x:Rat)).num = x∧(((x:Rat)).den:Int) = 1:=⟨Rat.num_intCast x,by rw [Rat.den_intCast];rfl⟩
set_option maxHeartbeats 4000000 in
theorem wholeD {p:Bool} {a:Option Addr} {na ca:Nat} {x:Int} {S:Nat} (w:World) (hX:TI w p a na ca x S) (hS:S≤7000000) (hS1:1≤S) :
  Calls Tryz.prog 63 #[.agg #[.bool p,.slice a na ca]] w fun e w'=>∃ f c n k c' n' k',e = .returned (.agg #[.bool f,.slice c n k,.slice c' n' k'])∧GR w' w.heap.size f c n k c' n' k' ((x:Rat)) (S)∧Below w.heap.size w w':=by
 obtain ⟨P0,R0,hb0,hsz⟩:=box_ir w (.bool p) (.slice a na ca) (.bool false) (.slice none 0 0) (.slice none 0 0) 29 27
 replace hX:=hX.below hb0
 go_enter Tryz.func63,Tryz.ntmps63
 go_wp2_with fail
 generalize (w.alloc (.cells #[.bool p,.slice a na ca] 27)).alloc (.cells #[.bool false,.slice none 0 0,.slice none 0 0] 29) = W0 at *
 replace hsz:=Nat.le_of_eq hsz.symm
 obtain ⟨p0c0,p0c1,p0c2,p0c3⟩:=id P0
 refine (rnormT _ hX (by omega)).mono ?_
 rintro e w1 ⟨f1,c1,n1,k1,rfl,K1,hx⟩
 replace K1:=K1.mono (B':=w.heap.size + 2) hsz
 clear p0c0 p0c1 p0c2 p0c3
 replace hX:=hX.below hx
 replace P0:=P0.below hx
 replace R0:=R0.below hx
 replace hb0:=bel_tr hb0 hx
 replace hsz:=Nat.le_trans hsz (Below.size hx)
 clear hx
 clear hX
 clear P0
 have hx:=bel_d0 w1 (.cells #[.bool f1,.slice c1 n1 k1] 27)
 replace K1:=K1.below hx
 replace R0:=R0.below hx
 replace hb0:=bel_tr hb0 hx
 replace hsz:=Nat.le_trans hsz (Below.size hx)
 have Vm:=var2_new w1 (.bool f1) (.slice c1 n1 k1) 27
 clear hx
 go_wp2_with fail
 generalize w1.alloc (.cells #[.bool f1,.slice c1 n1 k1] 27) = w2 at *
 refine (oneD _).mono ?_
 rintro e w3 ⟨co,no,ko,rfl,Go,hx⟩
 replace Go:=Go.mono (B':=w.heap.size + 2) hsz
 replace K1:=K1.below hx
 replace R0:=R0.below hx
 replace Vm:=Vm.below hx
 replace hb0:=bel_tr hb0 hx
 replace hsz:=Nat.le_trans hsz (Below.size hx)
 clear hx
 obtain ⟨vmc0,vmc1,vmc2,vmc3⟩:=id Vm
 obtain ⟨q1,q2⟩:=q_one x
 clear vmc0 vmc1 vmc2 vmc3
 obtain ⟨r0c0,r0c1,r0c2,r0c3,r0c4,r0c5⟩:=id R0
 obtain ⟨V,OO⟩:=R0.set (.bool f1) (.slice c1 n1 k1) (.slice co no ko)
 have hw:=hb0.trans (OO.below (B:=w.heap.size) (by omega))
 have GF:GR _ (w.heap.size + 2) f1 c1 n1 k1 co no ko (x:Rat) S:=⟨(K1.off OO (by omega)).val q1.symm,((Go.off OO (by omega)).le hS1).val q2.symm⟩
 obtain ⟨vmc0,vmc1,vmc2,vmc3⟩:=id Vm
 clear K1 Go q1 q2 Vm
 clear R0 OO hb0
 go_wp2
 refine bodyPost_ret (v:=.agg #[.bool f1,.slice c1 n1 k1,.slice co no ko]) (by simp [results,Tryz.results63,go_sem,V.c0,V.c1,V.c2]) rfl ⟨_,_,_,_,_,_,_,rfl,GF.mono (by omega),hw⟩
set_option maxHeartbeats 4000000 in
theorem ofD (v:Int) (w:World) (h0:-9223372036854775808≤v) (h1:v < 9223372036854775808) :
  Calls Tryz.prog 29 #[.int .i64 v] w fun e w'=>∃ f c n k c' n' k',e = .returned (.agg #[.bool f,.slice c n k,.slice c' n' k'])∧GR w' w.heap.size f c n k c' n' k' ((v:Rat)) (1)∧Below w.heap.size w w':=by
 have R0:=var3_new w (.bool false) (.slice none 0 0) (.slice none 0 0) 29
 have hb0:=bel_d0 w (.cells #[.bool false,.slice none 0 0,.slice none 0 0] 29)
 have hsz:w.heap.size + 1≤(w.alloc (.cells #[.bool false,.slice none 0 0,.slice none 0 0] 29)).heap.size:=by simp
 go_enter Tryz.func29,Tryz.ntmps29
 go_wp2_with fail
 generalize w.alloc (.cells #[.bool false,.slice none 0 0,.slice none 0 0] 29) = W0 at *
 refine (rofI v _ h0 h1).mono ?_
 rintro e w1 ⟨f1,c1,n1,k1,rfl,K1,hx⟩
 replace K1:=K1.mono (B':=w.heap.size + 1) hsz
 replace R0:=R0.below hx
 replace hb0:=bel_tr hb0 hx
 replace hsz:=Nat.le_trans hsz (Below.size hx)
 clear hx
 have hx:=bel_d0 w1 (.cells #[.bool f1,.slice c1 n1 k1] 27)
 replace K1:=K1.below hx
 replace R0:=R0.below hx
 replace hb0:=bel_tr hb0 hx
 replace hsz:=Nat.le_trans hsz (Below.size hx)
 have Vm:=var2_new w1 (.bool f1) (.slice c1 n1 k1) 27
 clear hx
 obtain ⟨vmc0,vmc1,vmc2,vmc3⟩:=id Vm
 go_wp2_with fail
 generalize w1.alloc (.cells #[.bool f1,.slice c1 n1 k1] 27) = w2 at *
 refine (wholeD _ K1.ti (by omega) (by omega)).mono ?_
 rintro e w3 ⟨f5,c5,n5,k5,d5,m5,l5,rfl,G5,hx⟩
 replace G5:=G5.mono (B':=w.heap.size + 1) hsz
 clear vmc0 vmc1 vmc2 vmc3
 replace K1:=K1.below hx
 replace R0:=R0.below hx
 replace Vm:=Vm.below hx
 replace hb0:=bel_tr hb0 hx
 replace hsz:=Nat.le_trans hsz (Below.size hx)
 clear hx
 clear K1
 clear Vm
 obtain ⟨r0c0,r0c1,r0c2,r0c3,r0c4,r0c5⟩:=id R0
 obtain ⟨V,OO⟩:=R0.set (.bool f5) (.slice c5 n5 k5) (.slice d5 m5 l5)
 have hw:=hb0.trans (OO.below (B:=w.heap.size) (by omega))
 have GF:=G5.off OO (by omega)
 clear G5
 clear R0 OO hb0
 go_wp2
 refine bodyPost_ret (v:=.agg #[.bool f5,.slice c5 n5 k5,.slice d5 m5 l5]) (by simp [results,Tryz.results29,go_sem,V.c0,V.c1,V.c2]) rfl ⟨_,_,_,_,_,_,_,rfl,GF.mono (by omega),hw⟩
set_option maxHeartbeats 4000000 in
theorem refSameP {f g:Bool} {c c2:Option Addr} {n n2 k k2:Nat} {d d2:Option Addr} {nd nd2 kd kd2:Nat} {x y:Int} {B B' S R:Nat} (w:World) (ha:GI w B (.agg #[.bool f,.slice c n k]) x S) (La:Got w B (.slice d nd kd) y S) (hb:GI w B' (.agg #[.bool g,.slice c2 n2 k2]) x R) (Lb:Got w B' (.slice d2 nd2 kd2) y R) (hS:S≤100000000) :
  Calls Tryz.prog 34 #[.agg #[.bool f,.slice c n k,.slice d nd kd],.agg #[.bool g,.slice c2 n2 k2,.slice d2 nd2 kd2]] w fun e w'=>e = .returned (.bool true)∧Below w.heap.size w w':=by
 obtain ⟨P0,P1,hb0,hsz⟩:=box_rr w (.bool f) (.slice c n k) (.slice d nd kd) (.bool g) (.slice c2 n2 k2) (.slice d2 nd2 kd2) 29
 obtain ⟨_,_,_,e1,Ka⟩:=ha
 obtain ⟨_,_,_,e2,Kb⟩:=hb
 simp only [Value.agg.injEq,Array.mk.injEq,List.cons.injEq,Value.bool.injEq,Value.slice.injEq,and_true] at e1 e2
 obtain ⟨rfl,rfl,rfl,rfl⟩:=e1
 obtain ⟨rfl,rfl,rfl,rfl⟩:=e2
 generalize decide (x < 0) = f at *
 replace Ka:=Ka.below hb0
 replace La:=La.below hb0
 replace Kb:=Kb.below hb0
 replace Lb:=Lb.below hb0
 go_enter Tryz.func34,Tryz.ntmps34
 obtain ⟨p0c0,p0c1,p0c2,p0c3,p0c4,p0c5⟩:=id P0
 obtain ⟨p1c0,p1c1,p1c2,p1c3,p1c4,p1c5⟩:=id P1
 go_wp2_with fail
 generalize (w.alloc (.cells #[.bool f,.slice c n k,.slice d nd kd] 29)).alloc (.cells #[.bool f,.slice c2 n2 k2,.slice d2 nd2 kd2] 29) = W0 at *
 refine (sameG _ Ka Kb rfl (by omega)).mono ?_
 rintro e w1 ⟨rfl,hx⟩
 clear p0c0 p0c1 p0c2 p0c3 p0c4 p0c5 p1c0 p1c1 p1c2 p1c3 p1c4 p1c5
 replace Ka:=Ka.below hx
 replace La:=La.below hx
 replace Kb:=Kb.below hx
 replace Lb:=Lb.below hx
 replace P0:=P0.below hx
 replace P1:=P1.below hx
 replace hb0:=bel_tr hb0 hx
 have hsw1:W0.heap.size≤w1.heap.size:=Below.size hx
 clear hx
 obtain ⟨p0c0,p0c1,p0c2,p0c3,p0c4,p0c5⟩:=id P0
 obtain ⟨p1c0,p1c1,p1c2,p1c3,p1c4,p1c5⟩:=id P1
 go_wp2_with fail
 refine (sameG _ La Lb rfl (by omega)).mono ?_
 rintro e w2 ⟨rfl,hx⟩
 clear p0c0 p0c1 p0c2 p0c3 p0c4 p0c5 p1c0 p1c1 p1c2 p1c3 p1c4 p1c5
 replace Ka:=Ka.below hx
 replace La:=La.below hx
 replace Kb:=Kb.below hx
 replace Lb:=Lb.below hx
 replace P0:=P0.below hx
 replace P1:=P1.below hx
 replace hb0:=bel_tr hb0 hx
 have hsw2:w1.heap.size≤w2.heap.size:=Below.size hx
 clear hx
 obtain ⟨p0c0,p0c1,p0c2,p0c3,p0c4,p0c5⟩:=id P0
 obtain ⟨p1c0,p1c1,p1c2,p1c3,p1c4,p1c5⟩:=id P1
 go_wp2_with (cases f <;> rfl)
 go_ret
 exact ⟨by simp,hb0⟩
end Go.Proofs.YtiohbjnflpnfbaaGreatDoor

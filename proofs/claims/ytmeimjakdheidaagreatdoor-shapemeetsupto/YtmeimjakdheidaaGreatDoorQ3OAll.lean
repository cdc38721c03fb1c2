import Derived.Test.YtmeimjakdheidaaGreatDoorQAll
import Derived.Test.YtmeimjakdheidaaGreatDoorLentAll
import Derived.Test.YtmeimjakdheidaaGreatDoorShO
import Derived.Test.YtmeimjakdheidaaGreatDoorPuH
set_option maxHeartbeats 4000000
namespace Go.Proofs.YtmeimjakdheidaaGreatDoor
open Go.RowKit
theorem box_ir (w:World) (u0 v0 u v z:Value) (t t':TypeId):Var2 ((w.alloc (.cells #[u0,v0] t')).alloc (.cells #[u,v,z] t)) w.heap.size u0 v0∧Var3 ((w.alloc (.cells #[u0,v0] t')).alloc (.cells #[u,v,z] t)) (w.heap.size+1) u v z∧Below w.heap.size w ((w.alloc (.cells #[u0,v0] t')).alloc (.cells #[u,v,z] t))∧((w.alloc (.cells #[u0,v0] t')).alloc (.cells #[u,v,z] t)).heap.size=w.heap.size+2:=by
 have h1:=dE w u0 v0 t'
 have h:=aU (w.alloc (.cells #[u0,v0] t')) u v z t
 rw [World.size_alloc] at h
 exact ⟨h1.alloc _,h,aF (aI _ _) (aI _ _),by simp⟩
theorem q_one (x:Int):((x:Rat)).num=x∧(((x:Rat)).den:Int)=1:=⟨Rat.num_intCast x,by rw [Rat.den_intCast];rfl⟩
theorem wholeD {p:Bool} {a:Option Addr} {na ca:Nat} {x:Int} {S:Nat} (w:World) (hX:TI w p a na ca x S) (hS:S≤7000000) (hS1:1≤S) :
 Calls Tryz.prog 70 #[.agg #[.bool p,.slice a na ca]] w fun e w'=>∃ f c n k c' n' k',e = .returned (.agg #[.bool f,.slice c n k,.slice c' n' k'])∧GR w' w.heap.size f c n k c' n' k' ((x:Rat)) (S)∧Below w.heap.size w w':=by
 obtain ⟨P0,R0,hb0,hsz⟩:=box_ir w (.bool p) (.slice a na ca) (.bool false) (.slice none 0 0) (.slice none 0 0) 27 25
 replace hX:=hX.below hb0
 go_enter Tryz.func70,Tryz.ntmps70
 go_wp2_with fail
 generalize (w.alloc (.cells #[.bool p,.slice a na ca] 25)).alloc (.cells #[.bool false,.slice none 0 0,.slice none 0 0] 27)=W0 at *
 replace hsz:=Nat.le_of_eq hsz.symm
 obtain ⟨p0c0,p0c1,p0c2,p0c3⟩:=id P0
 refine (rnormT _ hX (by omega)).mono ?_
 rintro e w1 ⟨f1,c1,n1,k1,rfl,K1,hx⟩
 replace K1:=K1.mono (B':=w.heap.size+2) hsz
 clear p0c0 p0c1 p0c2 p0c3
 replace hX:=hX.below hx
 replace P0:=P0.below hx
 replace R0:=R0.below hx
 replace hb0:=aF hb0 hx
 replace hsz:=Nat.le_trans hsz (Below.size hx)
 clear hx
 clear hX
 clear P0
 have hx:=aI w1 (.cells #[.bool f1,.slice c1 n1 k1] 25)
 replace K1:=K1.below hx
 replace R0:=R0.below hx
 replace hb0:=aF hb0 hx
 replace hsz:=Nat.le_trans hsz (Below.size hx)
 have Vm:=dE w1 (.bool f1) (.slice c1 n1 k1) 25
 clear hx
 go_wp2_with fail
 generalize w1.alloc (.cells #[.bool f1,.slice c1 n1 k1] 25)=w2 at *
 refine (oneD _).mono ?_
 rintro e w3 ⟨co,no,ko,rfl,Go,hx⟩
 have HNE:=NB.of K1.parts.2 Go (Nat.le_refl _)
 replace Go:=Go.mono (B':=w.heap.size+2) hsz
 replace K1:=K1.below hx
 replace R0:=R0.below hx
 replace Vm:=Vm.below hx
 replace hb0:=aF hb0 hx
 replace hsz:=Nat.le_trans hsz (Below.size hx)
 clear hx
 obtain ⟨vmc0,vmc1,vmc2,vmc3⟩:=id Vm
 obtain ⟨q1,q2⟩:=q_one x
 clear vmc0 vmc1 vmc2 vmc3
 obtain ⟨r0c0,r0c1,r0c2,r0c3,r0c4,r0c5⟩:=id R0
 obtain ⟨V,OO⟩:=R0.set (.bool f1) (.slice c1 n1 k1) (.slice co no ko)
 have hw:=hb0.trans (OO.below (B:=w.heap.size) (by omega))
 have GF:GR _ (w.heap.size+2) f1 c1 n1 k1 co no ko (x:Rat) S:=⟨(K1.off OO (by omega)).val q1.symm,((Go.off OO (by omega)).le hS1).val q2.symm,HNE⟩
 obtain ⟨vmc0,vmc1,vmc2,vmc3⟩:=id Vm
 clear K1 Go q1 q2 Vm
 clear R0 OO hb0
 go_wp2
 refine bodyPost_ret (v:=.agg #[.bool f1,.slice c1 n1 k1,.slice co no ko]) (by simp [results,Tryz.results70,go_sem,V.c0,V.c1,V.c2]) rfl ⟨_,_,_,_,_,_,_,rfl,GF.mono (by omega),hw⟩
theorem ofD (v:Int) (w:World) (h0:-9223372036854775808≤v) (h1:v<9223372036854775808) :
 Calls Tryz.prog 36 #[.int .i64 v] w fun e w'=>∃ f c n k c' n' k',e = .returned (.agg #[.bool f,.slice c n k,.slice c' n' k'])∧GR w' w.heap.size f c n k c' n' k' ((v:Rat)) (1)∧Below w.heap.size w w':=by
 have R0:=aU w (.bool false) (.slice none 0 0) (.slice none 0 0) 27
 have hb0:=aI w (.cells #[.bool false,.slice none 0 0,.slice none 0 0] 27)
 have hsz:w.heap.size+1≤(w.alloc (.cells #[.bool false,.slice none 0 0,.slice none 0 0] 27)).heap.size:=by simp
 go_enter Tryz.func36,Tryz.ntmps36
 go_wp2_with fail
 generalize w.alloc (.cells #[.bool false,.slice none 0 0,.slice none 0 0] 27)=W0 at *
 refine (rofI v _ h0 h1).mono ?_
 rintro e w1 ⟨f1,c1,n1,k1,rfl,K1,hx⟩
 replace K1:=K1.mono (B':=w.heap.size+1) hsz
 replace R0:=R0.below hx
 replace hb0:=aF hb0 hx
 replace hsz:=Nat.le_trans hsz (Below.size hx)
 clear hx
 have hx:=aI w1 (.cells #[.bool f1,.slice c1 n1 k1] 25)
 replace K1:=K1.below hx
 replace R0:=R0.below hx
 replace hb0:=aF hb0 hx
 replace hsz:=Nat.le_trans hsz (Below.size hx)
 have Vm:=dE w1 (.bool f1) (.slice c1 n1 k1) 25
 clear hx
 obtain ⟨vmc0,vmc1,vmc2,vmc3⟩:=id Vm
 go_wp2_with fail
 generalize w1.alloc (.cells #[.bool f1,.slice c1 n1 k1] 25)=w2 at *
 refine (wholeD _ K1.ti (by omega) (by omega)).mono ?_
 rintro e w3 ⟨f5,c5,n5,k5,d5,m5,l5,rfl,G5,hx⟩
 replace G5:=G5.mono (B':=w.heap.size+1) hsz
 clear vmc0 vmc1 vmc2 vmc3
 replace K1:=K1.below hx
 replace R0:=R0.below hx
 replace Vm:=Vm.below hx
 replace hb0:=aF hb0 hx
 replace hsz:=Nat.le_trans hsz (Below.size hx)
 clear hx
 clear K1
 clear Vm
 obtain ⟨r0c0,r0c1,r0c2,r0c3,r0c4,r0c5⟩:=id R0
 obtain ⟨V,OO⟩:=R0.set (.bool f5) (.slice c5 n5 k5) (.slice d5 m5 l5)
 have hw:=hb0.trans (OO.below (B:=w.heap.size) (by omega))
 have GF:=G5.off OO (by omega)
 clear G5
 clear R0 OO hb0
 go_wp2
 refine bodyPost_ret (v:=.agg #[.bool f5,.slice c5 n5 k5,.slice d5 m5 l5]) (by simp [results,Tryz.results36,go_sem,V.c0,V.c1,V.c2]) rfl ⟨_,_,_,_,_,_,_,rfl,GF.mono (by omega),hw⟩
theorem jI (v:Int) (w:World) (h0:-9223372036854775808≤v) (h1:v<9223372036854775808) :
 Calls Tryz.prog 14 #[.int .i64 v] w fun e w'=>∃ f c n k c' n' k',e = .returned (.agg #[.bool f,.slice c n k,.slice c' n' k'])∧GR w' w.heap.size f c n k c' n' k' (v:Rat) 1∧Below w.heap.size w w':=by
 have R0:=aU w (.bool false) (.slice none 0 0) (.slice none 0 0) 27
 have hb0:=aI w (.cells #[.bool false,.slice none 0 0,.slice none 0 0] 27)
 have hsz:w.heap.size+1≤(w.alloc (.cells #[.bool false,.slice none 0 0,.slice none 0 0] 27)).heap.size:=by simp
 go_enter Tryz.func14,Tryz.ntmps14
 go_wp2_with fail
 generalize w.alloc (.cells #[.bool false,.slice none 0 0,.slice none 0 0] 27)=W0 at *
 refine (ofD v W0 h0 h1).mono ?_
 rintro e w3 ⟨f5,c5,n5,k5,d5,m5,l5,rfl,G5,hx⟩
 replace G5:=G5.mono (B':=w.heap.size+1) hsz
 replace R0:=R0.below hx
 replace hb0:=aF hb0 hx
 obtain ⟨r0c0,r0c1,r0c2,r0c3,r0c4,r0c5⟩:=id R0
 obtain ⟨RN,O⟩:=R0.set (.bool f5) (.slice c5 n5 k5) (.slice d5 m5 l5)
 have GN:=(G5.off O (by omega)).mono (B':=w.heap.size) (by omega)
 have BN:=hb0.trans (O.below (Nat.le_refl _))
 clear hx
 go_wp2
 exact bodyPost_ret (v:=.agg #[.bool f5,.slice c5 n5 k5,.slice d5 m5 l5]) (by simp [results,Tryz.results14,go_sem,RN.c0,RN.c1,RN.c2]) rfl ⟨_,_,_,_,_,_,_,rfl,GN,BN⟩
theorem tr_nil (w:World):TR w false none 0 0 none 0 0 0 1:=⟨0,0,((GI.nil w 0).le (Nat.zero_le 1)).ti,((Got.nil w 0).le (Nat.zero_le 1)).num,by simp⟩
set_option maxRecDepth 100000 in
theorem largeQ (P:Prob) (w:World) (hP:PQ w P) (hK:P.K≤1048576) :
 Calls Tryz.prog 4 #[P.val] w fun e w'=>AnyB e w w':=by
 have hvn:P.vn≤1048576:=by have:=hP.all;have:=dI P.ZV P.vn;omega
 have hrn:P.rn≤1048576:=by have:=hP.all;have:=dI P.ZR P.rn;omega
 have Pb:=aQ w #[.bool P.mx,.string P.nm,.bool P.p,.slice P.a P.na P.ca,.slice P.d P.nd P.cd,.slice P.va P.vn P.vc,.slice P.ra P.rn P.rc] 31
 have hb:=aI w (.cells #[.bool P.mx,.string P.nm,.bool P.p,.slice P.a P.na P.ca,.slice P.d P.nd P.cd,.slice P.va P.vn P.vc,.slice P.ra P.rn P.rc] 31)
 have y0:=Pb 0 _ rfl;have y1:=Pb 1 _ rfl;have y2:=Pb 2 _ rfl;have y3:=Pb 3 _ rfl;have y4:=Pb 4 _ rfl;have y5:=Pb 5 _ rfl;have y6:=Pb 6 _ rfl
 have HB:=beyondQ P (w.alloc (.cells #[.bool P.mx,.string P.nm,.bool P.p,.slice P.a P.na P.ca,.slice P.d P.nd P.cd,.slice P.va P.vn P.vc,.slice P.ra P.rn P.rc] 31)) (hP.below hb) hK
 unfold Prob.val at HB ⊢
 have hm:(2*(P.rn:Int)+(P.vn:Int))*(3*(P.vn:Int)+2*(P.rn:Int))≤3145728*5242880:=Int.mul_le_mul (by omega) (by omega) (by omega) (by omega)
 have hm0:0≤(2*(P.rn:Int)+(P.vn:Int))*(3*(P.vn:Int)+2*(P.rn:Int)):=Int.mul_nonneg (by omega) (by omega)
 by_cases hc:2147483648≤(2*(P.rn:Int)+(P.vn:Int))*(3*(P.vn:Int)+2*(P.rn:Int))
 ·go_enter Tryz.func4,Tryz.ntmps4
  go_wp2
  go_ret
  exact ⟨_,rfl,hb⟩
 ·go_enter Tryz.func4,Tryz.ntmps4
  go_wp2_with fail
  clear y0 y1 y2 y3 y4 y5 y6
  generalize w.alloc (.cells #[.bool P.mx,.string P.nm,.bool P.p,.slice P.a P.na P.ca,.slice P.d P.nd P.cd,.slice P.va P.vn P.vc,.slice P.ra P.rn P.rc] 31)=W0 at *
  refine HB.mono ?_
  rintro e w1 ⟨b,rfl,hx⟩
  go_wp2
  go_ret
  exact ⟨_,rfl,aF hb hx⟩
def NumP (w:World) (r:Rat) (U:Nat) (e:Ending) (w':World):Prop:=∃ f c n1 k c' n' k',e = .returned (.agg #[.bool f,.slice c n1 k,.slice c' n' k'])∧GR w' 0 f c n1 k c' n' k' r U∧Below w.heap.size w w'
theorem Rw.set3 {t:TypeId} {w:World} {R:Nat} {a0 a1 a2:Value} (h:Rw t w R #[a0,a1,a2]) (b0 b1 b2:Value):Rw t (((w.setCell ⟨R,0,none⟩ b0).setCell ⟨R,1,none⟩ b1).setCell ⟨R,2,none⟩ b2) R #[b0,b1,b2]∧Off R w (((w.setCell ⟨R,0,none⟩ b0).setCell ⟨R,1,none⟩ b1).setCell ⟨R,2,none⟩ b2):=by
 refine ⟨?_,(((Off.refl _ _).set 0 b0).set 1 b1).set 2 b2⟩
 have:=(((h.set 0 b0).1.set 1 b1).1.set 2 b2).1
 simpa using this
end Go.Proofs.YtmeimjakdheidaaGreatDoor

import Derived.Test.YtceigfafmalfgaaGreatDoorRatAll
import Derived.Test.YtceigfafmalfgaaGreatDoorLentAll
import Derived.Test.YtceigfafmalfgaaGreatDoorQAll
import Derived.Test.YtceigfafmalfgaaGreatDoorPsABll
namespace Go.Proofs.YtceigfafmalfgaaGreatDoor
open Go.RowKit
set_option maxHeartbeats 4000000 in
theorem refSameP {f g:Bool} {c c2:Option Addr} {n n2 k k2:Nat} {d d2:Option Addr} {nd nd2 kd kd2:Nat} {x y:Int} {B B' S R:Nat} (w:World) (ha:GI w B (.agg #[.bool f,.slice c n k]) x S) (La:Got w B (.slice d nd kd) y S) (hb:GI w B' (.agg #[.bool g,.slice c2 n2 k2]) x R) (Lb:Got w B' (.slice d2 nd2 kd2) y R) (hS:S≤100000000) :
  Calls Tryz.prog 12 #[.agg #[.bool f,.slice c n k,.slice d nd kd],.agg #[.bool g,.slice c2 n2 k2,.slice d2 nd2 kd2]] w fun e w'=>e = .returned (.bool true)∧Below w.heap.size w w':=by
 obtain ⟨P0,P1,hb0,hsz⟩:=box_rr w (.bool f) (.slice c n k) (.slice d nd kd) (.bool g) (.slice c2 n2 k2) (.slice d2 nd2 kd2) 27
 obtain ⟨_,_,_,e1,Ka⟩:=ha
 obtain ⟨_,_,_,e2,Kb⟩:=hb
 simp only [Value.agg.injEq,Array.mk.injEq,List.cons.injEq,Value.bool.injEq,Value.slice.injEq,and_true] at e1 e2
 obtain ⟨rfl,rfl,rfl,rfl⟩:=e1
 obtain ⟨rfl,rfl,rfl,rfl⟩:=e2
 generalize decide (x<0)=f at *
 replace Ka:=Ka.below hb0
 replace La:=La.below hb0
 replace Kb:=Kb.below hb0
 replace Lb:=Lb.below hb0
 go_enter Tryz.func12,Tryz.ntmps12
 obtain ⟨p0c0,p0c1,p0c2,p0c3,p0c4,p0c5⟩:=id P0
 obtain ⟨p1c0,p1c1,p1c2,p1c3,p1c4,p1c5⟩:=id P1
 go_wp2_with fail
 generalize (w.alloc (.cells #[.bool f,.slice c n k,.slice d nd kd] 27)).alloc (.cells #[.bool f,.slice c2 n2 k2,.slice d2 nd2 kd2] 27)=W0 at *
 refine (sameG _ Ka Kb rfl (by omega)).mono ?_
 rintro e w1 ⟨rfl,hx⟩
 clear p0c0 p0c1 p0c2 p0c3 p0c4 p0c5 p1c0 p1c1 p1c2 p1c3 p1c4 p1c5
 replace Ka:=Ka.below hx
 replace La:=La.below hx
 replace Kb:=Kb.below hx
 replace Lb:=Lb.below hx
 replace P0:=P0.below hx
 replace P1:=P1.below hx
 replace hb0:=bel_tr hb0 hx
 have hsw1:W0.heap.size≤w1.heap.size:=Below.size hx
 clear hx
 obtain ⟨p0c0,p0c1,p0c2,p0c3,p0c4,p0c5⟩:=id P0
 obtain ⟨p1c0,p1c1,p1c2,p1c3,p1c4,p1c5⟩:=id P1
 go_wp2_with fail
 refine (sameG _ La Lb rfl (by omega)).mono ?_
 rintro e w2 ⟨rfl,hx⟩
 clear p0c0 p0c1 p0c2 p0c3 p0c4 p0c5 p1c0 p1c1 p1c2 p1c3 p1c4 p1c5
 replace Ka:=Ka.below hx
 replace La:=La.below hx
 replace Kb:=Kb.below hx
 replace Lb:=Lb.below hx
 replace P0:=P0.below hx
 replace P1:=P1.below hx
 replace hb0:=bel_tr hb0 hx
 have hsw2:w1.heap.size≤w2.heap.size:=Below.size hx
 clear hx
 obtain ⟨p0c0,p0c1,p0c2,p0c3,p0c4,p0c5⟩:=id P0
 obtain ⟨p1c0,p1c1,p1c2,p1c3,p1c4,p1c5⟩:=id P1
 go_wp2_with (cases f <;> rfl)
 go_ret
 exact ⟨by simp,hb0⟩
theorem box_ir (w:World) (u0 v0 u v z:Value) (t t':TypeId):Var2 ((w.alloc (.cells #[u0,v0] t')).alloc (.cells #[u,v,z] t)) w.heap.size u0 v0∧Var3 ((w.alloc (.cells #[u0,v0] t')).alloc (.cells #[u,v,z] t)) (w.heap.size+1) u v z∧Below w.heap.size w ((w.alloc (.cells #[u0,v0] t')).alloc (.cells #[u,v,z] t))∧((w.alloc (.cells #[u0,v0] t')).alloc (.cells #[u,v,z] t)).heap.size=w.heap.size+2:=by
 have h1:=var2_new w u0 v0 t'
 have h:=var3_new (w.alloc (.cells #[u0,v0] t')) u v z t
 rw [World.size_alloc] at h
 exact ⟨h1.alloc _,h,bel_tr (bel_d0 _ _) (bel_d0 _ _),by simp⟩
theorem q_one (x:Int):((x:Rat)).num=x∧(((x:Rat)).den:Int)=1:=⟨Rat.num_intCast x,by rw [Rat.den_intCast];rfl⟩
set_option maxHeartbeats 4000000 in
theorem wholeD {p:Bool} {a:Option Addr} {na ca:Nat} {x:Int} {S:Nat} (w:World) (hX:TI w p a na ca x S) (hS:S≤7000000) (hS1:1≤S) :
  Calls Tryz.prog 27 #[.agg #[.bool p,.slice a na ca]] w fun e w'=>∃ f c n k c' n' k',e = .returned (.agg #[.bool f,.slice c n k,.slice c' n' k'])∧GR w' w.heap.size f c n k c' n' k' ((x:Rat)) (S)∧Below w.heap.size w w':=by
 obtain ⟨P0,R0,hb0,hsz⟩:=box_ir w (.bool p) (.slice a na ca) (.bool false) (.slice none 0 0) (.slice none 0 0) 27 25
 replace hX:=hX.below hb0
 go_enter Tryz.func27,Tryz.ntmps27
 go_wp2_with fail
 generalize (w.alloc (.cells #[.bool p,.slice a na ca] 25)).alloc (.cells #[.bool false,.slice none 0 0,.slice none 0 0] 27)=W0 at *
 replace hsz:=Nat.le_of_eq hsz.symm
 obtain ⟨p0c0,p0c1,p0c2,p0c3⟩:=id P0
 refine (rnormT _ hX (by omega)).mono ?_
 rintro e w1 ⟨f1,c1,n1,k1,rfl,K1,hx⟩
 replace K1:=K1.mono (B':=w.heap.size+2) hsz
 clear p0c0 p0c1 p0c2 p0c3
 replace hX:=hX.below hx
 replace P0:=P0.below hx
 replace R0:=R0.below hx
 replace hb0:=bel_tr hb0 hx
 replace hsz:=Nat.le_trans hsz (Below.size hx)
 clear hx
 clear hX
 clear P0
 have hx:=bel_d0 w1 (.cells #[.bool f1,.slice c1 n1 k1] 25)
 replace K1:=K1.below hx
 replace R0:=R0.below hx
 replace hb0:=bel_tr hb0 hx
 replace hsz:=Nat.le_trans hsz (Below.size hx)
 have Vm:=var2_new w1 (.bool f1) (.slice c1 n1 k1) 25
 clear hx
 go_wp2_with fail
 generalize w1.alloc (.cells #[.bool f1,.slice c1 n1 k1] 25)=w2 at *
 refine (oneD _).mono ?_
 rintro e w3 ⟨co,no,ko,rfl,Go,hx⟩
 have HNE:=NB.of K1.parts.2 Go (Nat.le_refl _)
 replace Go:=Go.mono (B':=w.heap.size+2) hsz
 replace K1:=K1.below hx
 replace R0:=R0.below hx
 replace Vm:=Vm.below hx
 replace hb0:=bel_tr hb0 hx
 replace hsz:=Nat.le_trans hsz (Below.size hx)
 clear hx
 obtain ⟨vmc0,vmc1,vmc2,vmc3⟩:=id Vm
 obtain ⟨q1,q2⟩:=q_one x
 clear vmc0 vmc1 vmc2 vmc3
 obtain ⟨r0c0,r0c1,r0c2,r0c3,r0c4,r0c5⟩:=id R0
 obtain ⟨V,OO⟩:=R0.set (.bool f1) (.slice c1 n1 k1) (.slice co no ko)
 have hw:=hb0.trans (OO.below (B:=w.heap.size) (by omega))
 have GF:GR _ (w.heap.size+2) f1 c1 n1 k1 co no ko (x:Rat) S:=⟨(K1.off OO (by omega)).val q1.symm,((Go.off OO (by omega)).le hS1).val q2.symm,HNE⟩
 obtain ⟨vmc0,vmc1,vmc2,vmc3⟩:=id Vm
 clear K1 Go q1 q2 Vm
 clear R0 OO hb0
 go_wp2
 refine bodyPost_ret (v:=.agg #[.bool f1,.slice c1 n1 k1,.slice co no ko]) (by simp [results,Tryz.results27,go_sem,V.c0,V.c1,V.c2]) rfl ⟨_,_,_,_,_,_,_,rfl,GF.mono (by omega),hw⟩
set_option maxHeartbeats 4000000 in
theorem ofD (v:Int) (w:World) (h0:-9223372036854775808≤v) (h1:v<9223372036854775808) :
  Calls Tryz.prog 13 #[.int .i64 v] w fun e w'=>∃ f c n k c' n' k',e = .returned (.agg #[.bool f,.slice c n k,.slice c' n' k'])∧GR w' w.heap.size f c n k c' n' k' ((v:Rat)) (1)∧Below w.heap.size w w':=by
 have R0:=var3_new w (.bool false) (.slice none 0 0) (.slice none 0 0) 27
 have hb0:=bel_d0 w (.cells #[.bool false,.slice none 0 0,.slice none 0 0] 27)
 have hsz:w.heap.size+1≤(w.alloc (.cells #[.bool false,.slice none 0 0,.slice none 0 0] 27)).heap.size:=by simp
 go_enter Tryz.func13,Tryz.ntmps13
 go_wp2_with fail
 generalize w.alloc (.cells #[.bool false,.slice none 0 0,.slice none 0 0] 27)=W0 at *
 refine (rofI v _ h0 h1).mono ?_
 rintro e w1 ⟨f1,c1,n1,k1,rfl,K1,hx⟩
 replace K1:=K1.mono (B':=w.heap.size+1) hsz
 replace R0:=R0.below hx
 replace hb0:=bel_tr hb0 hx
 replace hsz:=Nat.le_trans hsz (Below.size hx)
 clear hx
 have hx:=bel_d0 w1 (.cells #[.bool f1,.slice c1 n1 k1] 25)
 replace K1:=K1.below hx
 replace R0:=R0.below hx
 replace hb0:=bel_tr hb0 hx
 replace hsz:=Nat.le_trans hsz (Below.size hx)
 have Vm:=var2_new w1 (.bool f1) (.slice c1 n1 k1) 25
 clear hx
 obtain ⟨vmc0,vmc1,vmc2,vmc3⟩:=id Vm
 go_wp2_with fail
 generalize w1.alloc (.cells #[.bool f1,.slice c1 n1 k1] 25)=w2 at *
 refine (wholeD _ K1.ti (by omega) (by omega)).mono ?_
 rintro e w3 ⟨f5,c5,n5,k5,d5,m5,l5,rfl,G5,hx⟩
 replace G5:=G5.mono (B':=w.heap.size+1) hsz
 clear vmc0 vmc1 vmc2 vmc3
 replace K1:=K1.below hx
 replace R0:=R0.below hx
 replace Vm:=Vm.below hx
 replace hb0:=bel_tr hb0 hx
 replace hsz:=Nat.le_trans hsz (Below.size hx)
 clear hx
 clear K1
 clear Vm
 obtain ⟨r0c0,r0c1,r0c2,r0c3,r0c4,r0c5⟩:=id R0
 obtain ⟨V,OO⟩:=R0.set (.bool f5) (.slice c5 n5 k5) (.slice d5 m5 l5)
 have hw:=hb0.trans (OO.below (B:=w.heap.size) (by omega))
 have GF:=G5.off OO (by omega)
 clear G5
 clear R0 OO hb0
 go_wp2
 refine bodyPost_ret (v:=.agg #[.bool f5,.slice c5 n5 k5,.slice d5 m5 l5]) (by simp [results,Tryz.results13,go_sem,V.c0,V.c1,V.c2]) rfl ⟨_,_,_,_,_,_,_,rfl,GF.mono (by omega),hw⟩
def SP (w:World) (u v:Value):Prop:=∀ w1,Below w.heap.size w w1→Calls Tryz.prog 12 #[u,v] w1 fun e w'=>e = .returned (.bool true)∧Below w1.heap.size w1 w'
theorem SP.below {w w':World} {u v:Value} (h:SP w u v) (hb:Below w.heap.size w w'):SP w' u v:=fun w1 h1=>h w1 (bel_tr hb h1)
def CP (w:World) (u v:Value):Prop:=∀ w1,Below w.heap.size w w1→Calls Tryz.prog 38 #[u,v] w1 fun e w'=>e = .returned (.int .i64 0)∧Below w1.heap.size w1 w'
theorem CP.below {w w':World} {u v:Value} (h:CP w u v) (hb:Below w.heap.size w w'):CP w' u v:=fun w1 h1=>h w1 (bel_tr hb h1)
def BP (w:World) (u v:Value):Prop:=∀ w1,Below w.heap.size w w1→Calls Tryz.prog 20 #[u,v] w1 fun e w'=>e = .returned (.bool true)∧Below w1.heap.size w1 w'
theorem BP.below {w w':World} {u v:Value} (h:BP w u v) (hb:Below w.heap.size w w'):BP w' u v:=fun w1 h1=>h w1 (bel_tr hb h1)
def R3c (w:World) (b o b' o':Nat):Prop :=
 ∃ p a na ca d nd cd p' a' na' ca' d' nd' cd',(w.cell? ⟨b,o,none⟩=some (.bool p)∧w.cell? ⟨b,o+1,none⟩=some (.slice a na ca)∧w.cell? ⟨b,o+2,none⟩=some (.slice d nd cd))∧(w.cell? ⟨b',o',none⟩=some (.bool p')∧w.cell? ⟨b',o'+1,none⟩=some (.slice a' na' ca')∧w.cell? ⟨b',o'+2,none⟩=some (.slice d' nd' cd')) ∧
  SP w (.agg #[.bool p,.slice a na ca,.slice d nd cd]) (.agg #[.bool p',.slice a' na' ca',.slice d' nd' cd'])
theorem R3c.below {w w':World} {b o b' o':Nat} (h:R3c w b o b' o') (hb:Below w.heap.size w w'):R3c w' b o b' o':=by
 obtain ⟨p,a,na,ca,d,nd,cd,p',a',na',ca',d',nd',cd',⟨h1,h2,h3⟩,⟨h4,h5,h6⟩,h7⟩:=h
 exact ⟨p,a,na,ca,d,nd,cd,p',a',na',ca',d',nd',cd',⟨kept_c hb h1,kept_c hb h2,kept_c hb h3⟩,⟨kept_c hb h4,kept_c hb h5,kept_c hb h6⟩,h7.below hb⟩
def B4c (w:World) (b o b' o':Nat):Prop :=
 ∃ h p a na ca d nd cd p' a' na' ca' d' nd' cd',(w.cell? ⟨b,o,none⟩=some (.bool h)∧w.cell? ⟨b,o+1,none⟩=some (.bool p)∧w.cell? ⟨b,o+2,none⟩=some (.slice a na ca)∧w.cell? ⟨b,o+3,none⟩=some (.slice d nd cd))∧(w.cell? ⟨b',o',none⟩=some (.bool h)∧w.cell? ⟨b',o'+1,none⟩=some (.bool p')∧w.cell? ⟨b',o'+2,none⟩=some (.slice a' na' ca')∧w.cell? ⟨b',o'+3,none⟩=some (.slice d' nd' cd')) ∧
  BP w (.agg #[.bool h,.bool p,.slice a na ca,.slice d nd cd]) (.agg #[.bool h,.bool p',.slice a' na' ca',.slice d' nd' cd'])
theorem B4c.below {w w':World} {b o b' o':Nat} (h:B4c w b o b' o') (hb:Below w.heap.size w w'):B4c w' b o b' o':=by
 obtain ⟨h,p,a,na,ca,d,nd,cd,p',a',na',ca',d',nd',cd',⟨h0,h1,h2,h3⟩,⟨h9,h4,h5,h6⟩,h7⟩:=h
 exact ⟨h,p,a,na,ca,d,nd,cd,p',a',na',ca',d',nd',cd',⟨kept_c hb h0,kept_c hb h1,kept_c hb h2,kept_c hb h3⟩,⟨kept_c hb h9,kept_c hb h4,kept_c hb h5,kept_c hb h6⟩,h7.below hb⟩
structure VarC (w:World) (b o b' o':Nat):Prop where
 nm:∃ s,w.cell? ⟨b,o,none⟩=some (.string s)∧w.cell? ⟨b',o',none⟩=some (.string s)
 obj:R3c w b (o+1) b' (o'+1)
 lo:B4c w b (o+4) b' (o'+4)
 hi:B4c w b (o+8) b' (o'+8)
 wh:∃ s,w.cell? ⟨b,o+12,none⟩=some (.bool s)∧w.cell? ⟨b',o'+12,none⟩=some (.bool s)
theorem VarC.below {w w':World} {b o b' o':Nat} (h:VarC w b o b' o') (hb:Below w.heap.size w w'):VarC w' b o b' o':=by
 obtain ⟨⟨s,h1,h2⟩,h3,h4,h5,⟨t,h6,h7⟩⟩:=h
 exact ⟨⟨s,kept_c hb h1,kept_c hb h2⟩,h3.below hb,h4.below hb,h5.below hb,⟨t,kept_c hb h6,kept_c hb h7⟩⟩
def TermC (w:World) (b o b' o':Nat):Prop:=(∃ x:Int,w.cell? ⟨b,o,none⟩=some (.int .i64 x)∧w.cell? ⟨b',o',none⟩=some (.int .i64 x))∧R3c w b (o+1) b' (o'+1)
theorem TermC.below {w w':World} {b o b' o':Nat} (h:TermC w b o b' o') (hb:Below w.heap.size w w'):TermC w' b o b' o':=by
 obtain ⟨⟨s,h1,h2⟩,h3⟩:=h
 exact ⟨⟨s,kept_c hb h1,kept_c hb h2⟩,h3.below hb⟩
def LTC (w:World) (a a':Option Addr) (m:Nat):Prop:=m=0∨∃ b o b' o',a=some ⟨b,o,none⟩∧a'=some ⟨b',o',none⟩∧∀ i,i<m→TermC w b (o+i*4) b' (o'+i*4)
theorem LTC.below {w w':World} {a a':Option Addr} {m:Nat} (h:LTC w a a' m) (hb:Below w.heap.size w w'):LTC w' a a' m:=by
 rcases h with h|⟨b,o,b',o',e,e',h⟩
 ·exact .inl h
 ·exact .inr ⟨b,o,b',o',e,e',fun i hi=>(h i hi).below hb⟩
structure RowC (w:World) (b o b' o':Nat):Prop where
 nm:∃ s,w.cell? ⟨b,o,none⟩=some (.string s)∧w.cell? ⟨b',o',none⟩=some (.string s)
 t:∃ a c a' c' m,w.cell? ⟨b,o+1,none⟩=some (.slice a m c)∧w.cell? ⟨b',o'+1,none⟩=some (.slice a' m c')∧LTC w a a' m∧m≤1048576
 lo:B4c w b (o+2) b' (o'+2)
 hi:B4c w b (o+6) b' (o'+6)
theorem RowC.below {w w':World} {b o b' o':Nat} (h:RowC w b o b' o') (hb:Below w.heap.size w w'):RowC w' b o b' o':=by
 obtain ⟨⟨s,h1,h2⟩,⟨a,c,a',c',m,h3,h4,h5,h6⟩,h7,h8⟩:=h
 exact ⟨⟨s,kept_c hb h1,kept_c hb h2⟩,⟨a,c,a',c',m,kept_c hb h3,kept_c hb h4,h5.below hb,h6⟩,h7.below hb,h8.below hb⟩
structure SamP (w:World) (P Q:Prob):Prop where
 mx:Q.mx=P.mx
 nm:Q.nm=P.nm
 vn:Q.vn=P.vn
 rn:Q.rn=P.rn
 vs:P.vn≤1048576
 rs:P.rn≤1048576
 k:SP w (.agg #[.bool P.p,.slice P.a P.na P.ca,.slice P.d P.nd P.cd]) (.agg #[.bool Q.p,.slice Q.a Q.na Q.ca,.slice Q.d Q.nd Q.cd])
 v:P.vn=0∨∃ b o b' o',P.va=some ⟨b,o,none⟩∧Q.va=some ⟨b',o',none⟩∧∀ i,i<P.vn→VarC w b (o+i*13) b' (o'+i*13)
 r:P.rn=0∨∃ b o b' o',P.ra=some ⟨b,o,none⟩∧Q.ra=some ⟨b',o',none⟩∧∀ i,i<P.rn→RowC w b (o+i*10) b' (o'+i*10)
theorem boxc2 (w:World) (c0:Array Value) (t0:TypeId) (c1:Array Value) (t1:TypeId):let W:=(w.alloc (.cells c0 t0)).alloc (.cells c1 t1);BoxC W w.heap.size c0.toList∧BoxC W (w.heap.size+1) c1.toList∧Below w.heap.size w W∧W.heap.size=w.heap.size+2:=by
 have e1:(w.alloc (.cells c0 t0)).heap.size=w.heap.size+1:=by simp
 have P1:=box_new (w.alloc (.cells c0 t0)) c1 t1
 rw [e1] at P1
 exact ⟨(box_new w c0 t0).below (bel_d0 _ _),P1,bel_a (bel_d0 _ _),by simp⟩
set_option maxHeartbeats 2000000 in
theorem bp_of {w:World} {h:Bool} {p:Bool} {a:Option Addr} {na ca:Nat} {d:Option Addr} {nd cd:Nat} {p':Bool} {a':Option Addr} {na' ca':Nat} {d':Option Addr} {nd' cd':Nat} (hs:SP w (.agg #[.bool p,.slice a na ca,.slice d nd cd]) (.agg #[.bool p',.slice a' na' ca',.slice d' nd' cd'])) (hc:h=false→CP w (.agg #[.bool p,.slice a na ca,.slice d nd cd]) (.agg #[.bool p',.slice a' na' ca',.slice d' nd' cd'])):BP w (.agg #[.bool h,.bool p,.slice a na ca,.slice d nd cd]) (.agg #[.bool h,.bool p',.slice a' na' ca',.slice d' nd' cd']):=by
 intro w0 h0
 replace hs:=hs.below h0
 replace hc:=fun e=>(hc e).below h0
 obtain ⟨P0,P1,hb,hz⟩:=boxc2 w0 #[.bool h,.bool p,.slice a na ca,.slice d nd cd] 49 #[.bool h,.bool p',.slice a' na' ca',.slice d' nd' cd'] 49
 have a0:=P0 0 _ rfl
 have a1:=P0 1 _ rfl
 have a2:=P0 2 _ rfl
 have a3:=P0 3 _ rfl
 have b0:=P1 0 _ rfl
 have b1:=P1 1 _ rfl
 have b2:=P1 2 _ rfl
 have b3:=P1 3 _ rfl
 clear P0 P1 h0
 go_enter Tryz.func20,Tryz.ntmps20
 cases h
 ·go_wp2_with fail
  generalize (w0.alloc (.cells #[.bool false,.bool p,.slice a na ca,.slice d nd cd] 49)).alloc (.cells #[.bool false,.bool p',.slice a' na' ca',.slice d' nd' cd'] 49)=W at *
  refine (hs W hb).mono ?_
  rintro e w1 ⟨rfl,h1⟩
  have hb1:=bel_tr hb h1
  replace a0:=kept_c h1 a0
  replace a1:=kept_c h1 a1
  replace a2:=kept_c h1 a2
  replace a3:=kept_c h1 a3
  replace b0:=kept_c h1 b0
  replace b1:=kept_c h1 b1
  replace b2:=kept_c h1 b2
  replace b3:=kept_c h1 b3
  go_wp2_with fail
  refine (hc trivial w1 hb1).mono ?_
  rintro e w2 ⟨rfl,h2⟩
  replace hb1:=bel_tr hb1 h2
  replace a0:=kept_c h2 a0
  replace b0:=kept_c h2 b0
  go_wp2
  go_ret
  exact ⟨rfl,hb1⟩
 ·go_wp2_with fail
  generalize (w0.alloc (.cells #[.bool true,.bool p,.slice a na ca,.slice d nd cd] 49)).alloc (.cells #[.bool true,.bool p',.slice a' na' ca',.slice d' nd' cd'] 49)=W at *
  refine (hs W hb).mono ?_
  rintro e w1 ⟨rfl,h1⟩
  have hb1:=bel_tr hb h1
  replace a0:=kept_c h1 a0
  replace a1:=kept_c h1 a1
  replace a2:=kept_c h1 a2
  replace a3:=kept_c h1 a3
  replace b0:=kept_c h1 b0
  replace b1:=kept_c h1 b1
  replace b2:=kept_c h1 b2
  replace b3:=kept_c h1 b3
  go_wp2
  go_ret
  exact ⟨rfl,hb1⟩
end Go.Proofs.YtceigfafmalfgaaGreatDoor

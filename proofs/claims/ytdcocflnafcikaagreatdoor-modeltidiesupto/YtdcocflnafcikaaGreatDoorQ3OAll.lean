import Derived.Test.YtdcocflnafcikaaGreatDoorRatAll
import Derived.Test.YtdcocflnafcikaaGreatDoorLentAll
import Derived.Test.YtdcocflnafcikaaGreatDoorQAll
import Derived.Test.YtdcocflnafcikaaGreatDoorPqFAll
set_option maxHeartbeats 4000000
namespace Go.Proofs.YtdcocflnafcikaaGreatDoor
open Go.RowKit
theorem wX {f g:Bool} {c c2:Option Addr} {n n2 k k2:Nat} {d d2:Option Addr} {nd nd2 kd kd2:Nat} {x y:Int} {B B' S R:Nat} (w:World) (ha:GI w B (.agg #[.bool f,.slice c n k]) x S) (La:Got w B (.slice d nd kd) y S) (hb:GI w B' (.agg #[.bool g,.slice c2 n2 k2]) x R) (Lb:Got w B' (.slice d2 nd2 kd2) y R) (hS:S≤100000000) :
 Calls Tryz.prog 17 #[.agg #[.bool f,.slice c n k,.slice d nd kd],.agg #[.bool g,.slice c2 n2 k2,.slice d2 nd2 kd2]] w fun e w'=>e = .returned (.bool true)∧Below w.heap.size w w':=by
 obtain ⟨P0,P1,hb0,hsz⟩:=kV w (.bool f) (.slice c n k) (.slice d nd kd) (.bool g) (.slice c2 n2 k2) (.slice d2 nd2 kd2) 27
 obtain ⟨_,_,_,e1,Ka⟩:=ha
 obtain ⟨_,_,_,e2,Kb⟩:=hb
 simp only [Value.agg.injEq,Array.mk.injEq,List.cons.injEq,Value.bool.injEq,Value.slice.injEq,and_true] at e1 e2
 obtain ⟨rfl,rfl,rfl,rfl⟩:=e1
 obtain ⟨rfl,rfl,rfl,rfl⟩:=e2
 generalize decide (x<0)=f at *
 replace Ka:=Ka.below hb0
 replace La:=La.below hb0
 replace Kb:=Kb.below hb0
 replace Lb:=Lb.below hb0
 go_enter Tryz.func17,Tryz.ntmps17
 obtain ⟨p0c0,p0c1,p0c2,p0c3,p0c4,p0c5⟩:=id P0
 obtain ⟨p1c0,p1c1,p1c2,p1c3,p1c4,p1c5⟩:=id P1
 go_wp2_with fail
 generalize (w.alloc (.cells #[.bool f,.slice c n k,.slice d nd kd] 27)).alloc (.cells #[.bool f,.slice c2 n2 k2,.slice d2 nd2 kd2] 27)=W0 at *
 refine (sameG _ Ka Kb rfl (by omega)).mono ?_
 rintro e w1 ⟨rfl,hx⟩
 clear p0c0 p0c1 p0c2 p0c3 p0c4 p0c5 p1c0 p1c1 p1c2 p1c3 p1c4 p1c5
 replace Ka:=Ka.below hx
 replace La:=La.below hx
 replace Kb:=Kb.below hx
 replace Lb:=Lb.below hx
 replace P0:=P0.below hx
 replace P1:=P1.below hx
 replace hb0:=aF hb0 hx
 have hsw1:W0.heap.size≤w1.heap.size:=Below.size hx
 clear hx
 obtain ⟨p0c0,p0c1,p0c2,p0c3,p0c4,p0c5⟩:=id P0
 obtain ⟨p1c0,p1c1,p1c2,p1c3,p1c4,p1c5⟩:=id P1
 go_wp2_with fail
 refine (sameG _ La Lb rfl (by omega)).mono ?_
 rintro e w2 ⟨rfl,hx⟩
 clear p0c0 p0c1 p0c2 p0c3 p0c4 p0c5 p1c0 p1c1 p1c2 p1c3 p1c4 p1c5
 replace Ka:=Ka.below hx
 replace La:=La.below hx
 replace Kb:=Kb.below hx
 replace Lb:=Lb.below hx
 replace P0:=P0.below hx
 replace P1:=P1.below hx
 replace hb0:=aF hb0 hx
 have hsw2:w1.heap.size≤w2.heap.size:=Below.size hx
 clear hx
 obtain ⟨p0c0,p0c1,p0c2,p0c3,p0c4,p0c5⟩:=id P0
 obtain ⟨p1c0,p1c1,p1c2,p1c3,p1c4,p1c5⟩:=id P1
 go_wp2_with (cases f <;> rfl)
 go_ret
 exact ⟨by simp,hb0⟩
theorem box_ir (w:World) (u0 v0 u v z:Value) (t t':TypeId):Var2 ((w.alloc (.cells #[u0,v0] t')).alloc (.cells #[u,v,z] t)) w.heap.size u0 v0∧Var3 ((w.alloc (.cells #[u0,v0] t')).alloc (.cells #[u,v,z] t)) (w.heap.size+1) u v z∧Below w.heap.size w ((w.alloc (.cells #[u0,v0] t')).alloc (.cells #[u,v,z] t))∧((w.alloc (.cells #[u0,v0] t')).alloc (.cells #[u,v,z] t)).heap.size=w.heap.size+2:=by
 have h1:=bZ w u0 v0 t'
 have h:=bF (w.alloc (.cells #[u0,v0] t')) u v z t
 rw [World.size_alloc] at h
 exact ⟨h1.alloc _,h,aF (aG _ _) (aG _ _),by simp⟩
theorem q_one (x:Int):((x:Rat)).num=x∧(((x:Rat)).den:Int)=1:=⟨Rat.num_intCast x,by rw [Rat.den_intCast];rfl⟩
theorem wholeD {p:Bool} {a:Option Addr} {na ca:Nat} {x:Int} {S:Nat} (w:World) (hX:TI w p a na ca x S) (hS:S≤7000000) (hS1:1≤S) :
 Calls Tryz.prog 59 #[.agg #[.bool p,.slice a na ca]] w fun e w'=>∃ f c n k c' n' k',e = .returned (.agg #[.bool f,.slice c n k,.slice c' n' k'])∧GR w' w.heap.size f c n k c' n' k' ((x:Rat)) (S)∧Below w.heap.size w w':=by
 obtain ⟨P0,R0,hb0,hsz⟩:=box_ir w (.bool p) (.slice a na ca) (.bool false) (.slice none 0 0) (.slice none 0 0) 27 25
 replace hX:=hX.below hb0
 go_enter Tryz.func59,Tryz.ntmps59
 go_wp2_with fail
 generalize (w.alloc (.cells #[.bool p,.slice a na ca] 25)).alloc (.cells #[.bool false,.slice none 0 0,.slice none 0 0] 27)=W0 at *
 replace hsz:=Nat.le_of_eq hsz.symm
 obtain ⟨p0c0,p0c1,p0c2,p0c3⟩:=id P0
 refine (rnormT _ hX (by omega)).mono ?_
 rintro e w1 ⟨f1,c1,n1,k1,rfl,K1,hx⟩
 replace K1:=K1.mono (B':=w.heap.size+2) hsz
 clear p0c0 p0c1 p0c2 p0c3
 replace hX:=hX.below hx
 replace P0:=P0.below hx
 replace R0:=R0.below hx
 replace hb0:=aF hb0 hx
 replace hsz:=Nat.le_trans hsz (Below.size hx)
 clear hx
 clear hX
 clear P0
 have hx:=aG w1 (.cells #[.bool f1,.slice c1 n1 k1] 25)
 replace K1:=K1.below hx
 replace R0:=R0.below hx
 replace hb0:=aF hb0 hx
 replace hsz:=Nat.le_trans hsz (Below.size hx)
 have Vm:=bZ w1 (.bool f1) (.slice c1 n1 k1) 25
 clear hx
 go_wp2_with fail
 generalize w1.alloc (.cells #[.bool f1,.slice c1 n1 k1] 25)=w2 at *
 refine (oneD _).mono ?_
 rintro e w3 ⟨co,no,ko,rfl,Go,hx⟩
 have HNE:=NB.of K1.parts.2 Go (Nat.le_refl _)
 replace Go:=Go.mono (B':=w.heap.size+2) hsz
 replace K1:=K1.below hx
 replace R0:=R0.below hx
 replace Vm:=Vm.below hx
 replace hb0:=aF hb0 hx
 replace hsz:=Nat.le_trans hsz (Below.size hx)
 clear hx
 obtain ⟨vmc0,vmc1,vmc2,vmc3⟩:=id Vm
 obtain ⟨q1,q2⟩:=q_one x
 clear vmc0 vmc1 vmc2 vmc3
 obtain ⟨r0c0,r0c1,r0c2,r0c3,r0c4,r0c5⟩:=id R0
 obtain ⟨V,OO⟩:=R0.set (.bool f1) (.slice c1 n1 k1) (.slice co no ko)
 have hw:=hb0.trans (OO.below (B:=w.heap.size) (by omega))
 have GF:GR _ (w.heap.size+2) f1 c1 n1 k1 co no ko (x:Rat) S:=⟨(K1.off OO (by omega)).val q1.symm,((Go.off OO (by omega)).le hS1).val q2.symm,HNE⟩
 obtain ⟨vmc0,vmc1,vmc2,vmc3⟩:=id Vm
 clear K1 Go q1 q2 Vm
 clear R0 OO hb0
 go_wp2
 refine bodyPost_ret (v:=.agg #[.bool f1,.slice c1 n1 k1,.slice co no ko]) (by simp [results,Tryz.results59,go_sem,V.c0,V.c1,V.c2]) rfl ⟨_,_,_,_,_,_,_,rfl,GF.mono (by omega),hw⟩
theorem ofD (v:Int) (w:World) (h0:-9223372036854775808≤v) (h1:v<9223372036854775808) :
 Calls Tryz.prog 26 #[.int .i64 v] w fun e w'=>∃ f c n k c' n' k',e = .returned (.agg #[.bool f,.slice c n k,.slice c' n' k'])∧GR w' w.heap.size f c n k c' n' k' ((v:Rat)) (1)∧Below w.heap.size w w':=by
 have R0:=bF w (.bool false) (.slice none 0 0) (.slice none 0 0) 27
 have hb0:=aG w (.cells #[.bool false,.slice none 0 0,.slice none 0 0] 27)
 have hsz:w.heap.size+1≤(w.alloc (.cells #[.bool false,.slice none 0 0,.slice none 0 0] 27)).heap.size:=by simp
 go_enter Tryz.func26,Tryz.ntmps26
 go_wp2_with fail
 generalize w.alloc (.cells #[.bool false,.slice none 0 0,.slice none 0 0] 27)=W0 at *
 refine (rofI v _ h0 h1).mono ?_
 rintro e w1 ⟨f1,c1,n1,k1,rfl,K1,hx⟩
 replace K1:=K1.mono (B':=w.heap.size+1) hsz
 replace R0:=R0.below hx
 replace hb0:=aF hb0 hx
 replace hsz:=Nat.le_trans hsz (Below.size hx)
 clear hx
 have hx:=aG w1 (.cells #[.bool f1,.slice c1 n1 k1] 25)
 replace K1:=K1.below hx
 replace R0:=R0.below hx
 replace hb0:=aF hb0 hx
 replace hsz:=Nat.le_trans hsz (Below.size hx)
 have Vm:=bZ w1 (.bool f1) (.slice c1 n1 k1) 25
 clear hx
 obtain ⟨vmc0,vmc1,vmc2,vmc3⟩:=id Vm
 go_wp2_with fail
 generalize w1.alloc (.cells #[.bool f1,.slice c1 n1 k1] 25)=w2 at *
 refine (wholeD _ K1.ti (by omega) (by omega)).mono ?_
 rintro e w3 ⟨f5,c5,n5,k5,d5,m5,l5,rfl,G5,hx⟩
 replace G5:=G5.mono (B':=w.heap.size+1) hsz
 clear vmc0 vmc1 vmc2 vmc3
 replace K1:=K1.below hx
 replace R0:=R0.below hx
 replace Vm:=Vm.below hx
 replace hb0:=aF hb0 hx
 replace hsz:=Nat.le_trans hsz (Below.size hx)
 clear hx
 clear K1
 clear Vm
 obtain ⟨r0c0,r0c1,r0c2,r0c3,r0c4,r0c5⟩:=id R0
 obtain ⟨V,OO⟩:=R0.set (.bool f5) (.slice c5 n5 k5) (.slice d5 m5 l5)
 have hw:=hb0.trans (OO.below (B:=w.heap.size) (by omega))
 have GF:=G5.off OO (by omega)
 clear G5
 clear R0 OO hb0
 go_wp2
 refine bodyPost_ret (v:=.agg #[.bool f5,.slice c5 n5 k5,.slice d5 m5 l5]) (by simp [results,Tryz.results26,go_sem,V.c0,V.c1,V.c2]) rfl ⟨_,_,_,_,_,_,_,rfl,GF.mono (by omega),hw⟩
def SP (w:World) (u v:Value):Prop:=∀ w1,Below w.heap.size w w1→Calls Tryz.prog 17 #[u,v] w1 fun e w'=>e = .returned (.bool true)∧Below w1.heap.size w1 w'
theorem SP.below {w w':World} {u v:Value} (h:SP w u v) (hb:Below w.heap.size w w'):SP w' u v:=fun w1 h1=>h w1 (aF hb h1)
def CP (w:World) (u v:Value):Prop:=∀ w1,Below w.heap.size w w1→Calls Tryz.prog 74 #[u,v] w1 fun e w'=>e = .returned (.int .i64 0)∧Below w1.heap.size w1 w'
theorem CP.below {w w':World} {u v:Value} (h:CP w u v) (hb:Below w.heap.size w w'):CP w' u v:=fun w1 h1=>h w1 (aF hb h1)
def BP (w:World) (u v:Value):Prop:=∀ w1,Below w.heap.size w w1→Calls Tryz.prog 37 #[u,v] w1 fun e w'=>e = .returned (.bool true)∧Below w1.heap.size w1 w'
theorem BP.below {w w':World} {u v:Value} (h:BP w u v) (hb:Below w.heap.size w w'):BP w' u v:=fun w1 h1=>h w1 (aF hb h1)
def R3c (w:World) (b o b' o':Nat):Prop :=
 ∃ p a na ca d nd cd p' a' na' ca' d' nd' cd',(w.cell? ⟨b,o,none⟩=some (.bool p)∧w.cell? ⟨b,o+1,none⟩=some (.slice a na ca)∧w.cell? ⟨b,o+2,none⟩=some (.slice d nd cd))∧(w.cell? ⟨b',o',none⟩=some (.bool p')∧w.cell? ⟨b',o'+1,none⟩=some (.slice a' na' ca')∧w.cell? ⟨b',o'+2,none⟩=some (.slice d' nd' cd')) ∧
  SP w (.agg #[.bool p,.slice a na ca,.slice d nd cd]) (.agg #[.bool p',.slice a' na' ca',.slice d' nd' cd'])
theorem R3c.below {w w':World} {b o b' o':Nat} (h:R3c w b o b' o') (hb:Below w.heap.size w w'):R3c w' b o b' o':=by
 obtain ⟨p,a,na,ca,d,nd,cd,p',a',na',ca',d',nd',cd',⟨h1,h2,h3⟩,⟨h4,h5,h6⟩,h7⟩:=h
 exact ⟨p,a,na,ca,d,nd,cd,p',a',na',ca',d',nd',cd',⟨aB hb h1,aB hb h2,aB hb h3⟩,⟨aB hb h4,aB hb h5,aB hb h6⟩,h7.below hb⟩
def B4c (w:World) (b o b' o':Nat):Prop :=
 ∃ h p a na ca d nd cd p' a' na' ca' d' nd' cd',(w.cell? ⟨b,o,none⟩=some (.bool h)∧w.cell? ⟨b,o+1,none⟩=some (.bool p)∧w.cell? ⟨b,o+2,none⟩=some (.slice a na ca)∧w.cell? ⟨b,o+3,none⟩=some (.slice d nd cd))∧(w.cell? ⟨b',o',none⟩=some (.bool h)∧w.cell? ⟨b',o'+1,none⟩=some (.bool p')∧w.cell? ⟨b',o'+2,none⟩=some (.slice a' na' ca')∧w.cell? ⟨b',o'+3,none⟩=some (.slice d' nd' cd')) ∧
  BP w (.agg #[.bool h,.bool p,.slice a na ca,.slice d nd cd]) (.agg #[.bool h,.bool p',.slice a' na' ca',.slice d' nd' cd'])
theorem B4c.below {w w':World} {b o b' o':Nat} (h:B4c w b o b' o') (hb:Below w.heap.size w w'):B4c w' b o b' o':=by
 obtain ⟨h,p,a,na,ca,d,nd,cd,p',a',na',ca',d',nd',cd',⟨h0,h1,h2,h3⟩,⟨h9,h4,h5,h6⟩,h7⟩:=h
 exact ⟨h,p,a,na,ca,d,nd,cd,p',a',na',ca',d',nd',cd',⟨aB hb h0,aB hb h1,aB hb h2,aB hb h3⟩,⟨aB hb h9,aB hb h4,aB hb h5,aB hb h6⟩,h7.below hb⟩
structure VarC (w:World) (b o b' o':Nat):Prop where
 nm:∃ s,w.cell? ⟨b,o,none⟩=some (.string s)∧w.cell? ⟨b',o',none⟩=some (.string s)
 obj:R3c w b (o+1) b' (o'+1)
 lo:B4c w b (o+4) b' (o'+4)
 hi:B4c w b (o+8) b' (o'+8)
 wh:∃ s,w.cell? ⟨b,o+12,none⟩=some (.bool s)∧w.cell? ⟨b',o'+12,none⟩=some (.bool s)
theorem VarC.below {w w':World} {b o b' o':Nat} (h:VarC w b o b' o') (hb:Below w.heap.size w w'):VarC w' b o b' o':=by
 obtain ⟨⟨s,h1,h2⟩,h3,h4,h5,⟨t,h6,h7⟩⟩:=h
 exact ⟨⟨s,aB hb h1,aB hb h2⟩,h3.below hb,h4.below hb,h5.below hb,⟨t,aB hb h6,aB hb h7⟩⟩
def TermC (w:World) (b o b' o':Nat):Prop:=(∃ x:Int,w.cell? ⟨b,o,none⟩=some (.int .i64 x)∧w.cell? ⟨b',o',none⟩=some (.int .i64 x))∧R3c w b (o+1) b' (o'+1)
theorem TermC.below {w w':World} {b o b' o':Nat} (h:TermC w b o b' o') (hb:Below w.heap.size w w'):TermC w' b o b' o':=by
 obtain ⟨⟨s,h1,h2⟩,h3⟩:=h
 exact ⟨⟨s,aB hb h1,aB hb h2⟩,h3.below hb⟩
def LTC (w:World) (a a':Option Addr) (m:Nat):Prop:=m=0∨∃ b o b' o',a=some ⟨b,o,none⟩∧a'=some ⟨b',o',none⟩∧∀ i,i<m→TermC w b (o+i*4) b' (o'+i*4)
theorem LTC.below {w w':World} {a a':Option Addr} {m:Nat} (h:LTC w a a' m) (hb:Below w.heap.size w w'):LTC w' a a' m:=by
 rcases h with h|⟨b,o,b',o',e,e',h⟩
 ·exact .inl h
 ·exact .inr ⟨b,o,b',o',e,e',fun i hi=>(h i hi).below hb⟩
structure RowC (w:World) (b o b' o':Nat):Prop where
 nm:∃ s,w.cell? ⟨b,o,none⟩=some (.string s)∧w.cell? ⟨b',o',none⟩=some (.string s)
 t:∃ a c a' c' m,w.cell? ⟨b,o+1,none⟩=some (.slice a m c)∧w.cell? ⟨b',o'+1,none⟩=some (.slice a' m c')∧LTC w a a' m∧m≤1048576
 lo:B4c w b (o+2) b' (o'+2)
 hi:B4c w b (o+6) b' (o'+6)
theorem RowC.below {w w':World} {b o b' o':Nat} (h:RowC w b o b' o') (hb:Below w.heap.size w w'):RowC w' b o b' o':=by
 obtain ⟨⟨s,h1,h2⟩,⟨a,c,a',c',m,h3,h4,h5,h6⟩,h7,h8⟩:=h
 exact ⟨⟨s,aB hb h1,aB hb h2⟩,⟨a,c,a',c',m,aB hb h3,aB hb h4,h5.below hb,h6⟩,h7.below hb,h8.below hb⟩
structure SamP (w:World) (P Q:Prob):Prop where
 mx:Q.mx=P.mx
 nm:Q.nm=P.nm
 vn:Q.vn=P.vn
 rn:Q.rn=P.rn
 vs:P.vn≤1048576
 rs:P.rn≤1048576
 k:SP w (.agg #[.bool P.p,.slice P.a P.na P.ca,.slice P.d P.nd P.cd]) (.agg #[.bool Q.p,.slice Q.a Q.na Q.ca,.slice Q.d Q.nd Q.cd])
 v:P.vn=0∨∃ b o b' o',P.va=some ⟨b,o,none⟩∧Q.va=some ⟨b',o',none⟩∧∀ i,i<P.vn→VarC w b (o+i*13) b' (o'+i*13)
 r:P.rn=0∨∃ b o b' o',P.ra=some ⟨b,o,none⟩∧Q.ra=some ⟨b',o',none⟩∧∀ i,i<P.rn→RowC w b (o+i*10) b' (o'+i*10)
theorem boxc2 (w:World) (c0:Array Value) (t0:TypeId) (c1:Array Value) (t1:TypeId):let W:=(w.alloc (.cells c0 t0)).alloc (.cells c1 t1);BoxC W w.heap.size c0.toList∧BoxC W (w.heap.size+1) c1.toList∧Below w.heap.size w W∧W.heap.size=w.heap.size+2:=by
 have e1:(w.alloc (.cells c0 t0)).heap.size=w.heap.size+1:=by simp
 have P1:=aN (w.alloc (.cells c0 t0)) c1 t1
 rw [e1] at P1
 exact ⟨(aN w c0 t0).below (aG _ _),P1,eG (aG _ _),by simp⟩
theorem bp_of {w:World} {h:Bool} {p:Bool} {a:Option Addr} {na ca:Nat} {d:Option Addr} {nd cd:Nat} {p':Bool} {a':Option Addr} {na' ca':Nat} {d':Option Addr} {nd' cd':Nat} (hs:SP w (.agg #[.bool p,.slice a na ca,.slice d nd cd]) (.agg #[.bool p',.slice a' na' ca',.slice d' nd' cd'])) (hc:h=false→CP w (.agg #[.bool p,.slice a na ca,.slice d nd cd]) (.agg #[.bool p',.slice a' na' ca',.slice d' nd' cd'])):BP w (.agg #[.bool h,.bool p,.slice a na ca,.slice d nd cd]) (.agg #[.bool h,.bool p',.slice a' na' ca',.slice d' nd' cd']):=by
 intro w0 h0
 replace hs:=hs.below h0
 replace hc:=fun e=>(hc e).below h0
 obtain ⟨P0,P1,hb,hz⟩:=boxc2 w0 #[.bool h,.bool p,.slice a na ca,.slice d nd cd] 55 #[.bool h,.bool p',.slice a' na' ca',.slice d' nd' cd'] 55
 have a0:=P0 0 _ rfl
 have a1:=P0 1 _ rfl
 have a2:=P0 2 _ rfl
 have a3:=P0 3 _ rfl
 have b0:=P1 0 _ rfl
 have b1:=P1 1 _ rfl
 have b2:=P1 2 _ rfl
 have b3:=P1 3 _ rfl
 clear P0 P1 h0
 go_enter Tryz.func37,Tryz.ntmps37
 cases h
 ·go_wp2_with fail
  generalize (w0.alloc (.cells #[.bool false,.bool p,.slice a na ca,.slice d nd cd] 55)).alloc (.cells #[.bool false,.bool p',.slice a' na' ca',.slice d' nd' cd'] 55)=W at *
  refine (hs W hb).mono ?_
  rintro e w1 ⟨rfl,h1⟩
  have hb1:=aF hb h1
  replace a0:=aB h1 a0
  replace a1:=aB h1 a1
  replace a2:=aB h1 a2
  replace a3:=aB h1 a3
  replace b0:=aB h1 b0
  replace b1:=aB h1 b1
  replace b2:=aB h1 b2
  replace b3:=aB h1 b3
  go_wp2_with fail
  refine (hc trivial w1 hb1).mono ?_
  rintro e w2 ⟨rfl,h2⟩
  replace hb1:=aF hb1 h2
  replace a0:=aB h2 a0
  replace b0:=aB h2 b0
  go_wp2
  go_ret
  exact ⟨rfl,hb1⟩
 ·go_wp2_with fail
  generalize (w0.alloc (.cells #[.bool true,.bool p,.slice a na ca,.slice d nd cd] 55)).alloc (.cells #[.bool true,.bool p',.slice a' na' ca',.slice d' nd' cd'] 55)=W at *
  refine (hs W hb).mono ?_
  rintro e w1 ⟨rfl,h1⟩
  have hb1:=aF hb h1
  replace a0:=aB h1 a0
  replace a1:=aB h1 a1
  replace a2:=aB h1 a2
  replace a3:=aB h1 a3
  replace b0:=aB h1 b0
  replace b1:=aB h1 b1
  replace b2:=aB h1 b2
  replace b3:=aB h1 b3
  go_wp2
  go_ret
  exact ⟨rfl,hb1⟩
theorem sp_gr {w:World} {B:Nat} {f:Bool} {c:Option Addr} {n k:Nat} {d:Option Addr} {nd kd:Nat} {r:Rat} {S:Nat} {B':Nat} {g:Bool} {c2:Option Addr} {n2 k2:Nat} {d2:Option Addr} {nd2 kd2:Nat} {s:Rat} {R:Nat} (ha:GR w B f c n k d nd kd r S) (hb:GR w B' g c2 n2 k2 d2 nd2 kd2 s R) (e:s=r) (hS:S≤100000000) :
 SP w (.agg #[.bool f,.slice c n k,.slice d nd kd]) (.agg #[.bool g,.slice c2 n2 k2,.slice d2 nd2 kd2]):=by
 subst e
 exact fun w1 h1=>wX w1 (ha.1.below h1) (ha.2.below h1) (hb.1.below h1) (hb.2.below h1) hS
theorem cp_gr {w:World} {B:Nat} {f:Bool} {c:Option Addr} {n k:Nat} {d:Option Addr} {nd kd:Nat} {r:Rat} {S:Nat} {B':Nat} {g:Bool} {c2:Option Addr} {n2 k2:Nat} {d2:Option Addr} {nd2 kd2:Nat} {s:Rat} {R:Nat} (ha:GR w B f c n k d nd kd r S) (hb:GR w B' g c2 n2 k2 d2 nd2 kd2 s R) (e:s=r) (hS:1≤S∧S≤1048576) (hR:1≤R∧R≤1048576) :
 CP w (.agg #[.bool f,.slice c n k,.slice d nd kd]) (.agg #[.bool g,.slice c2 n2 k2,.slice d2 nd2 kd2]):=by
 subst e
 exact fun w1 h1=>cmpD 0 w1 (ha.tr.below h1) (hb.tr.below h1) (by omega) hS.1 hR.1 (zX rfl)
theorem b4_gr {w:World} {B:Nat} {h f:Bool} {c:Option Addr} {n k:Nat} {d:Option Addr} {nd kd:Nat} {r:Rat} {S:Nat} {B':Nat} {h' g:Bool} {c2:Option Addr} {n2 k2:Nat} {d2:Option Addr} {nd2 kd2:Nat} {s:Rat} {R:Nat} {b o b' o':Nat} (ha:GR w B f c n k d nd kd r S) (hb:GR w B' g c2 n2 k2 d2 nd2 kd2 s R) (e:s=r) (eh:h'=h) (hS:1≤S∧S≤1048576) (hR:1≤R∧R≤1048576)
 (c0:w.cell? ⟨b,o,none⟩=some (.bool h)) (c1:w.cell? ⟨b,o+1,none⟩=some (.bool f)) (c3:w.cell? ⟨b,o+2,none⟩=some (.slice c n k)) (c4:w.cell? ⟨b,o+3,none⟩=some (.slice d nd kd)) (x0:w.cell? ⟨b',o',none⟩=some (.bool h')) (x1:w.cell? ⟨b',o'+1,none⟩=some (.bool g)) (x3:w.cell? ⟨b',o'+2,none⟩=some (.slice c2 n2 k2)) (x4:w.cell? ⟨b',o'+3,none⟩=some (.slice d2 nd2 kd2)):B4c w b o b' o':=by
 subst eh
 exact ⟨_,_,_,_,_,_,_,_,_,_,_,_,_,_,_,⟨c0,c1,c3,c4⟩,⟨x0,x1,x3,x4⟩,bp_of (sp_gr ha hb e (by omega)) (fun _=>cp_gr ha hb e hS hR)⟩
theorem r3_gr {w:World} {B:Nat} {f:Bool} {c:Option Addr} {n k:Nat} {d:Option Addr} {nd kd:Nat} {r:Rat} {S:Nat} {B':Nat} {g:Bool} {c2:Option Addr} {n2 k2:Nat} {d2:Option Addr} {nd2 kd2:Nat} {s:Rat} {R:Nat} {b o b' o':Nat} (ha:GR w B f c n k d nd kd r S) (hb:GR w B' g c2 n2 k2 d2 nd2 kd2 s R) (e:s=r) (hS:S≤1048576)
 (c1:w.cell? ⟨b,o,none⟩=some (.bool f)) (c3:w.cell? ⟨b,o+1,none⟩=some (.slice c n k)) (c4:w.cell? ⟨b,o+2,none⟩=some (.slice d nd kd)) (x1:w.cell? ⟨b',o',none⟩=some (.bool g)) (x3:w.cell? ⟨b',o'+1,none⟩=some (.slice c2 n2 k2)) (x4:w.cell? ⟨b',o'+2,none⟩=some (.slice d2 nd2 kd2)):R3c w b o b' o' :=
 ⟨_,_,_,_,_,_,_,_,_,_,_,_,_,_,⟨c1,c3,c4⟩,⟨x1,x3,x4⟩,sp_gr ha hb e (by omega)⟩
theorem VC.pair {w:World} {B:Nat} {cs:List Value} {v:PV} {Y:Nat} (h:VC w B cs v Y) {B':Nat} {cs':List Value} {v':PV} (h':VC w B' cs' v' Y) (en:v'.nm=v.nm) (eo:v'.obj=v.obj) (el:v'.hlo=v.hlo) (el2:bat v'.hlo v'.lo=bat v.hlo v.lo) (eh:v'.hhi=v.hhi) (eh2:bat v'.hhi v'.hi=bat v.hhi v.hi) (ew:v'.whole=v.whole) (hY:1≤Y∧Y≤1048576) {g o g' o':Nat} (hc:∀ j u,cs[j]? = some u→w.cell? ⟨g,o+j,none⟩=some u) (hc':∀ j u,cs'[j]? = some u→w.cell? ⟨g',o'+j,none⟩=some u):VarC w g o g' o':=by
 obtain ⟨p1,a1,n1,k1,d1,m1,l1,p2,a2,n2,k2,d2,m2,l2,p3,a3,n3,k3,d3,m3,l3,e,g1,g2,g3⟩:=h
 obtain ⟨P1,A1,N1,K1,D1,M1,L1,P2,A2,N2,K2,D2,M2,L2,P3,A3,N3,K3,D3,M3,L3,e',G1,G2,G3⟩:=h'
 subst e e'
 refine ⟨⟨v.nm,hc 0 _ rfl,by rw [← en];exact hc' 0 _ rfl⟩,r3_gr g1 G1 eo hY.2 (hc 1 _ rfl) (hc 2 _ rfl) (hc 3 _ rfl) (hc' 1 _ rfl) (hc' 2 _ rfl) (hc' 3 _ rfl),b4_gr g2 G2 el2 el hY hY (hc 4 _ rfl) (hc 5 _ rfl) (hc 6 _ rfl) (hc 7 _ rfl) (hc' 4 _ rfl) (hc' 5 _ rfl) (hc' 6 _ rfl) (hc' 7 _ rfl),b4_gr g3 G3 eh2 eh hY hY (hc 8 _ rfl) (hc 9 _ rfl) (hc 10 _ rfl) (hc 11 _ rfl) (hc' 8 _ rfl) (hc' 9 _ rfl) (hc' 10 _ rfl) (hc' 11 _ rfl),⟨v.whole,hc 12 _ rfl,by rw [← ew];exact hc' 12 _ rfl⟩⟩
theorem TL.pair {w:World} {B B':Nat} {a a':Option Addr} {m cap cap':Nat} {u u':Nat→PT} {Y Y':Nat→Nat} (h:TL w B (.slice a m cap) m u Y) (h':TL w B' (.slice a' m cap') m u' Y') (e:∀ i,i<m→(u i).var=(u' i).var∧(u i).coef=(u' i).coef) (hY:∀ i,i<m→Y i≤1048576):LTC w a a' m:=by
 obtain ⟨E,s1,s2⟩:=h
 obtain ⟨E',s1',s2'⟩:=h'
 rcases s1.cell with h|⟨g,e1,hc⟩
 ·exact .inl h
 rcases s1'.cell with h|⟨g',e1',hc'⟩
 ·exact .inl h
 refine .inr ⟨g,0,g',0,e1,e1',fun i hi=>?_⟩
 obtain ⟨p,a,na,ca,d,nd,cd,q,k⟩:=s2 i hi
 obtain ⟨p',a',na',ca',d',nd',cd',q',k'⟩:=s2' i hi
 have hk:=hc i hi
 have hk':=hc' i hi
 rw [q] at hk
 rw [q'] at hk'
 rw [Nat.zero_add]
 exact ⟨⟨(u i).var,hk 0 _ rfl,by rw [(e i hi).1];exact hk' 0 _ rfl⟩,r3_gr k k' (e i hi).2.symm (hY i hi) (hk 1 _ rfl) (hk 2 _ rfl) (hk 3 _ rfl) (hk' 1 _ rfl) (hk' 2 _ rfl) (hk' 3 _ rfl)⟩
theorem RC.pair {w:World} {B:Nat} {cs:List Value} {r:PW} {n Y:Nat} (h:RC w B cs r n Y) {B':Nat} {cs':List Value} {r':PW} (h':RC w B' cs' r' n Y) (en:r'.nm=r.nm) (eg:∀ x:Int,0≤x→x<(n:Int)→bJ r.t r.nt x=bJ r'.t r'.nt x) (el:r'.hlo=r.hlo) (el2:bat r'.hlo r'.lo=bat r.hlo r.lo) (eh:r'.hhi=r.hhi) (eh2:bat r'.hhi r'.hi=bat r.hhi r.hi) (hY:1≤Y∧Y≤1048576) {g o g' o':Nat} (hc:∀ j u,cs[j]? = some u→w.cell? ⟨g,o+j,none⟩=some u) (hc':∀ j u,cs'[j]? = some u→w.cell? ⟨g',o'+j,none⟩=some u):RowC w g o g' o':=by
 obtain ⟨v,m,u,Z,p2,a2,n2,k2,d2,m2,l2,p3,a3,n3,k3,d3,m3,l3,e,g1,z1,z2,t1,g2,g3⟩:=h
 obtain ⟨v',m',u',Z',P2,A2,N2,K2,D2,M2,L2,P3,A3,N3,K3,D3,M3,L3,e',G1,Z1,Z2,T1,G2,G3⟩:=h'
 obtain ⟨em,eu⟩:=g1.uniq G1 eg
 subst em e e'
 obtain ⟨ta,tc,rfl,_⟩:=t1.form
 obtain ⟨ta',tc',rfl,_⟩:=T1.form
 obtain ⟨q1,q2⟩:=g1.tot z1
 have hm:m≤1048576:=by have:=aZ (fun i=>zs r.t Z (u i).var r.nt-1) m;omega
 refine ⟨⟨r.nm,hc 0 _ rfl,by rw [← en];exact hc' 0 _ rfl⟩,⟨ta,tc,ta',tc',m,hc 1 _ rfl,hc' 1 _ rfl,t1.pair T1 eu (fun i hi=>?_),hm⟩,b4_gr g2 G2 el2 el hY hY (hc 2 _ rfl) (hc 3 _ rfl) (hc 4 _ rfl) (hc 5 _ rfl) (hc' 2 _ rfl) (hc' 3 _ rfl) (hc' 4 _ rfl) (hc' 5 _ rfl),b4_gr g3 G3 eh2 eh hY hY (hc 6 _ rfl) (hc 7 _ rfl) (hc 8 _ rfl) (hc 9 _ rfl) (hc' 6 _ rfl) (hc' 7 _ rfl) (hc' 8 _ rfl) (hc' 9 _ rfl)⟩
 have:=dF (Z:=fun i=>zs r.t Z (u i).var r.nt-1) hi
 have h2:zs r.t Z (u i).var r.nt-1≤tot (fun i=>zs r.t Z (u i).var r.nt-1) m:=this
 show zs r.t Z (u i).var r.nt-1≤1048576
 omega
end Go.Proofs.YtdcocflnafcikaaGreatDoor

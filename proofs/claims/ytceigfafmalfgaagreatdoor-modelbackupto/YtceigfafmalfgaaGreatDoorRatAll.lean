import Derived.Test.YtceigfafmalfgaaGreatDoorWhEAll
import Derived.Test.YtceigfafmalfgaaGreatDoorGcdAll
import Derived.Test.YtceigfafmalfgaaGreatDoorWhAll
import Derived.Test.YtceigfafmalfgaaGreatDoorNumAll
namespace Go.Proofs.YtceigfafmalfgaaGreatDoor
open Go.RowKit
theorem TI.lt {w:World} {b:Bool} {a:Option Addr} {n c:Nat} {x:Int} {S:Nat} (h:TI w b a n c x S):(x.natAbs:Int)<pw S:=by
 obtain ⟨m,⟨xs,h1,h2,h3,h4,h5,h6⟩,rfl⟩:=h
 have h7:=val_lt h4
 have h8:=pw_mono (show xs.length≤S by omega)
 have h9:=val_nn h4
 rw [ws_abs (by omega)];omega
theorem GI.shrink {w:World} {B:Nat} {v:Value} {x:Int} {S m:Nat} (h:GI w B v x S) (hx:(x.natAbs:Int)<pw m):GI w B v x m:=by
 obtain ⟨a,n,c,h1,h2⟩:=h;exact ⟨a,n,c,h1,h2.shrink hx⟩
theorem GI.nil (w:World) (B:Nat):GI w B (.agg #[.bool false,.slice none 0 0]) 0 0:=⟨none,0,0,rfl,Got.nil w B⟩
structure Var3 (w:World) (R:Nat) (u v z:Value):Prop where
 c0:w.cell? ⟨R,0,none⟩=some u
 c1:w.cell? ⟨R,1,none⟩=some v
 c2:w.cell? ⟨R,2,none⟩=some z
 f0:w.frozen? ⟨R,0,none⟩=false
 f1:w.frozen? ⟨R,1,none⟩=false
 f2:w.frozen? ⟨R,2,none⟩=false
theorem var3_new (w:World) (u v z:Value) (t:TypeId):Var3 (w.alloc (.cells #[u,v,z] t)) w.heap.size u v z:=by
 have h:(w.alloc (.cells #[u,v,z] t)).heap[w.heap.size]? = some (.cells #[u,v,z] t):=heap_alloc_new _ _
 exact ⟨by unfold World.cell?;rw [h];rfl,by unfold World.cell?;rw [h];rfl,by unfold World.cell?;rw [h];rfl,by unfold World.frozen?;rw [h];simp,by unfold World.frozen?;rw [h];simp,by unfold World.frozen?;rw [h];simp⟩
theorem Var3.lt {w:World} {R:Nat} {u v z:Value} (h:Var3 w R u v z):R<w.heap.size:=World.block_lt_of_cell? _ _ h.c0
theorem Var3.of_block {w w':World} {R:Nat} {u v z:Value} (h:Var3 w R u v z) (e:w'.heap[R]? = w.heap[R]?):Var3 w' R u v z :=
 ⟨(World.cell?_of_block (a:=⟨R,0,none⟩) e).trans h.c0,(World.cell?_of_block (a:=⟨R,1,none⟩) e).trans h.c1,(World.cell?_of_block (a:=⟨R,2,none⟩) e).trans h.c2,(World.frozen?_of_block (a:=⟨R,0,none⟩) e).trans h.f0,(World.frozen?_of_block (a:=⟨R,1,none⟩) e).trans h.f1,(World.frozen?_of_block (a:=⟨R,2,none⟩) e).trans h.f2⟩
theorem Var3.below {w w':World} {R:Nat} {u v z:Value} (h:Var3 w R u v z) (hb:Below w.heap.size w w'):Var3 w' R u v z:=h.of_block (hb.block R h.lt)
theorem Var3.off {w w':World} {R g:Nat} {u v z:Value} (h:Var3 w R u v z) (o:Off g w w') (hg:R≠g):Var3 w' R u v z:=h.of_block (o.block R hg)
theorem Var3.alloc {w:World} {R:Nat} {u v z:Value} (h:Var3 w R u v z) (o:Obj):Var3 (w.alloc o) R u v z:=h.below ((Below.refl _ _).alloc (Nat.le_refl _) _)
theorem Var3.set {w:World} {R:Nat} {u v z:Value} (h:Var3 w R u v z) (u' v' z':Value):Var3 (((w.setCell ⟨R,0,none⟩ u').setCell ⟨R,1,none⟩ v').setCell ⟨R,2,none⟩ z') R u' v' z'∧Off R w (((w.setCell ⟨R,0,none⟩ u').setCell ⟨R,1,none⟩ v').setCell ⟨R,2,none⟩ z'):=by
 refine ⟨⟨?_,?_,?_,?_,?_,?_⟩,(((Off.refl _ _).set 0 u').set 1 v').set 2 z'⟩
 ·rw [World.cell?_setCell_other _ _ _ _ (by simp),World.cell?_setCell_other _ _ _ _ (by simp),World.cell?_setCell_same _ _ _ h.c0]
 ·rw [World.cell?_setCell_other _ _ _ _ (by simp),World.cell?_setCell_same _ _ _ ((World.cell?_setCell_other _ _ _ _ (by simp)).trans h.c1)]
 ·rw [World.cell?_setCell_same _ _ _ ((World.cell?_setCell_other _ _ _ _ (by simp)).trans ((World.cell?_setCell_other _ _ _ _ (by simp)).trans h.c2))]
 ·rw [World.frozen?_setCell,World.frozen?_setCell,World.frozen?_setCell];exact h.f0
 ·rw [World.frozen?_setCell,World.frozen?_setCell,World.frozen?_setCell];exact h.f1
 ·rw [World.frozen?_setCell,World.frozen?_setCell,World.frozen?_setCell];exact h.f2
def TR (w:World) (p:Bool) (a:Option Addr) (na ca:Nat) (d:Option Addr) (nd cd:Nat) (r:Rat) (S:Nat):Prop:=∃ x y,TI w p a na ca x S∧Num w d nd cd y S∧Rat.divInt x y=r
theorem TR.below {w w':World} {p:Bool} {a:Option Addr} {na ca:Nat} {d:Option Addr} {nd cd:Nat} {r:Rat} {S:Nat} (h:TR w p a na ca d nd cd r S) (hb:Below w.heap.size w w'):TR w' p a na ca d nd cd r S:=by
 obtain ⟨x,y,h1,h2,h3⟩:=h;exact ⟨x,y,h1.below hb,h2.below hb,h3⟩
def NB (u v:Value):Prop:=∀ g,u.ownBlock=some g→v.ownBlock≠some g
theorem NB.of {w w':World} {B B':Nat} {u v:Value} {x y:Int} {S R:Nat} (h:Got w B u x S) (k:Got w' B' v y R) (hB:w.heap.size≤B'):NB u v:=fun g e1 e2=>by have:=h.lt g e1;have:=k.lt g e2;omega
structure GR (w:World) (B:Nat) (f:Bool) (c:Option Addr) (n k:Nat) (c':Option Addr) (n' k':Nat) (r:Rat) (S:Nat):Prop where
 num:GI w B (.agg #[.bool f,.slice c n k]) r.num S
 den:Got w B (.slice c' n' k') (r.den:Int) S
 ne:NB (.slice c n k) (.slice c' n' k')
theorem GR.below {w w':World} {B:Nat} {f:Bool} {c:Option Addr} {n k:Nat} {c':Option Addr} {n' k':Nat} {r:Rat} {S:Nat} (h:GR w B f c n k c' n' k' r S) (hb:Below w.heap.size w w'):GR w' B f c n k c' n' k' r S:=⟨h.1.below hb,h.2.below hb,h.3⟩
theorem GR.mono {w:World} {B B':Nat} {f:Bool} {c:Option Addr} {n k:Nat} {c':Option Addr} {n' k':Nat} {r:Rat} {S:Nat} (h:GR w B f c n k c' n' k' r S) (hB:B'≤B):GR w B' f c n k c' n' k' r S:=⟨h.1.mono hB,h.2.mono hB,h.3⟩
theorem GR.le {w:World} {B:Nat} {f:Bool} {c:Option Addr} {n k:Nat} {c':Option Addr} {n' k':Nat} {r:Rat} {S S':Nat} (h:GR w B f c n k c' n' k' r S) (hS:S≤S'):GR w B f c n k c' n' k' r S':=⟨h.1.le hS,h.2.le hS,h.3⟩
theorem GR.off {w w':World} {B R:Nat} {f:Bool} {c:Option Addr} {n k:Nat} {c':Option Addr} {n' k':Nat} {r:Rat} {S:Nat} (h:GR w B f c n k c' n' k' r S) (ho:Off R w w') (hR:R<B):GR w' B f c n k c' n' k' r S:=⟨h.1.off ho hR,h.2.off ho hR,h.3⟩
theorem GR.val {w:World} {B:Nat} {f:Bool} {c:Option Addr} {n k:Nat} {c':Option Addr} {n' k':Nat} {r s:Rat} {S:Nat} (h:GR w B f c n k c' n' k' r S) (e:r=s):GR w B f c n k c' n' k' s S:=e ▸ h
theorem GR.tr {w:World} {B:Nat} {f:Bool} {c:Option Addr} {n k:Nat} {c':Option Addr} {n' k':Nat} {r:Rat} {S:Nat} (h:GR w B f c n k c' n' k' r S):TR w f c n k c' n' k' r S:=⟨_,_,h.1.ti,h.2.num,Rat.num_divInt_den r⟩
def TB (w:World):Prop:=TabAt 4 Lib.deBruijn64tab w∧4<w.heap.size
theorem TB.below {w w':World} (h:TB w) (hb:Below w.heap.size w w'):TB w':=⟨tab_below h.1 hb h.2,by have:=hb.size;have:=h.2;omega⟩
theorem low_num (p q:Bool) {m k:Int} (hm:0≤m) (hk:0<k):(Rat.divInt (ws p m) (ws q k)).num=ws (p != q) (m/(Nat.gcd m.toNat k.toNat:Nat)):=by
 obtain ⟨M,rfl⟩:=Int.eq_ofNat_of_zero_le hm
 obtain ⟨K,rfl⟩:=Int.eq_ofNat_of_zero_le (Int.le_of_lt hk)
 have hg:Int.gcd (ws q K) (ws p M)=Nat.gcd M K:=by
  unfold ws;cases p <;> cases q <;> simp [Nat.gcd_comm]
 rw [Rat.num_divInt,hg]
 have hd:((Nat.gcd M K:Nat):Int) ∣ (M:Int):=Int.natCast_dvd_natCast.2 (Nat.gcd_dvd_left M K)
 have hs:(K:Int).sign=1:=Int.sign_eq_one_of_pos hk
 unfold ws
 simp only [Int.toNat_natCast]
 cases p <;> cases q <;> simp [hs,Int.neg_ediv_of_dvd hd]
theorem low_den (p q:Bool) {m k:Int} (hm:0≤m) (hk:0<k):((Rat.divInt (ws p m) (ws q k)).den:Int)=k/(Nat.gcd m.toNat k.toNat:Nat):=by
 obtain ⟨M,rfl⟩:=Int.eq_ofNat_of_zero_le hm
 obtain ⟨K,rfl⟩:=Int.eq_ofNat_of_zero_le (Int.le_of_lt hk)
 have hg:Int.gcd (ws q K) (ws p M)=Nat.gcd M K:=by
  unfold ws;cases p <;> cases q <;> simp [Nat.gcd_comm]
 have h0:ws q K≠0:=by unfold ws;cases q <;> simp <;> omega
 have ha:(ws q K).natAbs=K:=by unfold ws;cases q <;> simp
 rw [Rat.den_divInt,hg,if_neg h0,ha]
 simp
set_option maxHeartbeats 400000 in
theorem gcd2 {gl:Nat} {a b:Option Addr} {na nb ca cb:Nat} {m k:Int} {S:Nat} (w:World) (h0:w.cell? ⟨gl,0,none⟩=some (.slice a na ca)) (h1:w.cell? ⟨gl,1,none⟩=some (.slice b nb cb)) (ha:Num w a na ca m S) (hb:Num w b nb cb k S) (hS:S≤8000000) (hT:TB w) :
  Calls Tryz.prog 54 #[.slice (some ⟨gl,0,none⟩) 2 2] w fun e w'=>∃ c n d,e = .returned (.slice c n d)∧Got w' w.heap.size (.slice c n d) (Nat.gcd m.toNat k.toNat:Nat) (S+2)∧Below w.heap.size w w':=by
 have e1:((m.toNat:Nat):Int)=m:=Int.toNat_of_nonneg ha.nn
 have e2:((k.toNat:Nat):Int)=k:=Int.toNat_of_nonneg hb.nn
 refine (gcdL_any gl 2 2 (fun i=>[a,b].getD i none) (fun i=>[na,nb].getD i 0) (fun i=>[ca,cb].getD i 0) (fun i=>[m.toNat,k.toNat].getD i 0) S w (fun j hj=>?_) (fun j hj=>?_) (by omega) hS hT.1 hT.2).mono ?_
 ·rcases (by omega:j=0∨j=1) with rfl|rfl
  ·exact h0
  ·exact h1
 ·rcases (by omega:j=0∨j=1) with rfl|rfl
  ·show Num w a na ca ((m.toNat:Nat):Int) S;rw [e1];exact ha
  ·show Num w b nb cb ((k.toNat:Nat):Int) S;rw [e2];exact hb
 ·rintro e w' ⟨c,n,cc,rfl,hM,hbel⟩
  refine ⟨c,n,cc,rfl,?_,hbel⟩
  have h:=hM.1
  have e3:gcdN (fun i=>[m.toNat,k.toNat].getD i 0) 2=Nat.gcd m.toNat k.toNat:=by simp [gcdN]
  rw [e3] at h
  exact h
theorem bel_d1 (w:World):Below w.heap.size w w.drew:=belN (Below.refl _ w) 1
theorem bel_d0 (w:World) (o:Obj):Below w.heap.size w (w.alloc o):=(Below.refl _ w).alloc (Nat.le_refl _) o
theorem bel_d2 (w:World) (o:Obj):Below w.heap.size w (w.drew.alloc o):=bel_tr (bel_d1 w) (bel_d0 w.drew o)
theorem bel_d3 (w:World) (o o':Obj):Below w.heap.size w ((w.drew.alloc o).alloc o'):=bel_tr (bel_d2 w o) (bel_d0 _ o')
theorem box_rii (w:World) (u v z u0 v0 u1 v1:Value) (t t':TypeId):Var3 (((w.alloc (.cells #[u,v,z] t)).alloc (.cells #[u0,v0] t')).alloc (.cells #[u1,v1] t')) w.heap.size u v z∧Var2 (((w.alloc (.cells #[u,v,z] t)).alloc (.cells #[u0,v0] t')).alloc (.cells #[u1,v1] t')) (w.heap.size+1) u0 v0 ∧
  Var2 (((w.alloc (.cells #[u,v,z] t)).alloc (.cells #[u0,v0] t')).alloc (.cells #[u1,v1] t')) (w.heap.size+2) u1 v1∧Below w.heap.size w (((w.alloc (.cells #[u,v,z] t)).alloc (.cells #[u0,v0] t')).alloc (.cells #[u1,v1] t'))∧(((w.alloc (.cells #[u,v,z] t)).alloc (.cells #[u0,v0] t')).alloc (.cells #[u1,v1] t')).heap.size=w.heap.size+3:=by
 have h1:=var3_new w u v z t
 have h2:=var2_new (w.alloc (.cells #[u,v,z] t)) u0 v0 t'
 have h3:=var2_new ((w.alloc (.cells #[u,v,z] t)).alloc (.cells #[u0,v0] t')) u1 v1 t'
 rw [World.size_alloc] at h2
 rw [World.size_alloc,World.size_alloc] at h3
 exact ⟨(h1.alloc _).alloc _,h2.alloc _,h3,((bel_d0 w _).trans ((bel_d0 _ _).mono (by simp))).trans ((bel_d0 _ _).mono (by simp;omega)),by simp⟩
theorem box_iir (w:World) (u0 v0 u1 v1 u v z:Value) (t t':TypeId):Var2 (((w.alloc (.cells #[u0,v0] t')).alloc (.cells #[u1,v1] t')).alloc (.cells #[u,v,z] t)) w.heap.size u0 v0∧Var2 (((w.alloc (.cells #[u0,v0] t')).alloc (.cells #[u1,v1] t')).alloc (.cells #[u,v,z] t)) (w.heap.size+1) u1 v1 ∧
  Var3 (((w.alloc (.cells #[u0,v0] t')).alloc (.cells #[u1,v1] t')).alloc (.cells #[u,v,z] t)) (w.heap.size+2) u v z∧Below w.heap.size w (((w.alloc (.cells #[u0,v0] t')).alloc (.cells #[u1,v1] t')).alloc (.cells #[u,v,z] t))∧(((w.alloc (.cells #[u0,v0] t')).alloc (.cells #[u1,v1] t')).alloc (.cells #[u,v,z] t)).heap.size=w.heap.size+3:=by
 obtain ⟨a1,a2,a3,a4⟩:=box2 w u0 v0 u1 v1 t'
 have h:=var3_new ((w.alloc (.cells #[u0,v0] t')).alloc (.cells #[u1,v1] t')) u v z t
 rw [a4] at h
 exact ⟨a1.alloc _,a2.alloc _,h,a3.trans ((bel_d0 _ _).mono (by simp;omega)),by simp⟩
set_option maxHeartbeats 2000000 in
theorem partsR {p:Bool} {a:Option Addr} {na ca:Nat} {d:Option Addr} {nd cd:Nat} {r:Rat} {S:Nat} (w:World) (h:TR w p a na ca d nd cd r S) (hS:S≤10000000) (hS1:1≤S) :
  Calls Tryz.prog 41 #[.agg #[.bool p,.slice a na ca,.slice d nd cd]] w fun e w'=>∃ f c n k g c' n' k' x' y',e = .returned (.tuple #[.agg #[.bool f,.slice c n k],.agg #[.bool g,.slice c' n' k']])∧TI w' f c n k x' S∧TI w' g c' n' k' y' S∧0<y'∧Rat.divInt x' y'=r∧Below w.heap.size w w':=by
 obtain ⟨x,y,hx,hy,hr⟩:=h
 have HRR:Hid (Rat.divInt x y=r):=hr
 have hy0:=hy.nn
 have hx0:=hx
 have hy1:=hy
 clear hr
 obtain ⟨P0,R0,R1,hb0,hsz⟩:=box_rii w (.bool p) (.slice a na ca) (.slice d nd cd) (.bool false) (.slice none 0 0) (.bool false) (.slice none 0 0) 27 25
 replace hx:=hx.below hb0
 replace hy:=hy.below hb0
 go_enter Tryz.func41,Tryz.ntmps41
 obtain ⟨p0,p1,p2,p3,p4,p5⟩:=id P0
 go_wp2_with fail
 generalize ((w.alloc (.cells #[.bool p,.slice a na ca,.slice d nd cd] 27)).alloc (.cells #[.bool false,.slice none 0 0] 25)).alloc (.cells #[.bool false,.slice none 0 0] 25)=W0 at *
 refine (bitsG _ hy (by omega)).mono ?_
 rintro e w1 ⟨t,rfl,ht,rfl⟩
 by_cases hz:y=0
 ·obtain rfl:t=0:=ht.2 hz
  have HR2:Hid (Rat.divInt 0 1=r):=by show _=_;rw [← HRR.out,hz];simp
  clear ht hz
  go_wp2_with fail
  refine (ofT 1 _ (by omega) (by omega)).mono ?_
  rintro e w2 ⟨f,c,n,k,rfl,G,hb2⟩
  have RB0:=R0.below hb2
  have RB1:=R1.below hb2
  have hs2:=hb2.size
  replace hb0:=bel_tr hb0 hb2
  clear p0 p1 p2 p3 p4 p5 P0 R0 R1 hx hy hb2
  obtain ⟨r0,r1,r2,r3⟩:=id RB0
  obtain ⟨t0,t1,t2,t3⟩:=id RB1
  obtain ⟨V,O⟩:=RB0.set (.bool false) (.slice none 0 0)
  have RB1':=RB1.off O (by omega)
  obtain ⟨V1,O1⟩:=RB1'.set (.bool f) (.slice c n k)
  have V0:=V.off O1 (by omega)
  have hw:=(hb0.trans (O.below (by omega))).trans (O1.below (by omega))
  have K1:=(G.off O (by omega)).off O1 (by omega)
  clear hb0 RB0 RB1 RB1' G O O1 V
  go_wp2
  refine bodyPost_ret (v:=.tuple #[.agg #[.bool false,.slice none 0 0],.agg #[.bool f,.slice c n k]]) (by simp [results,Tryz.results41,go_sem,V0.c0,V0.c1,V1.c0,V1.c1]) rfl ⟨_,_,_,_,_,_,_,_,0,1,rfl,((GI.nil _ 0).le (by omega)).ti,(K1.le (by omega)).ti,by decide,HR2.out,hw⟩
 ·have ht0:t≠0:=fun h=>hz (ht.1 h)
  clear ht
  obtain ⟨r0,r1,r2,r3⟩:=id R0
  obtain ⟨t0,t1,t2,t3⟩:=id R1
  go_wp2_with fail
  go_region
  obtain ⟨V,O⟩:=R0.set (.bool p) (.slice a na ca)
  have R1':=R1.off O (by omega)
  obtain ⟨V1,O1⟩:=R1'.set (.bool false) (.slice d nd cd)
  have V0:=V.off O1 (by omega)
  have hw:=(hb0.trans (O.below (by omega))).trans (O1.below (by omega))
  have E1:=((hx0.below hw)).below (belN (Below.refl _ _) 1)
  have E2:TI _ false d nd cd y S:=⟨y,((hy1.below hw)).below (belN (Below.refl _ _) 1),rfl⟩
  generalize (((W0.setCell ⟨w.heap.size+1,0,none⟩ (.bool p)).setCell ⟨w.heap.size+1,1,none⟩ (.slice a na ca)).setCell ⟨w.heap.size+2,0,none⟩ (.bool false)).setCell ⟨w.heap.size+2,1,none⟩ (.slice d nd cd)=wH at *
  clear hb0 R0 R1 R1' O O1 V P0 p0 p1 p2 p3 p4 p5 r0 r1 r2 r3 t0 t1 t2 t3 hx hy
  have V0':Var2 wH.drew (w.heap.size+1) (.bool p) (.slice a na ca):=V0.below (belN (Below.refl _ _) 1)
  have V1':Var2 wH.drew (w.heap.size+2) (.bool false) (.slice d nd cd):=V1.below (belN (Below.refl _ _) 1)
  clear V0 V1
  go_wp2
  refine bodyPost_ret (v:=.tuple #[.agg #[.bool p,.slice a na ca],.agg #[.bool false,.slice d nd cd]]) (by simp [results,Tryz.results41,go_sem,V0'.c0,V0'.c1,V1'.c0,V1'.c1]) rfl ⟨_,_,_,_,_,_,_,_,x,y,rfl,E1,E2,by omega,HRR.out,belN hw 1⟩
theorem cell_l0 {w:World} {g:Nat} {u v:Value} {t:TypeId} (h:g=w.heap.size):(w.alloc (.cells #[u,v] t)).cell? ⟨g,0,none⟩=some u∧(w.alloc (.cells #[u,v] t)).cell? ⟨g,1,none⟩=some v:=by subst h;exact ⟨by simp,by simp⟩
theorem agg_gi {w:World} {B:Nat} {f:Bool} {m:Int} {c:Option Addr} {n d S:Nat} (h:Got w B (.slice c n d) m S) (x:Int) (hf:f=decide (x<0)) (hx:(x.natAbs:Int)=m):GI w B (.agg #[.bool f,.slice c n d]) x S:=by
 refine ⟨c,n,d,by rw [hf],?_⟩
 rw [hx];exact h
set_option maxHeartbeats 2000000 in
theorem lowestR {p q:Bool} {a b:Option Addr} {na nb ca cb:Nat} {x y:Int} {S:Nat} (w:World) (hx:TI w p a na ca x S) (hy:TI w q b nb cb y S) (hy0:y≠0) (hS:S≤7000000) (hT:TB w) :
  Calls Tryz.prog 40 #[.agg #[.bool p,.slice a na ca],.agg #[.bool q,.slice b nb cb]] w fun e w'=>∃ f c n k c' n' k',e = .returned (.agg #[.bool f,.slice c n k,.slice c' n' k'])∧GR w' w.heap.size f c n k c' n' k' (Rat.divInt x y) (S)∧Below w.heap.size w w':=by
 obtain ⟨m,ha,hmx⟩:=hx
 obtain ⟨k,hb,hky⟩:=hy
 have hm0:=ha.nn
 have hk0:0<k:=by
  have h:=hb.nn
  rcases (by omega:k=0∨0<k) with h1|h1
  ·subst h1;rw [ws_zero] at hky;exact absurd hky.symm hy0
  ·exact h1
 have HN:Hid ((Rat.divInt x y).num=ws (p != q) (m/(Nat.gcd m.toNat k.toNat:Nat))):=by show _=_;rw [← hmx,← hky];exact low_num p q hm0 hk0
 have HD:Hid (((Rat.divInt x y).den:Int)=k/(Nat.gcd m.toNat k.toNat:Nat)):=by show _=_;rw [← hmx,← hky];exact low_den p q hm0 hk0
 have hg0:0<Nat.gcd m.toNat k.toNat:=Nat.gcd_pos_of_pos_right _ (by omega)
 obtain ⟨g,hg⟩:∃ g:Nat,Nat.gcd m.toNat k.toNat=g:=⟨_,rfl⟩
 have HG:Hid (Nat.gcd m.toNat k.toNat=g):=hg
 rw [hg] at HN HD hg0
 have LM:m/(g:Int)<pw S:=Int.lt_of_le_of_lt (Int.ediv_le_self _ hm0) (by obtain ⟨xs,h1,h2,h3,h4,h5,h6⟩:=ha;have h7:=val_lt h4;have h8:=pw_mono (show xs.length≤S by omega);rw [← h5];omega)
 have LK:k/(g:Int)<pw S:=Int.lt_of_le_of_lt (Int.ediv_le_self _ (by omega)) (by obtain ⟨xs,h1,h2,h3,h4,h5,h6⟩:=hb;have h7:=val_lt h4;have h8:=pw_mono (show xs.length≤S by omega);rw [← h5];omega)
 clear hmx hky hg hy0
 have hbw:=hb
 obtain ⟨P0,P1,R0,hb0,hsz⟩:=box_iir w (.bool p) (.slice a na ca) (.bool q) (.slice b nb cb) (.bool false) (.slice none 0 0) (.slice none 0 0) 27 25
 replace ha:=ha.below hb0
 replace hb:=hb.below hb0
 replace hT:=hT.below hb0
 go_enter Tryz.func40,Tryz.ntmps40
 go_wp2_with fail
 generalize ((w.alloc (.cells #[.bool p,.slice a na ca] 25)).alloc (.cells #[.bool q,.slice b nb cb] 25)).alloc (.cells #[.bool false,.slice none 0 0,.slice none 0 0] 27)=W0 at *
 obtain ⟨p00,p01,p02,p03⟩:=id P0
 obtain ⟨p10,p11,p12,p13⟩:=id P1
 have HSZ:Hid (W0.heap.size=w.heap.size+3):=hsz
 clear hsz
 go_region_held3 (fun w'=>w'.cell? ⟨w.heap.size,0,none⟩=some (.bool p)∧w'.cell? ⟨w.heap.size,1,none⟩=some (.slice a na ca)∧w'.cell? ⟨w.heap.size+1,0,none⟩=some (.bool q)∧w'.cell? ⟨w.heap.size+1,1,none⟩=some (.slice b nb cb))
  (refine ⟨?_,?_,?_,?_⟩ <;> first|with_reducible exact kept_c hc1 (by assumption)|with_reducible exact kept_c (bel_d1 _) (by assumption)|with_reducible exact kept_c (bel_d2 _ _) (by assumption)|with_reducible exact kept_c (bel_d3 _ _ _) (by assumption)|with_reducible exact kept_c (bel_tr hc1 (bel_d0 _ _)) (by assumption)|with_reducible exact set2_far (kept_c hc1 (by assumption)) (by have:=HSZ.out;simp <;> omega))
  ((first
   | (go_at_call 54;go_fit (gcd2 _ (by first|exact (cell_l0 (by simp)).1|exact kept_c (bel_d0 (W0.drew.alloc (.cells #[.slice a na ca,.slice b nb cb] 23)) _) (cell_l0 rfl).1) (by first|exact (cell_l0 (by simp)).2|exact kept_c (bel_d0 (W0.drew.alloc (.cells #[.slice a na ca,.slice b nb cb] 23)) _) (cell_l0 rfl).2) (ha.below (by first|exact bel_d2 _ _|exact bel_d3 _ _ _)) (hb.below (by first|exact bel_d2 _ _|exact bel_d3 _ _ _)) (by omega) (hT.below (by first|exact bel_d2 _ _|exact bel_d3 _ _ _)));rintro e w1 ⟨cg,ng,dg,rfl,G,hb1⟩;have hc1:Below W0.heap.size W0 w1:=(by first|exact bel_tr (bel_d2 _ _) hb1|exact bel_tr (bel_d3 _ _ _) hb1);have hsv1:=Below.size hc1;first|(have VA:Var2 w1 (W0.heap.size+1) (.bool false) (.slice none 0 0):=(by have h:=(var2_new (W0.drew.alloc (.cells #[.slice a na ca,.slice b nb cb] 23)) (.bool false) (.slice none 0 0) 25).below hb1;simpa using h);obtain ⟨y0,y1,y2,y3⟩:=id VA)|(have VA:Var2 w1 W0.heap.size (.bool false) (.slice none 0 0):=((var2_new W0.drew (.bool false) (.slice none 0 0) 25).alloc _).below hb1;obtain ⟨y0,y1,y2,y3⟩:=id VA)|skip)))
 ·have hc2:Below W0.heap.size W0 (w1.alloc (.cells #[.bool q,.slice cg ng dg] 25)):=bel_tr hc1 (bel_d0 _ _)
  have V5:=var2_new w1 (.bool q) (.slice cg ng dg) 25
  have G2:=(G.below (bel_d0 w1 (.cells #[.bool q,.slice cg ng dg] 25))).mono (B':=W0.heap.size) (by simp)
  have hR5:W0.heap.size≤w1.heap.size:=hsv1
  clear G hb1 hc1
  obtain ⟨R5,hR5e⟩:∃ R5,w1.heap.size=R5:=⟨_,rfl⟩
  generalize w1.alloc (.cells #[.bool q,.slice cg ng dg] 25)=w2 at *
  rw [hR5e] at V5 hR5 ⊢
  clear hR5e
  replace P0:=P0.below hc2
  replace P1:=P1.below hc2
  replace R0:=R0.below hc2
  replace ha:=ha.below hc2
  replace hb:=hb.below hc2
  replace hb0:=bel_tr hb0 hc2
  rw [HG.out] at G2
  have hs2:=Below.size hc2
  clear p00 p01 p02 p03 p10 p11 p12 p13 hc2
  obtain ⟨p00,p01,p02,p03⟩:=id P0
  obtain ⟨v50,v51,v52,v53⟩:=id V5
  have hsz:=HSZ.out
  go_wp2_with fail
  refine (quoI p q _ ha G2.num (by omega) (by omega) (by omega)).mono ?_
  rintro e w3 ⟨c1,n1,d1,c1',n1',d1',rfl,K1,-,-,hx⟩
  replace K1:=K1.shrink LM
  obtain ⟨F,hF⟩:∃ F,decide (ws (p != q) (m/(g:Int))<0)=F:=⟨_,rfl⟩
  have HF:Hid (decide (ws (p != q) (m/(g:Int))<0)=F):=hF
  rw [hF]
  replace P0:=P0.below hx
  replace P1:=P1.below hx
  replace R0:=R0.below hx
  replace V5:=V5.below hx
  replace G2:=G2.below hx
  replace hb0:=bel_tr hb0 hx
  have hs3:=Below.size hx
  clear p00 p01 p02 p03 v50 v51 v52 v53 hx ha hb hF
  obtain ⟨p00,p01,p02,p03⟩:=id P0
  obtain ⟨V0,O0⟩:=P0.set (.bool F) (.slice c1 n1 d1)
  replace P1:=P1.off O0 (by omega)
  replace R0:=R0.off O0 (by omega)
  replace V5:=V5.off O0 (by omega)
  replace K1:=(K1.mono (B':=W0.heap.size) (by omega)).off O0 (by omega)
  replace G2:=G2.off O0 (by omega)
  replace hb0:=hb0.trans (O0.below (Nat.le_refl _))
  have hbk:=hbw.below hb0
  have hs4:=O0.size
  clear P0 O0
  obtain ⟨p10,p11,p12,p13⟩:=id P1
  obtain ⟨v50,v51,v52,v53⟩:=id V5
  go_wp2_with fail
  generalize ((w3.setCell ⟨w.heap.size,0,none⟩ (.bool F)).setCell ⟨w.heap.size,1,none⟩ (.slice c1 n1 d1))=w4 at *
  refine (quoI q q _ hbk G2.num (by omega) (by omega) (by omega)).mono ?_
  rintro e w5 ⟨c2,n2,d2,c2',n2',d2',rfl,K2,-,-,hx⟩
  have HNE:=NB.of K1 K2 (Nat.le_refl _)
  replace K2:=K2.shrink LK
  obtain ⟨F2,hF⟩:∃ F2,decide (ws (q != q) (k/(g:Int))<0)=F2:=⟨_,rfl⟩
  rw [hF]
  replace V0:=V0.below hx
  replace P1:=P1.below hx
  replace R0:=R0.below hx
  replace K1:=K1.below hx
  replace hb0:=bel_tr hb0 hx
  have hs5:=Below.size hx
  clear p00 p01 p02 p03 p10 p11 p12 p13 v50 v51 v52 v53 hx hbk hF V5 G2
  obtain ⟨p10,p11,p12,p13⟩:=id P1
  obtain ⟨V1,O1⟩:=P1.set (.bool F2) (.slice c2 n2 d2)
  replace V0:=V0.off O1 (by omega)
  replace R0:=R0.off O1 (by omega)
  replace K1:=K1.off O1 (by omega)
  replace K2:=(K2.mono (B':=W0.heap.size) (by omega)).off O1 (by omega)
  replace hb0:=hb0.trans (O1.below (by omega))
  obtain ⟨x0,x1,x2,x3⟩:=id V0
  obtain ⟨x4,x5,x6,x7⟩:=id V1
  obtain ⟨r0,r1,r2,r3,r4,r5⟩:=id R0
  obtain ⟨VR,OR⟩:=R0.set (.bool F) (.slice c1 n1 d1) (.slice c2 n2 d2)
  replace K1:=K1.off OR (by omega)
  replace K2:=K2.off OR (by omega)
  replace hb0:=hb0.trans (OR.below (by omega))
  have hm1:0≤m/(g:Int):=Int.ediv_nonneg hm0 (by omega)
  have E1:=agg_gi (f:=F) K1 (Rat.divInt x y).num (by rw [HN.out];exact HF.out.symm) (by rw [HN.out];exact ws_abs hm1)
  have E2:Got _ W0.heap.size (.slice c2 n2 d2) ((Rat.divInt x y).den:Int) S:=K2.val HD.out.symm
  clear K1 K2 V0 V1 R0 O1 OR P1
  go_wp2
  refine bodyPost_ret (v:=.agg #[.bool F,.slice c1 n1 d1,.slice c2 n2 d2]) (by simp [results,Tryz.results40,go_sem,VR.c0,VR.c1,VR.c2]) rfl ⟨_,_,_,_,_,_,_,rfl,⟨E1.mono (by omega),E2.mono (by omega),HNE⟩,hb0⟩
 ·obtain ⟨V5,O5⟩:=VA.set (.bool q) (.slice cg ng dg)
  have hc2:=hc1.trans (O5.below (B:=W0.heap.size) (by omega))
  have G2:=(G.off O5 (by simp <;> omega)).mono (B':=W0.heap.size) (by simp <;> omega)
  clear G hb1 hc1 VA y0 y1 y2 y3 O5
  generalize ((w1.setCell ⟨W0.heap.size+1,0,none⟩ (.bool q)).setCell ⟨W0.heap.size+1,1,none⟩ (.slice cg ng dg))=w2 at *
  obtain ⟨R5,hR5e⟩:∃ R5,W0.heap.size+1=R5:=⟨_,rfl⟩
  have hR5:W0.heap.size≤R5:=by omega
  rw [hR5e] at V5 ⊢
  clear hR5e
  replace P0:=P0.below hc2
  replace P1:=P1.below hc2
  replace R0:=R0.below hc2
  replace ha:=ha.below hc2
  replace hb:=hb.below hc2
  replace hb0:=bel_tr hb0 hc2
  rw [HG.out] at G2
  have hs2:=Below.size hc2
  clear p00 p01 p02 p03 p10 p11 p12 p13 hc2
  obtain ⟨p00,p01,p02,p03⟩:=id P0
  obtain ⟨v50,v51,v52,v53⟩:=id V5
  have hsz:=HSZ.out
  go_wp2_with fail
  refine (quoI p q _ ha G2.num (by omega) (by omega) (by omega)).mono ?_
  rintro e w3 ⟨c1,n1,d1,c1',n1',d1',rfl,K1,-,-,hx⟩
  replace K1:=K1.shrink LM
  obtain ⟨F,hF⟩:∃ F,decide (ws (p != q) (m/(g:Int))<0)=F:=⟨_,rfl⟩
  have HF:Hid (decide (ws (p != q) (m/(g:Int))<0)=F):=hF
  rw [hF]
  replace P0:=P0.below hx
  replace P1:=P1.below hx
  replace R0:=R0.below hx
  replace V5:=V5.below hx
  replace G2:=G2.below hx
  replace hb0:=bel_tr hb0 hx
  have hs3:=Below.size hx
  clear p00 p01 p02 p03 v50 v51 v52 v53 hx ha hb hF
  obtain ⟨p00,p01,p02,p03⟩:=id P0
  obtain ⟨V0,O0⟩:=P0.set (.bool F) (.slice c1 n1 d1)
  replace P1:=P1.off O0 (by omega)
  replace R0:=R0.off O0 (by omega)
  replace V5:=V5.off O0 (by omega)
  replace K1:=(K1.mono (B':=W0.heap.size) (by omega)).off O0 (by omega)
  replace G2:=G2.off O0 (by omega)
  replace hb0:=hb0.trans (O0.below (Nat.le_refl _))
  have hbk:=hbw.below hb0
  have hs4:=O0.size
  clear P0 O0
  obtain ⟨p10,p11,p12,p13⟩:=id P1
  obtain ⟨v50,v51,v52,v53⟩:=id V5
  go_wp2_with fail
  generalize ((w3.setCell ⟨w.heap.size,0,none⟩ (.bool F)).setCell ⟨w.heap.size,1,none⟩ (.slice c1 n1 d1))=w4 at *
  refine (quoI q q _ hbk G2.num (by omega) (by omega) (by omega)).mono ?_
  rintro e w5 ⟨c2,n2,d2,c2',n2',d2',rfl,K2,-,-,hx⟩
  have HNE:=NB.of K1 K2 (Nat.le_refl _)
  replace K2:=K2.shrink LK
  obtain ⟨F2,hF⟩:∃ F2,decide (ws (q != q) (k/(g:Int))<0)=F2:=⟨_,rfl⟩
  rw [hF]
  replace V0:=V0.below hx
  replace P1:=P1.below hx
  replace R0:=R0.below hx
  replace K1:=K1.below hx
  replace hb0:=bel_tr hb0 hx
  have hs5:=Below.size hx
  clear p00 p01 p02 p03 p10 p11 p12 p13 v50 v51 v52 v53 hx hbk hF V5 G2
  obtain ⟨p10,p11,p12,p13⟩:=id P1
  obtain ⟨V1,O1⟩:=P1.set (.bool F2) (.slice c2 n2 d2)
  replace V0:=V0.off O1 (by omega)
  replace R0:=R0.off O1 (by omega)
  replace K1:=K1.off O1 (by omega)
  replace K2:=(K2.mono (B':=W0.heap.size) (by omega)).off O1 (by omega)
  replace hb0:=hb0.trans (O1.below (by omega))
  obtain ⟨x0,x1,x2,x3⟩:=id V0
  obtain ⟨x4,x5,x6,x7⟩:=id V1
  obtain ⟨r0,r1,r2,r3,r4,r5⟩:=id R0
  obtain ⟨VR,OR⟩:=R0.set (.bool F) (.slice c1 n1 d1) (.slice c2 n2 d2)
  replace K1:=K1.off OR (by omega)
  replace K2:=K2.off OR (by omega)
  replace hb0:=hb0.trans (OR.below (by omega))
  have hm1:0≤m/(g:Int):=Int.ediv_nonneg hm0 (by omega)
  have E1:=agg_gi (f:=F) K1 (Rat.divInt x y).num (by rw [HN.out];exact HF.out.symm) (by rw [HN.out];exact ws_abs hm1)
  have E2:Got _ W0.heap.size (.slice c2 n2 d2) ((Rat.divInt x y).den:Int) S:=K2.val HD.out.symm
  clear K1 K2 V0 V1 R0 O1 OR P1
  go_wp2
  refine bodyPost_ret (v:=.agg #[.bool F,.slice c1 n1 d1,.slice c2 n2 d2]) (by simp [results,Tryz.results40,go_sem,VR.c0,VR.c1,VR.c2]) rfl ⟨_,_,_,_,_,_,_,rfl,⟨E1.mono (by omega),E2.mono (by omega),HNE⟩,hb0⟩
 ·obtain ⟨V5,O5⟩:=VA.set (.bool q) (.slice cg ng dg)
  have hc2:=hc1.trans (O5.below (B:=W0.heap.size) (by omega))
  have G2:=(G.off O5 (by simp <;> omega)).mono (B':=W0.heap.size) (by simp <;> omega)
  clear G hb1 hc1 VA y0 y1 y2 y3 O5
  generalize ((w1.setCell ⟨W0.heap.size,0,none⟩ (.bool q)).setCell ⟨W0.heap.size,1,none⟩ (.slice cg ng dg))=w2 at *
  obtain ⟨R5,hR5e⟩:∃ R5,W0.heap.size=R5:=⟨_,rfl⟩
  have hR5:W0.heap.size≤R5:=by omega
  rw [hR5e] at V5 ⊢
  clear hR5e
  replace P0:=P0.below hc2
  replace P1:=P1.below hc2
  replace R0:=R0.below hc2
  replace ha:=ha.below hc2
  replace hb:=hb.below hc2
  replace hb0:=bel_tr hb0 hc2
  rw [HG.out] at G2
  have hs2:=Below.size hc2
  clear p00 p01 p02 p03 p10 p11 p12 p13 hc2
  obtain ⟨p00,p01,p02,p03⟩:=id P0
  obtain ⟨v50,v51,v52,v53⟩:=id V5
  have hsz:=HSZ.out
  go_wp2_with fail
  refine (quoI p q _ ha G2.num (by omega) (by omega) (by omega)).mono ?_
  rintro e w3 ⟨c1,n1,d1,c1',n1',d1',rfl,K1,-,-,hx⟩
  replace K1:=K1.shrink LM
  obtain ⟨F,hF⟩:∃ F,decide (ws (p != q) (m/(g:Int))<0)=F:=⟨_,rfl⟩
  have HF:Hid (decide (ws (p != q) (m/(g:Int))<0)=F):=hF
  rw [hF]
  replace P0:=P0.below hx
  replace P1:=P1.below hx
  replace R0:=R0.below hx
  replace V5:=V5.below hx
  replace G2:=G2.below hx
  replace hb0:=bel_tr hb0 hx
  have hs3:=Below.size hx
  clear p00 p01 p02 p03 v50 v51 v52 v53 hx ha hb hF
  obtain ⟨p00,p01,p02,p03⟩:=id P0
  obtain ⟨V0,O0⟩:=P0.set (.bool F) (.slice c1 n1 d1)
  replace P1:=P1.off O0 (by omega)
  replace R0:=R0.off O0 (by omega)
  replace V5:=V5.off O0 (by omega)
  replace K1:=(K1.mono (B':=W0.heap.size) (by omega)).off O0 (by omega)
  replace G2:=G2.off O0 (by omega)
  replace hb0:=hb0.trans (O0.below (Nat.le_refl _))
  have hbk:=hbw.below hb0
  have hs4:=O0.size
  clear P0 O0
  obtain ⟨p10,p11,p12,p13⟩:=id P1
  obtain ⟨v50,v51,v52,v53⟩:=id V5
  go_wp2_with fail
  generalize ((w3.setCell ⟨w.heap.size,0,none⟩ (.bool F)).setCell ⟨w.heap.size,1,none⟩ (.slice c1 n1 d1))=w4 at *
  refine (quoI q q _ hbk G2.num (by omega) (by omega) (by omega)).mono ?_
  rintro e w5 ⟨c2,n2,d2,c2',n2',d2',rfl,K2,-,-,hx⟩
  have HNE:=NB.of K1 K2 (Nat.le_refl _)
  replace K2:=K2.shrink LK
  obtain ⟨F2,hF⟩:∃ F2,decide (ws (q != q) (k/(g:Int))<0)=F2:=⟨_,rfl⟩
  rw [hF]
  replace V0:=V0.below hx
  replace P1:=P1.below hx
  replace R0:=R0.below hx
  replace K1:=K1.below hx
  replace hb0:=bel_tr hb0 hx
  have hs5:=Below.size hx
  clear p00 p01 p02 p03 p10 p11 p12 p13 v50 v51 v52 v53 hx hbk hF V5 G2
  obtain ⟨p10,p11,p12,p13⟩:=id P1
  obtain ⟨V1,O1⟩:=P1.set (.bool F2) (.slice c2 n2 d2)
  replace V0:=V0.off O1 (by omega)
  replace R0:=R0.off O1 (by omega)
  replace K1:=K1.off O1 (by omega)
  replace K2:=(K2.mono (B':=W0.heap.size) (by omega)).off O1 (by omega)
  replace hb0:=hb0.trans (O1.below (by omega))
  obtain ⟨x0,x1,x2,x3⟩:=id V0
  obtain ⟨x4,x5,x6,x7⟩:=id V1
  obtain ⟨r0,r1,r2,r3,r4,r5⟩:=id R0
  obtain ⟨VR,OR⟩:=R0.set (.bool F) (.slice c1 n1 d1) (.slice c2 n2 d2)
  replace K1:=K1.off OR (by omega)
  replace K2:=K2.off OR (by omega)
  replace hb0:=hb0.trans (OR.below (by omega))
  have hm1:0≤m/(g:Int):=Int.ediv_nonneg hm0 (by omega)
  have E1:=agg_gi (f:=F) K1 (Rat.divInt x y).num (by rw [HN.out];exact HF.out.symm) (by rw [HN.out];exact ws_abs hm1)
  have E2:Got _ W0.heap.size (.slice c2 n2 d2) ((Rat.divInt x y).den:Int) S:=K2.val HD.out.symm
  clear K1 K2 V0 V1 R0 O1 OR P1
  go_wp2
  refine bodyPost_ret (v:=.agg #[.bool F,.slice c1 n1 d1,.slice c2 n2 d2]) (by simp [results,Tryz.results40,go_sem,VR.c0,VR.c1,VR.c2]) rfl ⟨_,_,_,_,_,_,_,rfl,⟨E1.mono (by omega),E2.mono (by omega),HNE⟩,hb0⟩
theorem sign_quot {x g:Int} (hg:0<g) (hd:g ∣ x):(x/g).sign=x.sign:=by
 obtain ⟨z,rfl⟩:=hd
 rw [Int.mul_ediv_cancel_left z (by omega),Int.sign_mul,Int.sign_eq_one_of_pos hg,Int.one_mul]
theorem box_rr (w:World) (u v z u' v' z':Value) (t:TypeId):Var3 ((w.alloc (.cells #[u,v,z] t)).alloc (.cells #[u',v',z'] t)) w.heap.size u v z∧Var3 ((w.alloc (.cells #[u,v,z] t)).alloc (.cells #[u',v',z'] t)) (w.heap.size+1) u' v' z'∧Below w.heap.size w ((w.alloc (.cells #[u,v,z] t)).alloc (.cells #[u',v',z'] t))∧((w.alloc (.cells #[u,v,z] t)).alloc (.cells #[u',v',z'] t)).heap.size=w.heap.size+2:=by
 have h1:=var3_new w u v z t
 have h2:=var3_new (w.alloc (.cells #[u,v,z] t)) u' v' z' t
 rw [World.size_alloc] at h2
 exact ⟨h1.alloc _,h2,(bel_d0 w _).trans ((bel_d0 _ _).mono (by simp)),by simp⟩
set_option maxHeartbeats 2000000 in
theorem normR {p:Bool} {a:Option Addr} {na ca:Nat} {d:Option Addr} {nd cd:Nat} {r:Rat} {S:Nat} (w:World) (hr:TR w p a na ca d nd cd r S) (hS:S≤7000000) (hS1:1≤S) (hT:TB w) :
  Calls Tryz.prog 22 #[.agg #[.bool p,.slice a na ca,.slice d nd cd]] w fun e w'=>∃ f c n k c' n' k',e = .returned (.agg #[.bool f,.slice c n k,.slice c' n' k'])∧GR w' w.heap.size f c n k c' n' k' (r) (S)∧Below w.heap.size w w':=by
 obtain ⟨P0,R0,hb0,hsz⟩:=box_rr w (.bool p) (.slice a na ca) (.slice d nd cd) (.bool false) (.slice none 0 0) (.slice none 0 0) 27
 replace hr:=hr.below hb0
 replace hT:=hT.below hb0
 go_enter Tryz.func22,Tryz.ntmps22
 obtain ⟨p0,p1,p2,p3,p4,p5⟩:=id P0
 go_wp2_with fail
 generalize (w.alloc (.cells #[.bool p,.slice a na ca,.slice d nd cd] 27)).alloc (.cells #[.bool false,.slice none 0 0,.slice none 0 0] 27)=W0 at *
 refine (partsR _ hr (by omega) hS1).mono ?_
 rintro e w1 ⟨f,c,n,k,g,c',n',k',x',y',rfl,T1,T2,hy,hq,hx⟩
 replace R0:=R0.below hx
 replace hT:=hT.below hx
 replace hb0:=bel_tr hb0 hx
 have hs1:=Below.size hx
 clear hx p0 p1 p2 p3 p4 p5 P0 hr
 go_wp2_with fail
 refine (lowestR _ T1 T2 (by omega) (by omega) hT).mono ?_
 rintro e w2 ⟨f1,c1,n1,k1,c2,n2,k2,rfl,GG,hx⟩
 replace GG:=GG.val hq
 replace R0:=R0.below hx
 replace hb0:=bel_tr hb0 hx
 have hs2:=Below.size hx
 clear hx T1 T2 hT
 obtain ⟨r0,r1,r2,r3,r4,r5⟩:=id R0
 obtain ⟨V,O⟩:=R0.set (.bool f1) (.slice c1 n1 k1) (.slice c2 n2 k2)
 have GF:=GG.off O (by omega)
 have hw:=hb0.trans (O.below (by omega))
 clear R0 O GG hb0
 go_wp2
 refine bodyPost_ret (v:=.agg #[.bool f1,.slice c1 n1 k1,.slice c2 n2 k2]) (by simp [results,Tryz.results22,go_sem,V.c0,V.c1,V.c2]) rfl ⟨_,_,_,_,_,_,_,rfl,GF.mono (by omega),hw⟩
set_option maxHeartbeats 2000000 in
theorem rsignR {p:Bool} {a:Option Addr} {na ca:Nat} {d:Option Addr} {nd cd:Nat} {r:Rat} {S:Nat} (w:World) (hr:TR w p a na ca d nd cd r S) (hS:S≤9000000) (hS1:1≤S) :
  Calls Tryz.prog 45 #[.agg #[.bool p,.slice a na ca,.slice d nd cd]] w fun e w'=>∃ z:Int,e = .returned (.int .i64 z)∧z=r.num.sign∧Below w.heap.size w w':=by
 have P0:=var3_new w (.bool p) (.slice a na ca) (.slice d nd cd) 27
 have hb0:=bel_d0 w (.cells #[.bool p,.slice a na ca,.slice d nd cd] 27)
 replace hr:=hr.below hb0
 go_enter Tryz.func45,Tryz.ntmps45
 obtain ⟨p0,p1,p2,p3,p4,p5⟩:=id P0
 go_wp2_with fail
 generalize w.alloc (.cells #[.bool p,.slice a na ca,.slice d nd cd] 27)=W0 at *
 refine (partsR _ hr (by omega) hS1).mono ?_
 rintro e w1 ⟨f,c,n,k,g,c',n',k',x',y',rfl,T1,T2,hy,hq,hx⟩
 replace hb0:=bel_tr hb0 hx
 clear hx p0 p1 p2 p3 p4 p5 P0 hr T2
 obtain ⟨V3,V4,hx,hsx⟩:=box2 w1 (.bool f) (.slice c n k) (.bool g) (.slice c' n' k') 25
 replace T1:=T1.below hx
 replace hb0:=bel_tr hb0 hx
 clear hx hsx V4
 obtain ⟨v0,v1,v2,v3⟩:=id V3
 go_wp2_with fail
 generalize (w1.alloc (.cells #[.bool f,.slice c n k] 25)).alloc (.cells #[.bool g,.slice c' n' k'] 25)=w2 at *
 refine (signT _ T1 (by omega)).mono ?_
 rintro e w3 ⟨rfl,hx⟩
 have hw:=bel_tr hb0 hx
 have HZ:Hid (x'.sign=r.num.sign):=by
  show _=_
  rw [← hq,Rat.num_divInt]
  have e1:y'.sign=1:=Int.sign_eq_one_of_pos hy
  rw [e1,Int.one_mul]
  exact (sign_quot (by have h:=Int.gcd_pos_of_ne_zero_left x' (show y'≠0 by omega);omega) (Int.gcd_dvd_right ..)).symm
 clear hx hb0 T1 V3 v0 v1 v2 v3
 go_wp2
 go_ret
 exact ⟨_,rfl,HZ.out,hw⟩
theorem box_rrr (w:World) (u v z u' v' z' u2 v2 z2:Value) (t:TypeId):Var3 (((w.alloc (.cells #[u,v,z] t)).alloc (.cells #[u',v',z'] t)).alloc (.cells #[u2,v2,z2] t)) w.heap.size u v z∧Var3 (((w.alloc (.cells #[u,v,z] t)).alloc (.cells #[u',v',z'] t)).alloc (.cells #[u2,v2,z2] t)) (w.heap.size+1) u' v' z'∧Var3 (((w.alloc (.cells #[u,v,z] t)).alloc (.cells #[u',v',z'] t)).alloc (.cells #[u2,v2,z2] t)) (w.heap.size+2) u2 v2 z2 ∧
  Below w.heap.size w (((w.alloc (.cells #[u,v,z] t)).alloc (.cells #[u',v',z'] t)).alloc (.cells #[u2,v2,z2] t))∧(((w.alloc (.cells #[u,v,z] t)).alloc (.cells #[u',v',z'] t)).alloc (.cells #[u2,v2,z2] t)).heap.size=w.heap.size+3:=by
 obtain ⟨a1,a2,a3,a4⟩:=box_rr w u v z u' v' z' t
 have h:=var3_new ((w.alloc (.cells #[u,v,z] t)).alloc (.cells #[u',v',z'] t)) u2 v2 z2 t
 rw [a4] at h
 exact ⟨a1.alloc _,a2.alloc _,h,a3.trans ((bel_d0 _ _).mono (by simp;omega)),by simp⟩
theorem set3_far {w:World} {R:Nat} {p:Addr} {u v z x:Value} (h:w.cell? p=some x) (hp:p.block≠R):(((w.setCell ⟨R,0,none⟩ u).setCell ⟨R,1,none⟩ v).setCell ⟨R,2,none⟩ z).cell? p=some x:=by
 rw [World.cell?_setCell_far _ _ _ _ (Ne.symm hp),World.cell?_setCell_far _ _ _ _ (Ne.symm hp),World.cell?_setCell_far _ _ _ _ (Ne.symm hp)];exact h
theorem TI.le {w:World} {b:Bool} {a:Option Addr} {n c:Nat} {x:Int} {S R:Nat} (h:TI w b a n c x S) (hR:S≤R):TI w b a n c x R:=by
 obtain ⟨m,⟨xs,h1,h2,h3,h4,h5,h6⟩,h7⟩:=h
 exact ⟨m,⟨xs,h1,h2,h3,h4,h5,by omega⟩,h7⟩
theorem mul_lt {x y:Int} {S R:Nat} (hx:(x.natAbs:Int)<pw S) (hy:(y.natAbs:Int)<pw R):((x*y).natAbs:Int)<pw (S+R):=by
 rw [Int.natAbs_mul,Int.natCast_mul,pw_add]
 have h1:=pw_pos R
 by_cases h:(y.natAbs:Int)=0
 ·rw [h,Int.mul_zero];exact Int.mul_pos (pw_pos S) h1
 ·exact Int.lt_of_lt_of_le (Int.mul_lt_mul_of_pos_right hx (by omega)) (Int.mul_le_mul_of_nonneg_left (Int.le_of_lt hy) (Int.le_of_lt (pw_pos S)))
theorem add_lt {x y:Int} {S:Nat} (hx:(x.natAbs:Int)<pw S) (hy:(y.natAbs:Int)<pw S):((x+y).natAbs:Int)<pw (S+1):=by
 rw [pw_succ]
 have h1:=pw_pos S
 omega
set_option maxHeartbeats 4000000 in
theorem addQ {p q:Bool} {a b:Option Addr} {na nb ca cb:Nat} {d e0:Option Addr} {nd ne cd ce:Nat} {r s:Rat} {S R:Nat} (w:World) (hr:TR w p a na ca d nd cd r S) (hs:TR w q b nb cb e0 ne ce s R) (hSR:S+R≤6000000) (hS1:1≤S) (hR1:1≤R) (hT:TB w) :
  Calls Tryz.prog 49 #[.agg #[.bool p,.slice a na ca,.slice d nd cd],.agg #[.bool q,.slice b nb cb,.slice e0 ne ce]] w fun e w'=>∃ f c n k c' n' k',e = .returned (.agg #[.bool f,.slice c n k,.slice c' n' k'])∧GR w' w.heap.size f c n k c' n' k' (r+s) (S+R+1)∧Below w.heap.size w w':=by
 obtain ⟨P0,P1,R0,hb0,hsz⟩:=box_rrr w (.bool p) (.slice a na ca) (.slice d nd cd) (.bool q) (.slice b nb cb) (.slice e0 ne ce) (.bool false) (.slice none 0 0) (.slice none 0 0) 27
 replace hr:=hr.below hb0
 replace hs:=hs.below hb0
 replace hT:=hT.below hb0
 go_enter Tryz.func49,Tryz.ntmps49
 obtain ⟨p0c0,p0c1,p0c2,p0c3,p0c4,p0c5⟩:=id P0
 obtain ⟨p1c0,p1c1,p1c2,p1c3,p1c4,p1c5⟩:=id P1
 go_wp2_with fail
 generalize ((w.alloc (.cells #[.bool p,.slice a na ca,.slice d nd cd] 27)).alloc (.cells #[.bool q,.slice b nb cb,.slice e0 ne ce] 27)).alloc (.cells #[.bool false,.slice none 0 0,.slice none 0 0] 27)=W0 at *
 refine (partsR _ hr (by omega) hS1).mono ?_
 rintro e w1 ⟨f1,c1,n1,k1,f2,c2,n2,k2,x1,y1,rfl,T1,T2,hy1,hq1,hx⟩
 clear p0c0 p0c1 p0c2 p0c3 p0c4 p0c5 p1c0 p1c1 p1c2 p1c3 p1c4 p1c5
 replace hr:=hr.below hx
 replace hs:=hs.below hx
 replace hT:=hT.below hx
 replace R0:=R0.below hx
 replace P0:=P0.below hx
 replace P1:=P1.below hx
 replace hb0:=bel_tr hb0 hx
 have hsw1:W0.heap.size≤w1.heap.size:=Below.size hx
 clear hx
 obtain ⟨p0c0,p0c1,p0c2,p0c3,p0c4,p0c5⟩:=id P0
 obtain ⟨p1c0,p1c1,p1c2,p1c3,p1c4,p1c5⟩:=id P1
 clear p0c0 p0c1 p0c2 p0c3 p0c4 p0c5 P0
 clear hr
 obtain ⟨V1,V2,hx,hsxw2⟩:=box2 w1 (.bool f1) (.slice c1 n1 k1) (.bool f2) (.slice c2 n2 k2) 25
 clear p1c0 p1c1 p1c2 p1c3 p1c4 p1c5
 replace hs:=hs.below hx
 replace hT:=hT.below hx
 replace R0:=R0.below hx
 replace T1:=T1.below hx
 replace T2:=T2.below hx
 replace P1:=P1.below hx
 replace hb0:=bel_tr hb0 hx
 have hsw2:w1.heap.size≤((w1.alloc (.cells #[.bool f1,.slice c1 n1 k1] 25)).alloc (.cells #[.bool f2,.slice c2 n2 k2] 25)).heap.size:=Below.size hx
 clear hx
 obtain ⟨p1c0,p1c1,p1c2,p1c3,p1c4,p1c5⟩:=id P1
 obtain ⟨v1c0,v1c1,v1c2,v1c3⟩:=id V1
 obtain ⟨v2c0,v2c1,v2c2,v2c3⟩:=id V2
 go_wp2_with fail
 generalize (w1.alloc (.cells #[.bool f1,.slice c1 n1 k1] 25)).alloc (.cells #[.bool f2,.slice c2 n2 k2] 25)=w2 at *
 refine (partsR _ hs (by omega) hR1).mono ?_
 rintro e w3 ⟨f3,c3,n3,k3,f4,c4,n4,k4,x2,y2,rfl,T3,T4,hy2,hq2,hx⟩
 clear p1c0 p1c1 p1c2 p1c3 p1c4 p1c5 v1c0 v1c1 v1c2 v1c3 v2c0 v2c1 v2c2 v2c3
 replace hs:=hs.below hx
 replace hT:=hT.below hx
 replace R0:=R0.below hx
 replace T1:=T1.below hx
 replace T2:=T2.below hx
 replace P1:=P1.below hx
 replace V1:=V1.below hx
 replace V2:=V2.below hx
 replace hb0:=bel_tr hb0 hx
 have hsw3:w2.heap.size≤w3.heap.size:=Below.size hx
 clear hx
 obtain ⟨p1c0,p1c1,p1c2,p1c3,p1c4,p1c5⟩:=id P1
 obtain ⟨v1c0,v1c1,v1c2,v1c3⟩:=id V1
 obtain ⟨v2c0,v2c1,v2c2,v2c3⟩:=id V2
 clear p1c0 p1c1 p1c2 p1c3 p1c4 p1c5 P1
 clear hs
 obtain ⟨V3,V4,hx,hsxw4⟩:=box2 w3 (.bool f3) (.slice c3 n3 k3) (.bool f4) (.slice c4 n4 k4) 25
 clear v1c0 v1c1 v1c2 v1c3 v2c0 v2c1 v2c2 v2c3
 replace hT:=hT.below hx
 replace R0:=R0.below hx
 replace T1:=T1.below hx
 replace T2:=T2.below hx
 replace T3:=T3.below hx
 replace T4:=T4.below hx
 replace V1:=V1.below hx
 replace V2:=V2.below hx
 replace hb0:=bel_tr hb0 hx
 have hsw4:w3.heap.size≤((w3.alloc (.cells #[.bool f3,.slice c3 n3 k3] 25)).alloc (.cells #[.bool f4,.slice c4 n4 k4] 25)).heap.size:=Below.size hx
 clear hx
 obtain ⟨v1c0,v1c1,v1c2,v1c3⟩:=id V1
 obtain ⟨v2c0,v2c1,v2c2,v2c3⟩:=id V2
 obtain ⟨v3c0,v3c1,v3c2,v3c3⟩:=id V3
 obtain ⟨v4c0,v4c1,v4c2,v4c3⟩:=id V4
 go_wp2_with fail
 generalize (w3.alloc (.cells #[.bool f3,.slice c3 n3 k3] 25)).alloc (.cells #[.bool f4,.slice c4 n4 k4] 25)=w4 at *
 have L1:=T1.lt
 have L2:=T2.lt
 have L3:=T3.lt
 have L4:=T4.lt
 have LL:=add_lt (mul_lt L1 L4) (by have h:=mul_lt L3 L2;rw [Nat.add_comm R S] at h;exact h)
 clear L1 L2 L3 L4
 have hyy:y1*y2≠0:=Int.ne_of_gt (Int.mul_pos hy1 hy2)
 have HV:Hid (Rat.divInt (x1*y2+x2*y1) (y1*y2)=r+s):=by show _=_;rw [← hq1,← hq2,Rat.divInt_add_divInt _ _ (by omega) (by omega)]
 go_region_held3 (fun w'=>w'.cell? ⟨w1.heap.size,0,none⟩=some (.bool f1)∧w'.cell? ⟨w1.heap.size,1,none⟩=some (.slice c1 n1 k1)∧w'.cell? ⟨w1.heap.size+1,0,none⟩=some (.bool f2)∧w'.cell? ⟨w1.heap.size+1,1,none⟩=some (.slice c2 n2 k2)∧w'.cell? ⟨w3.heap.size,0,none⟩=some (.bool f3)∧w'.cell? ⟨w3.heap.size,1,none⟩=some (.slice c3 n3 k3)∧w'.cell? ⟨w3.heap.size+1,0,none⟩=some (.bool f4)∧w'.cell? ⟨w3.heap.size+1,1,none⟩=some (.slice c4 n4 k4))
   (refine ⟨?_,?_,?_,?_,?_,?_,?_,?_⟩ <;> first|with_reducible exact kept_c hc5 (by assumption)|with_reducible exact kept_c hc4 (by assumption)|with_reducible exact kept_c hc3 (by assumption)|with_reducible exact kept_c hc2 (by assumption)|with_reducible exact kept_c hc1 (by assumption)|with_reducible exact kept_c (bel_d1 _) (by assumption)|with_reducible exact set3_far (kept_c hc5 (by assumption)) (by simp <;> omega))
   ((first
    | (go_at_call 66;go_fit (mulT _ (T1.below (bel_d1 _)) (T4.below (bel_d1 _)) (by omega) (by omega));rintro e v5_1 ⟨g1,u1,m1,l1,rfl,K1,hb1⟩;have hd1:Below w4.heap.size w4 v5_1:=(by first|exact hb1|exact bel_tr (bel_d1 w4) hb1);have hc1:=hd1)
    | (go_at_call 66;go_fit (mulT _ (T3.below hc1) (T2.below hc1) (by omega) (by omega));rintro e v5_2 ⟨g2,u2,m2,l2,rfl,K2,hb2⟩;have hd2:Below v5_1.heap.size v5_1 v5_2:=(by first|exact hb2|exact bel_tr (bel_d1 v5_1) hb2);have hc2:=bel_tr hc1 hd2)
    | (go_at_call 65;go_fit (addT _ (K1.below hd2).ti K2.ti (by omega) (by omega));rintro e v5_3 ⟨g3,u3,m3,l3,rfl,K3,hb3⟩;have hd3:Below v5_2.heap.size v5_2 v5_3:=(by first|exact hb3|exact bel_tr (bel_d1 v5_2) hb3);have hc3:=bel_tr hc2 hd3)
    | (go_at_call 66;go_fit (mulT _ (T2.below hc3) (T4.below hc3) (by omega) (by omega));rintro e v5_4 ⟨g4,u4,m4,l4,rfl,K4,hb4⟩;have hd4:Below v5_3.heap.size v5_3 v5_4:=(by first|exact hb4|exact bel_tr (bel_d1 v5_3) hb4);have hc4:=bel_tr hc3 hd4)
    | (go_at_call 40;go_fit (lowestR _ (((K3.shrink LL).below hd4).ti) (K4.ti.le (by omega)) hyy (by omega) (hT.below hc4));rintro e v5_5 ⟨g5,u5,m5,l5,u6,m6,l6,rfl,GG,hb5⟩;have hd5:Below v5_4.heap.size v5_4 v5_5:=(by first|exact hb5|exact bel_tr (bel_d1 v5_4) hb5);have hc5:=bel_tr hc4 hd5;have RZ:=R0.below hc5;obtain ⟨z0,z1,z2,z3,z4,z5⟩:=id RZ)))
 replace GG:=GG.val HV.out
 replace hb0:=bel_tr hb0 hc5
 have hs5:=Below.size hc5
 have hs4v:=Below.size hc4
 clear hb1 hb2 hb3 hb4 hb5 hc1 hc2 hc3 hc4 hc5 hd1 hd2 hd3 hd4 hd5 K1 K2 K3 K4 T1 T2 T3 T4 R0 hT LL hyy
 clear v1c0 v1c1 v1c2 v1c3 v2c0 v2c1 v2c2 v2c3 v3c0 v3c1 v3c2 v3c3 v4c0 v4c1 v4c2 v4c3
 clear V1 V2 V3 V4
 obtain ⟨V,O⟩:=RZ.set (.bool g5) (.slice u5 m5 l5) (.slice u6 m6 l6)
 have hsl:w.heap.size+3≤w4.heap.size:=by omega
 have GF:=(GG.mono (B':=w.heap.size+3) (by omega)).off O (by omega)
 have hw:=hb0.trans (O.below (by omega))
 clear RZ O GG hb0 z0 z1 z2 z3 z4 z5
 go_wp2
 refine bodyPost_ret (v:=.agg #[.bool g5,.slice u5 m5 l5,.slice u6 m6 l6]) (by simp [results,Tryz.results49,go_sem,V.c0,V.c1,V.c2]) rfl ⟨_,_,_,_,_,_,_,rfl,GF.mono (by omega),hw⟩
end Go.Proofs.YtceigfafmalfgaaGreatDoor

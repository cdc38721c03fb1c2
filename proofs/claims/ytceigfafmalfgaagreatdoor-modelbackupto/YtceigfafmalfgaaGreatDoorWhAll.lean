import Derived.Test.YtceigfafmalfgaaGreatDoorNumAll
import Derived.Deep.RegionHeld3
namespace Go.Proofs.YtceigfafmalfgaaGreatDoor
open Go.RowKit
def ws (b:Bool) (m:Int):Int:=if b then -m else m
set_option maxHeartbeats 1000000 in
theorem signed_any (b:Bool) (a:Option Addr) (n c:Nat) (w:World) :
  Calls Tryz.prog 73 #[.bool b,.slice a n c] w fun e w'=>e = .returned (.agg #[.bool (b && decide (0<n)),.slice a n c])∧Below w.heap.size w w':=by
 cases b with
 | false =>
  go_enter Tryz.func73,Tryz.ntmps73
  go_wp2
  refine bodyPost_ret (v:=.agg #[.bool false,.slice a n c]) (by simp [results,Tryz.results73,go_sem]) rfl ⟨rfl,(Below.refl _ _).alloc (Nat.le_refl _) _⟩
 | true =>
  go_enter Tryz.func73,Tryz.ntmps73
  go_wp2
  refine bodyPost_ret (v:=.agg #[.bool (decide (0<n)),.slice a n c]) (by simp [results,Tryz.results73,go_sem]) rfl ⟨rfl,(Below.refl _ _).alloc (Nat.le_refl _) _⟩
theorem ws_lt {b:Bool} {m:Int} (hm:0≤m):(b && decide (0<m))=decide (ws b m<0):=by
 unfold ws
 cases b with
 | false=>simp;omega
 | true=>simp
theorem ws_abs {b:Bool} {m:Int} (hm:0≤m):((ws b m).natAbs:Int)=m:=by unfold ws;cases b <;> simp <;> omega
theorem ws_not (b:Bool) (m:Int):ws (!b) m = -ws b m:=by unfold ws;cases b <;> simp
theorem ws_zero (b:Bool):ws b 0=0:=by unfold ws;cases b <;> simp
theorem ws_mul (b c:Bool) (m k:Int):ws b m*ws c k=ws (b != c) (m*k):=by unfold ws;cases b <;> cases c <;> simp [Int.neg_mul,Int.mul_neg]
theorem ws_sign (x:Int):ws (decide (x<0)) (x.natAbs:Int)=x:=by unfold ws;by_cases h:x<0 <;> simp [h] <;> omega
theorem Got.pos {w:World} {B:Nat} {a:Option Addr} {n c:Nat} {m:Int} {S:Nat} (h:Got w B (.slice a n c) m S):0≤m∧(0<n↔0<m):=by
 obtain ⟨xs,h1,h2,h3,h4⟩:=h
 obtain ⟨r1,r2,r3⟩:=h1.reads
 have h0:=val_nn h2.1
 have hz:=tlen_zero h2.1
 rw [h2.2] at hz
 omega
def GI (w:World) (B:Nat) (v:Value) (x:Int) (S:Nat):Prop:=∃ a n c,v = .agg #[.bool (decide (x<0)),.slice a n c]∧Got w B (.slice a n c) (x.natAbs:Int) S
theorem GI.below {w w':World} {B:Nat} {v:Value} {x:Int} {S:Nat} (h:GI w B v x S) (hb:Below w.heap.size w w'):GI w' B v x S:=by
 obtain ⟨a,n,c,h1,h2⟩:=h;exact ⟨a,n,c,h1,h2.below hb⟩
theorem GI.mono {w:World} {B B':Nat} {v:Value} {x:Int} {S:Nat} (h:GI w B v x S) (hB:B'≤B):GI w B' v x S:=by
 obtain ⟨a,n,c,h1,h2⟩:=h;exact ⟨a,n,c,h1,h2.mono hB⟩
theorem GI.le {w:World} {B:Nat} {v:Value} {x:Int} {S S':Nat} (h:GI w B v x S) (hS:S≤S'):GI w B v x S':=by
 obtain ⟨a,n,c,h1,h2⟩:=h;exact ⟨a,n,c,h1,h2.le hS⟩
theorem GI.val {w:World} {B:Nat} {v:Value} {x y:Int} {S:Nat} (h:GI w B v x S) (e:x=y):GI w B v y S:=e ▸ h
theorem Got.gi {w:World} {B:Nat} {a:Option Addr} {n c:Nat} {m:Int} {S:Nat} (b:Bool) (h:Got w B (.slice a n c) m S):GI w B (.agg #[.bool (b && decide (0<n)),.slice a n c]) (ws b m) S:=by
 obtain ⟨h0,h1⟩:=h.pos
 refine ⟨a,n,c,?_,by rw [ws_abs h0];exact h⟩
 rw [← ws_lt h0]
 congr 4
 simp only [h1]
theorem Got.off {w w':World} {B R:Nat} {v:Value} {x:Int} {S:Nat} (h:Got w B v x S) (ho:Off R w w') (hR:R<B):Got w' B v x S:=by
 obtain ⟨xs,h1,h2⟩:=h
 refine ⟨xs,?_,h2⟩
 refine ⟨h1.1,?_⟩
 rcases h1.2 with hn|⟨g,cap,cur,e1,e2,hgb,rest⟩
 ·exact .inl hn
 ·exact .inr ⟨g,cap,cur,e1,e2,(ho.block g (by omega)).trans hgb,rest⟩
theorem GI.off {w w':World} {B R:Nat} {v:Value} {x:Int} {S:Nat} (h:GI w B v x S) (ho:Off R w w') (hR:R<B):GI w' B v x S:=by
 obtain ⟨a,n,c,h1,h2⟩:=h;exact ⟨a,n,c,h1,h2.off ho hR⟩
structure Var2 (w:World) (R:Nat) (u v:Value):Prop where
 c0:w.cell? ⟨R,0,none⟩=some u
 c1:w.cell? ⟨R,1,none⟩=some v
 f0:w.frozen? ⟨R,0,none⟩=false
 f1:w.frozen? ⟨R,1,none⟩=false
theorem var2_new (w:World) (u v:Value) (t:TypeId):Var2 (w.alloc (.cells #[u,v] t)) w.heap.size u v:=by
 have h:(w.alloc (.cells #[u,v] t)).heap[w.heap.size]? = some (.cells #[u,v] t):=heap_alloc_new _ _
 exact ⟨by unfold World.cell?;rw [h];rfl,by unfold World.cell?;rw [h];rfl,by unfold World.frozen?;rw [h];simp,by unfold World.frozen?;rw [h];simp⟩
theorem Var2.lt {w:World} {R:Nat} {u v:Value} (h:Var2 w R u v):R<w.heap.size:=World.block_lt_of_cell? _ _ h.c0
theorem Var2.below {w w':World} {R:Nat} {u v:Value} (h:Var2 w R u v) (hb:Below w.heap.size w w'):Var2 w' R u v:=by
 have e:=hb.block R h.lt
 exact ⟨(World.cell?_of_block (a:=⟨R,0,none⟩) e).trans h.c0,(World.cell?_of_block (a:=⟨R,1,none⟩) e).trans h.c1,(World.frozen?_of_block (a:=⟨R,0,none⟩) e).trans h.f0,(World.frozen?_of_block (a:=⟨R,1,none⟩) e).trans h.f1⟩
theorem Var2.set {w:World} {R:Nat} {u v:Value} (h:Var2 w R u v) (u' v':Value):Var2 ((w.setCell ⟨R,0,none⟩ u').setCell ⟨R,1,none⟩ v') R u' v'∧Off R w ((w.setCell ⟨R,0,none⟩ u').setCell ⟨R,1,none⟩ v'):=by
 refine ⟨⟨?_,?_,?_,?_⟩,((Off.refl _ _).set 0 u').set 1 v'⟩
 ·rw [World.cell?_setCell_other _ _ _ _ (by simp),World.cell?_setCell_same _ _ _ h.c0]
 ·rw [World.cell?_setCell_same _ _ _ ((World.cell?_setCell_other _ _ _ _ (by simp)).trans h.c1)]
 ·rw [World.frozen?_setCell,World.frozen?_setCell];exact h.f0
 ·rw [World.frozen?_setCell,World.frozen?_setCell];exact h.f1
theorem box1 (w:World) (u0 v0:Value) (t:TypeId):Var2 (w.alloc (.cells #[u0,v0] t)) w.heap.size u0 v0∧Below w.heap.size w (w.alloc (.cells #[u0,v0] t))∧(w.alloc (.cells #[u0,v0] t)).heap.size=w.heap.size+1 :=
 ⟨var2_new _ _ _ _,(Below.refl _ _).alloc (Nat.le_refl _) _,by simp⟩
theorem Var2.alloc {w:World} {R:Nat} {u v:Value} (h:Var2 w R u v) (o:Obj):Var2 (w.alloc o) R u v:=h.below ((Below.refl _ _).alloc (Nat.le_refl _) _)
theorem box2 (w:World) (u0 v0 u1 v1:Value) (t:TypeId):Var2 ((w.alloc (.cells #[u0,v0] t)).alloc (.cells #[u1,v1] t)) w.heap.size u0 v0∧Var2 ((w.alloc (.cells #[u0,v0] t)).alloc (.cells #[u1,v1] t)) (w.heap.size+1) u1 v1 ∧
  Below w.heap.size w ((w.alloc (.cells #[u0,v0] t)).alloc (.cells #[u1,v1] t))∧((w.alloc (.cells #[u0,v0] t)).alloc (.cells #[u1,v1] t)).heap.size=w.heap.size+2:=by
 obtain ⟨a1,a2,a3⟩:=box1 w u0 v0 t
 have h:=var2_new (w.alloc (.cells #[u0,v0] t)) u1 v1 t
 rw [World.size_alloc] at h
 exact ⟨a1.alloc _,h,a2.alloc (by simp) _,by simp⟩
theorem box3 (w:World) (u0 v0 u1 v1 u2 v2:Value) (t:TypeId):Var2 (((w.alloc (.cells #[u0,v0] t)).alloc (.cells #[u1,v1] t)).alloc (.cells #[u2,v2] t)) w.heap.size u0 v0∧Var2 (((w.alloc (.cells #[u0,v0] t)).alloc (.cells #[u1,v1] t)).alloc (.cells #[u2,v2] t)) (w.heap.size+1) u1 v1 ∧
  Var2 (((w.alloc (.cells #[u0,v0] t)).alloc (.cells #[u1,v1] t)).alloc (.cells #[u2,v2] t)) (w.heap.size+2) u2 v2 ∧
  Below w.heap.size w (((w.alloc (.cells #[u0,v0] t)).alloc (.cells #[u1,v1] t)).alloc (.cells #[u2,v2] t))∧(((w.alloc (.cells #[u0,v0] t)).alloc (.cells #[u1,v1] t)).alloc (.cells #[u2,v2] t)).heap.size=w.heap.size+3:=by
 obtain ⟨a1,a2,a3,a4⟩:=box2 w u0 v0 u1 v1 t
 have h:=var2_new ((w.alloc (.cells #[u0,v0] t)).alloc (.cells #[u1,v1] t)) u2 v2 t
 rw [a4] at h
 exact ⟨a1.alloc _,a2.alloc _,h,a3.alloc (by simp;omega) _,by simp⟩
theorem box4 (w:World) (u0 v0 u1 v1 u2 v2 u3 v3:Value) (t:TypeId):Var2 ((((w.alloc (.cells #[u0,v0] t)).alloc (.cells #[u1,v1] t)).alloc (.cells #[u2,v2] t)).alloc (.cells #[u3,v3] t)) w.heap.size u0 v0∧Var2 ((((w.alloc (.cells #[u0,v0] t)).alloc (.cells #[u1,v1] t)).alloc (.cells #[u2,v2] t)).alloc (.cells #[u3,v3] t)) (w.heap.size+1) u1 v1 ∧
  Var2 ((((w.alloc (.cells #[u0,v0] t)).alloc (.cells #[u1,v1] t)).alloc (.cells #[u2,v2] t)).alloc (.cells #[u3,v3] t)) (w.heap.size+2) u2 v2∧Var2 ((((w.alloc (.cells #[u0,v0] t)).alloc (.cells #[u1,v1] t)).alloc (.cells #[u2,v2] t)).alloc (.cells #[u3,v3] t)) (w.heap.size+3) u3 v3 ∧
  Below w.heap.size w ((((w.alloc (.cells #[u0,v0] t)).alloc (.cells #[u1,v1] t)).alloc (.cells #[u2,v2] t)).alloc (.cells #[u3,v3] t))∧((((w.alloc (.cells #[u0,v0] t)).alloc (.cells #[u1,v1] t)).alloc (.cells #[u2,v2] t)).alloc (.cells #[u3,v3] t)).heap.size=w.heap.size+4:=by
 obtain ⟨a1,a2,a3,a4,a5⟩:=box3 w u0 v0 u1 v1 u2 v2 t
 have h:=var2_new (((w.alloc (.cells #[u0,v0] t)).alloc (.cells #[u1,v1] t)).alloc (.cells #[u2,v2] t)) u3 v3 t
 rw [a5] at h
 exact ⟨a1.alloc _,a2.alloc _,a3.alloc _,h,a4.alloc (by simp;omega) _,by simp⟩
theorem kept_c {w w':World} {p:Addr} {u:Value} (hb:Below w.heap.size w w') (h:w.cell? p=some u):w'.cell? p=some u:=(hb.cell (World.block_lt_of_cell? _ _ h)).trans h
theorem set2_far {w:World} {R j:Nat} {p:Addr} {u v x:Value} (h:w.cell? p=some x) (hp:p.block≠R):((w.setCell ⟨R,0,none⟩ u).setCell ⟨R,j,none⟩ v).cell? p=some x:=by
 rw [World.cell?_setCell_far _ _ _ _ (Ne.symm hp),World.cell?_setCell_far _ _ _ _ (Ne.symm hp)];exact h
theorem Var2.off {w w':World} {R g:Nat} {u v:Value} (h:Var2 w R u v) (o:Off g w w') (hg:R≠g):Var2 w' R u v:=by
 have e:=o.block R hg
 exact ⟨(World.cell?_of_block (a:=⟨R,0,none⟩) e).trans h.c0,(World.cell?_of_block (a:=⟨R,1,none⟩) e).trans h.c1,(World.frozen?_of_block (a:=⟨R,0,none⟩) e).trans h.f0,(World.frozen?_of_block (a:=⟨R,1,none⟩) e).trans h.f1⟩
set_option maxHeartbeats 1000000 in
theorem mulI {a b:Option Addr} {na nb ca cb:Nat} {m k:Int} {S R:Nat} (p q:Bool) (w:World) (ha:Num w a na ca m S) (hb:Num w b nb cb k R) (hS:S≤10000000000) (hR:R≤10000000000) :
  Calls Tryz.prog 66 #[.agg #[.bool p,.slice a na ca],.agg #[.bool q,.slice b nb cb]] w fun e w'=>∃ v,e = .returned v∧GI w' w.heap.size v (ws p m*ws q k) (S+R)∧Below w.heap.size w w':=by
 obtain ⟨P0,P1,R0,hb0,hsz⟩:=box3 w (.bool p) (.slice a na ca) (.bool q) (.slice b nb cb) (.bool false) (.slice none 0 0) 25
 replace ha:=ha.below hb0
 replace hb:=hb.below hb0
 go_enter Tryz.func66,Tryz.ntmps66
 go_wp2_with fail
 generalize ((w.alloc (.cells #[.bool p,.slice a na ca] 25)).alloc (.cells #[.bool q,.slice b nb cb] 25)).alloc (.cells #[.bool false,.slice none 0 0] 25)=W0 at *
 obtain ⟨p0,p1,p2,p3⟩:=id P0
 obtain ⟨q0,q1,q2,q3⟩:=id P1
 go_region_held3 (fun w'=>w'.cell? ⟨w.heap.size,0,none⟩=some (.bool p)∧w'.cell? ⟨w.heap.size,1,none⟩=some (.slice a na ca)∧w'.cell? ⟨w.heap.size+1,0,none⟩=some (.bool q)∧w'.cell? ⟨w.heap.size+1,1,none⟩=some (.slice b nb cb))
  (first|(go_keep;done)|(refine ⟨?_,?_,?_,?_⟩ <;> first|exact kept_c hb2 (by go_keep)|exact kept_c hb1 (by go_keep))|(refine ⟨?_,?_,?_,?_⟩ <;> first|exact set2_far (by go_keep) (by simp <;> omega)|exact kept_c (by assumption) (by assumption)))
  ((first
   | (go_at_call 84;go_fit (mulG _ (ha.drewN _) (hb.drewN _) (by omega) (by omega));rintro e w1 ⟨c1,n1,d1,rfl,G1,hb1⟩;have hc1:=bel_tr (belN (Below.refl _ W0) _) hb1;have R1:=R0.below hc1)
   | (go_at_call 73;go_fit (signed_any _ _ _ _ _);rintro e w2 ⟨rfl,hb2⟩;have hc2:Below w1.heap.size w1 w2:=(by first|exact hb2|exact bel_tr (belN (Below.refl _ w1) 1) hb2);have R2:=R1.below hc2;obtain ⟨r0,r1,r2,r3⟩:=id R2)))
 have GF:GI w2 W0.heap.size (.agg #[.bool (!(p == q) && decide (0<n1)),.slice c1 n1 d1]) (ws p m*ws q k) (S+R):=by rw [ws_mul];exact (G1.gi (p != q)).below hc2
 have hw2:Below w.heap.size w w2:=bel_tr hb0 (bel_tr hc1 hc2)
 obtain ⟨V,O⟩:=R2.set (.bool (!(p == q) && decide (0<n1))) (.slice c1 n1 d1)
 clear hb1 hb2 hc1 hc2 ha hb P0 P1 R0 R1 p0 p1 p2 p3 q0 q1 q2 q3
 go_wp2
 refine bodyPost_ret (v:=.agg #[.bool (!(p == q) && decide (0<n1)),.slice c1 n1 d1]) (by simp [results,Tryz.results66,go_sem,V.c0,V.c1]) rfl ⟨_,rfl,((GF.off O (by omega)).mono (by omega)),hw2.trans (O.below (by omega))⟩
theorem pwN (k:Nat):pw k=((2^(64*k):Nat):Int):=by
 unfold pw
 rw [Nat.pow_mul,Int.natCast_pow]
 rfl
theorem val_bits {xs:List Int} (hx:AllW xs):val xs<((2^(bitsL xs).toNat:Nat):Int):=by
 unfold bitsL
 by_cases h:tlen xs=0
 ·rw [if_pos h,(tlen_zero hx).1 h];decide
 ·rw [if_neg h]
  obtain ⟨k,hk⟩:∃ k,tlen xs=k+1:=⟨tlen xs-1,by omega⟩
  rw [← vS_trim,hk]
  show vS xs k+lm xs k*pw k<_
  have h1:=(vS_nn hx k).2
  have h2:=hx.at k
  have hne:=(tl_spec xs xs.length).2 (by show 0<tlen xs;omega)
  have e:tl xs xs.length=k+1:=hk
  rw [e,Nat.add_sub_cancel] at hne
  rw [Nat.add_sub_cancel]
  obtain ⟨s1,_,_,_⟩:=bitLen_spec (lm xs k).toNat (by have:=h2.2;omega) (by have:=h2.1;omega)
  generalize Lib.bitLen (lm xs k).toNat=L at *
  have e2:(((k+1:Nat):Int)-1)*64+(L:Int)=((64*k+L:Nat):Int):=by omega
  rw [e2,Int.toNat_natCast,Nat.pow_add,Int.natCast_mul,← pwN]
  have h3:lm xs k+1≤((2^L:Nat):Int):=by have:=h2.1;omega
  have h4:=Int.mul_le_mul_of_nonneg_left h3 (Int.le_of_lt (pw_pos k))
  rw [Int.mul_add,Int.mul_comm (pw k) (lm xs k)] at h4
  omega
theorem ws_add (b:Bool) (m k:Int):ws b (m+k)=ws b m+ws b k:=by unfold ws;cases b <;> simp;omega
theorem bitsG {a:Option Addr} {na ca:Nat} {m:Int} {S:Nat} (w:World) (ha:Num w a na ca m S) (hS:S≤10000000000) :
  Calls Tryz.prog 56 #[.slice a na ca] w fun e w'=>∃ t,e = .returned (.int .i64 t)∧(t=0↔m=0)∧w=w':=by
 obtain ⟨xs,h1,h2,h3,h4,h5,h6⟩:=ha
 refine (bits_any a na ca xs w h1 h2 (by omega) h3 h4).mono ?_
 rintro e w' ⟨rfl,rfl⟩
 refine ⟨_,rfl,⟨fun h=>?_,fun h=>bitsL_zero h4 (by omega)⟩,rfl⟩
 have h7:=val_bits h4
 have h8:=val_nn h4
 rw [h] at h7
 have e1:((2^(0:Int).toNat:Nat):Int)=1:=rfl
 rw [e1] at h7
 omega
set_option maxHeartbeats 1000000 in
theorem signI {a:Option Addr} {na ca:Nat} {m:Int} {S:Nat} (p:Bool) (w:World) (ha:Num w a na ca m S) (hS:S≤10000000000) :
  Calls Tryz.prog 62 #[.agg #[.bool p,.slice a na ca]] w fun e w'=>e = .returned (.int .i64 (ws p m).sign)∧Below w.heap.size w w':=by
 have h0:=ha.nn
 have HS:Hid ((m=0→(ws p m).sign=0)∧(m≠0→p=true→(ws p m).sign = -1)∧(m≠0→p=false→(ws p m).sign=1)):=by
  refine ⟨fun h=>?_,fun h h1=>?_,fun h h1=>?_⟩
  ·rw [h,ws_zero];rfl
  ·rw [h1];unfold ws;simp only [if_true];exact Int.sign_eq_neg_one_of_neg (by omega)
  ·rw [h1];unfold ws;simp only [Bool.false_eq_true,if_false];exact Int.sign_eq_one_of_pos (by omega)
 obtain ⟨P0,hb0,hsz⟩:=box1 w (.bool p) (.slice a na ca) 25
 replace ha:=ha.below hb0
 go_enter Tryz.func62,Tryz.ntmps62
 go_wp2_with fail
 generalize w.alloc (.cells #[.bool p,.slice a na ca] 25)=W0 at *
 obtain ⟨p00,p01,p02,p03⟩:=id P0
 refine (bitsG _ ha (by omega)).mono ?_
 rintro e w2 ⟨t,rfl,ht,rfl⟩
 by_cases hm:m=0
 ·have HX:Hid ((ws p m).sign=0):=HS.out.1 hm
  obtain rfl:t=0:=ht.2 hm
  clear HS P0 ha ht h0 hm
  go_wp2
  go_ret
  exact ⟨by rw [HX.out];rfl,hb0⟩
 ·have h1:t≠0:=fun h=>hm (ht.1 h)
  cases p with
  | true =>
   have HX:Hid ((ws true m).sign = -1):=HS.out.2.1 hm rfl
   clear HS P0 ha ht h0 hm
   go_wp2
   go_ret
   exact ⟨by rw [HX.out];rfl,hb0⟩
  | false =>
   have HX:Hid ((ws false m).sign=1):=HS.out.2.2 hm rfl
   clear HS P0 ha ht h0 hm
   go_wp2
   go_ret
   exact ⟨by rw [HX.out];rfl,hb0⟩
set_option maxHeartbeats 1000000 in
theorem addI1 {a b:Option Addr} {na nb ca cb:Nat} {m k:Int} {S R:Nat} (p:Bool) (w:World) (ha:Num w a na ca m S) (hb:Num w b nb cb k R) (hS:S≤10000000000) (hR:R≤10000000000) :
  Calls Tryz.prog 65 #[.agg #[.bool p,.slice a na ca],.agg #[.bool p,.slice b nb cb]] w fun e w'=>∃ v,e = .returned v∧GI w' w.heap.size v (ws p m+ws p k) (S+R+1)∧Below w.heap.size w w':=by
 obtain ⟨P0,P1,R0,hb0,hsz⟩:=box3 w (.bool p) (.slice a na ca) (.bool p) (.slice b nb cb) (.bool false) (.slice none 0 0) 25
 replace ha:=ha.below hb0
 replace hb:=hb.below hb0
 go_enter Tryz.func65,Tryz.ntmps65
 go_wp2_with fail
 generalize ((w.alloc (.cells #[.bool p,.slice a na ca] 25)).alloc (.cells #[.bool p,.slice b nb cb] 25)).alloc (.cells #[.bool false,.slice none 0 0] 25)=W0 at *
 obtain ⟨p00,p01,p02,p03⟩:=id P0
 obtain ⟨p10,p11,p12,p13⟩:=id P1
 go_region_held3 (fun w'=>w'.cell? ⟨w.heap.size,0,none⟩=some (.bool p)∧w'.cell? ⟨w.heap.size,1,none⟩=some (.slice a na ca)∧w'.cell? ⟨w.heap.size+1,0,none⟩=some (.bool p)∧w'.cell? ⟨w.heap.size+1,1,none⟩=some (.slice b nb cb))
  (first|(go_keep;done)|(refine ⟨?_,?_,?_,?_⟩ <;> first|exact kept_c hb2 (by go_keep)|exact kept_c hb1 (by go_keep))|(refine ⟨?_,?_,?_,?_⟩ <;> first|exact set2_far (by go_keep) (by simp <;> omega)|exact kept_c (by assumption) (by assumption)))
  ((first
   | (go_at_call 81;go_fit (addG _ (ha.drewN _) (hb.drewN _) (by omega) (by omega));rintro e w1 ⟨c1,n1,d1,rfl,G1,hb1⟩;have hc1:=bel_tr (belN (Below.refl _ W0) _) hb1;have R1:=R0.below hc1)
   | (go_at_call 73;go_fit (signed_any _ _ _ _ _);rintro e w2 ⟨rfl,hb2⟩;have hc2:Below w1.heap.size w1 w2:=(by first|exact hb2|exact bel_tr (belN (Below.refl _ w1) 1) hb2);have R2:=R1.below hc2;obtain ⟨r0,r1,r2,r3⟩:=id R2)))
 have GF:GI w2 W0.heap.size (.agg #[.bool (p && decide (0<n1)),.slice c1 n1 d1]) (ws p m+ws p k) (S+R+1):=((G1.gi p).below hc2).val (ws_add p m k)
 have hw2:Below w.heap.size w w2:=bel_tr hb0 (bel_tr hc1 hc2)
 obtain ⟨V,O⟩:=R2.set (.bool (p && decide (0<n1))) (.slice c1 n1 d1)
 clear hb1 hb2 hc1 hc2 ha hb P0 P1 R0 R1 p00 p01 p02 p03 p10 p11 p12 p13
 go_wp2
 refine bodyPost_ret (v:=.agg #[.bool (p && decide (0<n1)),.slice c1 n1 d1]) (by simp [results,Tryz.results65,go_sem,V.c0,V.c1]) rfl ⟨_,rfl,((GF.off O (by omega)).mono (by omega)),hw2.trans (O.below (by omega))⟩
set_option maxHeartbeats 1000000 in
theorem addI2 {a b:Option Addr} {na nb ca cb:Nat} {m k:Int} {S R:Nat} (p q:Bool) (w:World) (ha:Num w a na ca m S) (hb:Num w b nb cb k R) (hS:S≤10000000000) (hR:R≤10000000000) (hpq:(p == q)=false) (hmk:k≤m) :
  Calls Tryz.prog 65 #[.agg #[.bool p,.slice a na ca],.agg #[.bool q,.slice b nb cb]] w fun e w'=>∃ v,e = .returned v∧GI w' w.heap.size v (ws p m+ws q k) (S+R+1)∧Below w.heap.size w w':=by
 have HV:Hid (ws p m+ws q k=ws p (m-k)):=by
  show _=_
  cases p <;> cases q <;> simp_all [ws] <;> omega
 obtain ⟨P0,P1,R0,hb0,hsz⟩:=box3 w (.bool p) (.slice a na ca) (.bool q) (.slice b nb cb) (.bool false) (.slice none 0 0) 25
 replace ha:=ha.below hb0
 replace hb:=hb.below hb0
 go_enter Tryz.func65,Tryz.ntmps65
 go_wp2_with fail
 generalize ((w.alloc (.cells #[.bool p,.slice a na ca] 25)).alloc (.cells #[.bool q,.slice b nb cb] 25)).alloc (.cells #[.bool false,.slice none 0 0] 25)=W0 at *
 obtain ⟨p00,p01,p02,p03⟩:=id P0
 obtain ⟨p10,p11,p12,p13⟩:=id P1
 refine (cmpV _ ha hb (by omega) (by omega)).mono ?_
 rintro e w1 ⟨c,rfl,hc,j,rfl⟩
 have hc0:0≤c:=by omega
 have hbj:Below W0.heap.size W0 (W0.drewN j):=belN (Below.refl _ _) j
 replace P0:=P0.below hbj
 replace P1:=P1.below hbj
 replace R0:=R0.below hbj
 replace ha:=ha.below hbj
 replace hb:=hb.below hbj
 replace hb0:=bel_tr hb0 hbj
 have hszj:(W0.drewN j).heap.size=w.heap.size+3:=hsz
 generalize W0.drewN j=W1 at *
 clear hbj hc p00 p01 p02 p03 p10 p11 p12 p13 hsz
 obtain ⟨p00,p01,p02,p03⟩:=id P0
 obtain ⟨p10,p11,p12,p13⟩:=id P1
 go_wp2_with fail
 refine (subG _ ha hb (by omega) (by omega) (by omega)).mono ?_
 rintro e w3 ⟨c1,n1,d1,rfl,G1,hb3⟩
 have R3:=R0.below hb3
 have V3:=P0.below hb3
 have hbw:=bel_tr hb0 hb3
 obtain ⟨x0,x1,x2,x3⟩:=id V3
 clear ha hb P0 P1 R0 p00 p01 p02 p03 p10 p11 p12 p13 hb0
 have hs3:w.heap.size+3≤w3.heap.size:=by have:=hb3.size;omega
 go_wp2_with fail
 refine (signed_any _ _ _ _ _).mono ?_
 rintro e w2 ⟨rfl,hb4⟩
 have R2:=R3.below hb4
 obtain ⟨r0,r1,r2,r3⟩:=id R2
 have GF:GI w2 W1.heap.size (.agg #[.bool (p && decide (0<n1)),.slice c1 n1 d1]) (ws p m+ws q k) (S+R+1):=(((G1.gi p).below hb4).val HV.out.symm).le (by omega)
 have hw2:Below w.heap.size w w2:=bel_tr hbw hb4
 obtain ⟨V,O⟩:=R2.set (.bool (p && decide (0<n1))) (.slice c1 n1 d1)
 clear hb3 hb4 V3 R3 x0 x1 x2 x3 hbw G1
 go_wp2
 refine bodyPost_ret (v:=.agg #[.bool (p && decide (0<n1)),.slice c1 n1 d1]) (by simp [results,Tryz.results65,go_sem,V.c0,V.c1]) rfl ⟨_,rfl,((GF.off O (by omega)).mono (by omega)),hw2.trans (O.below (by omega))⟩
set_option maxHeartbeats 1000000 in
theorem addI3 {a b:Option Addr} {na nb ca cb:Nat} {m k:Int} {S R:Nat} (p q:Bool) (w:World) (ha:Num w a na ca m S) (hb:Num w b nb cb k R) (hS:S≤10000000000) (hR:R≤10000000000) (hpq:(p == q)=false) (hmk:m<k) :
  Calls Tryz.prog 65 #[.agg #[.bool p,.slice a na ca],.agg #[.bool q,.slice b nb cb]] w fun e w'=>∃ v,e = .returned v∧GI w' w.heap.size v (ws p m+ws q k) (S+R+1)∧Below w.heap.size w w':=by
 have HV:Hid (ws p m+ws q k=ws q (k-m)):=by
  show _=_
  cases p <;> cases q <;> simp_all [ws] <;> omega
 have ha0:=ha
 have hb00:=hb
 obtain ⟨P0,P1,R0,hb0,hsz⟩:=box3 w (.bool p) (.slice a na ca) (.bool q) (.slice b nb cb) (.bool false) (.slice none 0 0) 25
 replace ha:=ha.below hb0
 replace hb:=hb.below hb0
 go_enter Tryz.func65,Tryz.ntmps65
 go_wp2_with fail
 generalize ((w.alloc (.cells #[.bool p,.slice a na ca] 25)).alloc (.cells #[.bool q,.slice b nb cb] 25)).alloc (.cells #[.bool false,.slice none 0 0] 25)=W0 at *
 obtain ⟨p00,p01,p02,p03⟩:=id P0
 obtain ⟨p10,p11,p12,p13⟩:=id P1
 refine (cmpV _ ha hb (by omega) (by omega)).mono ?_
 rintro e w1 ⟨c,rfl,hc,j,rfl⟩
 obtain rfl:c = -1:=by omega
 have hbj:Below W0.heap.size W0 (W0.drewN j):=belN (Below.refl _ _) j
 replace P0:=P0.below hbj
 replace P1:=P1.below hbj
 replace R0:=R0.below hbj
 replace ha:=ha.below hbj
 replace hb:=hb.below hbj
 replace hb0:=bel_tr hb0 hbj
 have hszj:(W0.drewN j).heap.size=w.heap.size+3:=hsz
 generalize W0.drewN j=W1 at *
 clear hbj hc p00 p01 p02 p03 p10 p11 p12 p13 hsz
 obtain ⟨p00,p01,p02,p03⟩:=id P0
 obtain ⟨p10,p11,p12,p13⟩:=id P1
 obtain ⟨V0,O0⟩:=P0.set (.bool q) (.slice b nb cb)
 have P1':=P1.off O0 (by omega)
 obtain ⟨V1,O1⟩:=P1'.set (.bool p) (.slice a na ca)
 have V0':=V0.off O1 (by omega)
 have R0':=(R0.off O0 (by omega)).off O1 (by omega)
 have hbO:=(hb0.trans (O0.below (Nat.le_refl _))).trans (O1.below (by omega))
 have ha':=ha0.below hbO
 have hb':=hb00.below hbO
 have hsO:((((W1.setCell ⟨w.heap.size,0,none⟩ (.bool q)).setCell ⟨w.heap.size,1,none⟩ (.slice b nb cb)).setCell ⟨w.heap.size+1,0,none⟩ (.bool p)).setCell ⟨w.heap.size+1,1,none⟩ (.slice a na ca)).heap.size=w.heap.size+3:=by rw [O1.size,O0.size];exact hszj
 obtain ⟨v00,v01,v02,v03⟩:=id V0'
 obtain ⟨v10,v11,v12,v13⟩:=id V1
 go_wp2_with fail
 generalize (((W1.setCell ⟨w.heap.size,0,none⟩ (.bool q)).setCell ⟨w.heap.size,1,none⟩ (.slice b nb cb)).setCell ⟨w.heap.size+1,0,none⟩ (.bool p)).setCell ⟨w.heap.size+1,1,none⟩ (.slice a na ca)=W2 at *
 refine (subG _ hb' ha' (by omega) (by omega) (by omega)).mono ?_
 rintro e w3 ⟨c1,n1,d1,rfl,G1,hb3⟩
 have R3:=R0'.below hb3
 have V3:=V0'.below hb3
 have hbw:=bel_tr hbO hb3
 obtain ⟨x0,x1,x2,x3⟩:=id V3
 clear ha hb ha0 hb00 ha' hb' P0 P1 P1' R0 R0' V0 V0' V1 O0 O1 hb0 p00 p01 p02 p03 p10 p11 p12 p13 v00 v01 v02 v03 v10 v11 v12 v13 hbO
 have hs3:w.heap.size+3≤w3.heap.size:=by have:=hb3.size;omega
 go_wp2_with fail
 refine (signed_any _ _ _ _ _).mono ?_
 rintro e w2 ⟨rfl,hb4⟩
 have R2:=R3.below hb4
 obtain ⟨r0,r1,r2,r3⟩:=id R2
 have GF:GI w2 W2.heap.size (.agg #[.bool (q && decide (0<n1)),.slice c1 n1 d1]) (ws p m+ws q k) (S+R+1):=(((G1.gi q).below hb4).val HV.out.symm).le (by omega)
 have hw2:Below w.heap.size w w2:=bel_tr hbw hb4
 obtain ⟨V,O⟩:=R2.set (.bool (q && decide (0<n1))) (.slice c1 n1 d1)
 clear hb3 hb4 V3 R3 x0 x1 x2 x3 hbw G1
 go_wp2
 refine bodyPost_ret (v:=.agg #[.bool (q && decide (0<n1)),.slice c1 n1 d1]) (by simp [results,Tryz.results65,go_sem,V.c0,V.c1]) rfl ⟨_,rfl,((GF.off O (by omega)).mono (by omega)),hw2.trans (O.below (by omega))⟩
theorem addI {a b:Option Addr} {na nb ca cb:Nat} {m k:Int} {S R:Nat} (p q:Bool) (w:World) (ha:Num w a na ca m S) (hb:Num w b nb cb k R) (hS:S≤10000000000) (hR:R≤10000000000) :
  Calls Tryz.prog 65 #[.agg #[.bool p,.slice a na ca],.agg #[.bool q,.slice b nb cb]] w fun e w'=>∃ v,e = .returned v∧GI w' w.heap.size v (ws p m+ws q k) (S+R+1)∧Below w.heap.size w w':=by
 by_cases hpq:p=q
 ·subst hpq;exact addI1 p w ha hb hS hR
 ·have h1:(p == q)=false:=by simpa using hpq
  rcases Int.lt_or_le m k with h2|h2
  ·exact addI3 p q w ha hb hS hR h1 h2
  ·exact addI2 p q w ha hb hS hR h1 h2
theorem wrap_neg {v:Int} (h:v<0) (h0:-9223372036854775808≤v):IntKind.u64.wrap (-IntKind.u64.wrap v) = -v:=by
 have e:∀ x:Int,IntKind.u64.wrap x=x%18446744073709551616:=fun x=>by simp [IntKind.wrap,IntKind.signed,IntKind.bits]
 rw [e,e];omega
set_option maxHeartbeats 1000000 in
theorem ofI (v:Int) (w:World) (h0:-9223372036854775808≤v) (h1:v<9223372036854775808) :
  Calls Tryz.prog 57 #[.int .i64 v] w fun e w'=>∃ u,e = .returned u∧GI w' w.heap.size u v 1∧Below w.heap.size w w':=by
 obtain ⟨R0,hb0,hsz⟩:=box1 w (.bool false) (.slice none 0 0) 25
 by_cases hv:v<0
 ·go_enter Tryz.func57,Tryz.ntmps57
  go_wp2_with fail
  generalize w.alloc (.cells #[.bool false,.slice none 0 0] 25)=W0 at *
  rw [wrap_neg hv h0]
  refine (ofG (-v) _ (by omega) (by omega)).mono ?_
  rintro e w1 ⟨c1,n1,d1,rfl,G,hb1⟩
  replace R0:=R0.below hb1
  replace hb0:=bel_tr hb0 hb1
  have hs1:=hb1.size
  go_wp2_with fail
  refine (signed_any _ _ _ _ _).mono ?_
  rintro e w2 ⟨rfl,hb2⟩
  have R1:=R0.below hb2
  have GF:GI w2 W0.heap.size _ v 1:=((G.gi true).below hb2).val (by simp [ws])
  have hw2:=bel_tr hb0 hb2
  obtain ⟨r0,r1,r2,r3⟩:=id R1
  obtain ⟨V,O⟩:=R1.set (.bool (decide (0<n1))) (.slice c1 n1 d1)
  clear R0 hb0 hb1 hb2
  go_wp2
  refine bodyPost_ret (v:=.agg #[.bool (decide (0<n1)),.slice c1 n1 d1]) (by simp [results,Tryz.results57,go_sem,V.c0,V.c1]) rfl ⟨_,rfl,((GF.off O (by omega)).mono (by omega)),hw2.trans (O.below (by omega))⟩
 ·go_enter Tryz.func57,Tryz.ntmps57
  go_wp2_with fail
  generalize w.alloc (.cells #[.bool false,.slice none 0 0] 25)=W0 at *
  refine (ofG (v) _ (by omega) (by omega)).mono ?_
  rintro e w1 ⟨c1,n1,d1,rfl,G,hb1⟩
  replace R0:=R0.below hb1
  replace hb0:=bel_tr hb0 hb1
  have hs1:=hb1.size
  go_wp2_with fail
  refine (signed_any _ _ _ _ _).mono ?_
  rintro e w2 ⟨rfl,hb2⟩
  have R1:=R0.below hb2
  have GF:GI w2 W0.heap.size _ v 1:=((G.gi false).below hb2).val (by simp [ws])
  have hw2:=bel_tr hb0 hb2
  obtain ⟨r0,r1,r2,r3⟩:=id R1
  obtain ⟨V,O⟩:=R1.set (.bool false) (.slice c1 n1 d1)
  clear R0 hb0 hb1 hb2
  go_wp2
  refine bodyPost_ret (v:=.agg #[.bool false,.slice c1 n1 d1]) (by simp [results,Tryz.results57,go_sem,V.c0,V.c1]) rfl ⟨_,rfl,((GF.off O (by omega)).mono (by omega)),hw2.trans (O.below (by omega))⟩
end Go.Proofs.YtceigfafmalfgaaGreatDoor

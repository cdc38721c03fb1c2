import Derived.Test.YtceigfafmalfgaaGreatDoorLentAll
import Derived.Test.YtceigfafmalfgaaGreatDoorRefAll
namespace Go.Proofs.YtceigfafmalfgaaGreatDoor
open Go.RowKit
set_option maxHeartbeats 1000000 in
theorem rnegI {a:Option Addr} {na ca:Nat} {m:Int} {S:Nat} (p:Bool) (w:World) (ha:Num w a na ca m S) (hS:S≤20000000) :
  Calls Tryz.prog 89 #[.agg #[.bool p,.slice a na ca]] w fun e w'=>∃ f c n d,e = .returned (.agg #[.bool f,.slice c n d])∧GI w' w.heap.size (.agg #[.bool f,.slice c n d]) (-ws p m) (S)∧Below w.heap.size w w':=by
 obtain ⟨P0,R0,hb0,hsz⟩:=box2 w (.bool p) (.slice a na ca) (.bool false) (.slice none 0 0) 25
 replace ha:=ha.below hb0
 go_enter Tryz.func89,Tryz.ntmps89
 go_wp2_with fail
 generalize (w.alloc (.cells #[.bool p,.slice a na ca] 25)).alloc (.cells #[.bool false,.slice none 0 0] 25)=W0 at *
 obtain ⟨p00,p01,p02,p03⟩:=id P0
 refine (rfromI (!p) _ ha (by omega)).mono ?_
 rintro e w2 ⟨f1,c1,n1,d1,rfl,G,hb1⟩
 have GF:=G.val (ws_not p m)
 have R1:=R0.below hb1
 have hw2:=bel_tr hb0 hb1
 obtain ⟨r0,r1,r2,r3⟩:=id R1
 obtain ⟨V,O⟩:=R1.set (.bool f1) (.slice c1 n1 d1)
 clear P0 R0 p00 p01 p02 p03 ha hb0 hb1 G
 go_wp2
 refine bodyPost_ret (v:=.agg #[.bool f1,.slice c1 n1 d1]) (by simp [results,Tryz.results89,go_sem,V.c0,V.c1]) rfl ⟨_,_,_,_,rfl,((GF.off O (by omega)).mono (by omega)),hw2.trans (O.below (by omega))⟩
theorem rnegT {a:Option Addr} {p:Bool} {na ca:Nat} {x:Int} {S:Nat} (w:World) (ha:TI w p a na ca x S) (hS:S≤20000000) :
  Calls Tryz.prog 89 #[.agg #[.bool p,.slice a na ca]] w fun e w'=>∃ f c n d,e = .returned (.agg #[.bool f,.slice c n d])∧GI w' w.heap.size (.agg #[.bool f,.slice c n d]) (-x) (S)∧Below w.heap.size w w':=by
 obtain ⟨m,h1,rfl⟩:=ha
 exact rnegI p w h1 (by omega)
theorem rnormT {a:Option Addr} {p:Bool} {na ca:Nat} {x:Int} {S:Nat} (w:World) (ha:TI w p a na ca x S) (hS:S≤20000000) :
  Calls Tryz.prog 47 #[.agg #[.bool p,.slice a na ca]] w fun e w'=>∃ f c n d,e = .returned (.agg #[.bool f,.slice c n d])∧GI w' w.heap.size (.agg #[.bool f,.slice c n d]) (x) (S)∧Below w.heap.size w w':=by
 obtain ⟨m,h1,rfl⟩:=ha
 exact rnormI p w h1 (by omega)
set_option maxHeartbeats 1000000 in
theorem rmulI {a b:Option Addr} {na nb ca cb:Nat} {m k:Int} {S:Nat} (p q:Bool) (w:World) (ha:Num w a na ca m S) (hb:Num w b nb cb k S) (hS:S≤11000000) :
  Calls Tryz.prog 90 #[.agg #[.bool p,.slice a na ca],.agg #[.bool q,.slice b nb cb]] w fun e w'=>∃ f c n d,e = .returned (.agg #[.bool f,.slice c n d])∧GI w' w.heap.size (.agg #[.bool f,.slice c n d]) (ws p m*ws q k) (4*S+1)∧Below w.heap.size w w':=by
 obtain ⟨P0,P1,R0,hb0,hsz⟩:=box3 w (.bool p) (.slice a na ca) (.bool q) (.slice b nb cb) (.bool false) (.slice none 0 0) 25
 replace ha:=ha.below hb0
 replace hb:=hb.below hb0
 go_enter Tryz.func90,Tryz.ntmps90
 go_wp2_with fail
 generalize ((w.alloc (.cells #[.bool p,.slice a na ca] 25)).alloc (.cells #[.bool q,.slice b nb cb] 25)).alloc (.cells #[.bool false,.slice none 0 0] 25)=W0 at *
 obtain ⟨p00,p01,p02,p03⟩:=id P0
 obtain ⟨p10,p11,p12,p13⟩:=id P1
 go_region_held3 (fun w'=>w'.cell? ⟨w.heap.size,0,none⟩=some (.bool p)∧w'.cell? ⟨w.heap.size,1,none⟩=some (.slice a na ca)∧w'.cell? ⟨w.heap.size+1,0,none⟩=some (.bool q)∧w'.cell? ⟨w.heap.size+1,1,none⟩=some (.slice b nb cb))
  (first|(go_keep;done)|(refine ⟨?_,?_,?_,?_⟩ <;> first|exact kept_c hb2 (by go_keep)|exact kept_c hb1 (by go_keep))|(refine ⟨?_,?_,?_,?_⟩ <;> first|exact set2_far (by go_keep) (by simp <;> omega)|exact kept_c (by assumption) (by assumption)))
  ((first
   | (go_at_call 92;go_fit (rmulV _ (ha.drewN _) (hb.drewN _) (by omega));rintro e w1 ⟨c0,n0,d0,rfl,G1,hb1⟩;have hc1:=bel_tr (belN (Below.refl _ W0) _) hb1;have R1:=R0.below hc1)
   | (go_at_call 46;go_fit (rfromI _ _ G1.num (by omega));rintro e w2 ⟨f1,c1,n1,d1,rfl,G2,hb2⟩;have hc2:Below w1.heap.size w1 w2:=(by first|exact hb2|exact bel_tr (belN (Below.refl _ w1) 1) hb2);have R2:=R1.below hc2;obtain ⟨r0,r1,r2,r3⟩:=id R2)))
 have hs1:=hc1.size
 have GF:GI w2 w1.heap.size (.agg #[.bool f1,.slice c1 n1 d1]) (ws p m*ws q k) (4*S+1):=G2.val (by rw [ws_mul];cases p <;> cases q <;> rfl)
 have hw2:Below w.heap.size w w2:=bel_tr hb0 (bel_tr hc1 hc2)
 obtain ⟨V,O⟩:=R2.set (.bool f1) (.slice c1 n1 d1)
 clear hb1 hb2 hc1 hc2 ha hb P0 P1 R0 R1 p00 p01 p02 p03 p10 p11 p12 p13 G1 G2
 go_wp2
 refine bodyPost_ret (v:=.agg #[.bool f1,.slice c1 n1 d1]) (by simp [results,Tryz.results90,go_sem,V.c0,V.c1]) rfl ⟨_,_,_,_,rfl,((GF.off O (by omega)).mono (by omega)),hw2.trans (O.below (by omega))⟩
set_option maxHeartbeats 2000000 in
theorem raddI {a b:Option Addr} {na nb ca cb:Nat} {m k:Int} {S:Nat} (p q:Bool) (w:World) (ha:Num w a na ca m S) (hb:Num w b nb cb k S) (hS:S≤11000000) :
  Calls Tryz.prog 91 #[.agg #[.bool p,.slice a na ca],.agg #[.bool q,.slice b nb cb]] w fun e w'=>∃ f c n d,e = .returned (.agg #[.bool f,.slice c n d])∧GI w' w.heap.size (.agg #[.bool f,.slice c n d]) (ws p m+ws q k) (2*S+1)∧Below w.heap.size w w':=by
 obtain ⟨P0,P1,R0,hb0,hsz⟩:=box3 w (.bool p) (.slice a na ca) (.bool q) (.slice b nb cb) (.bool false) (.slice none 0 0) 25
 replace ha:=ha.below hb0
 replace hb:=hb.below hb0
 go_enter Tryz.func91,Tryz.ntmps91
 go_wp2_with fail
 generalize ((w.alloc (.cells #[.bool p,.slice a na ca] 25)).alloc (.cells #[.bool q,.slice b nb cb] 25)).alloc (.cells #[.bool false,.slice none 0 0] 25)=W0 at *
 obtain ⟨p00,p01,p02,p03⟩:=id P0
 obtain ⟨p10,p11,p12,p13⟩:=id P1
 refine (rnormI p _ ha (by omega)).mono ?_
 rintro e w1 ⟨f,c1,n1,d1,rfl,G1,hx⟩
 replace P1:=P1.below hx
 replace R0:=R0.below hx
 replace hb:=hb.below hx
 replace hb0:=bel_tr hb0 hx
 have hs1:=hx.size
 clear hx p00 p01 p02 p03 p10 p11 p12 p13 P0 ha
 obtain ⟨V5,hx,hsx⟩:=box1 w1 (.bool f) (.slice c1 n1 d1) 25
 replace P1:=P1.below hx
 replace R0:=R0.below hx
 replace hb:=hb.below hx
 replace G1:=G1.below hx
 replace hb0:=bel_tr hb0 hx
 obtain ⟨p10,p11,p12,p13⟩:=id P1
 clear hx
 go_wp2_with fail
 generalize w1.alloc (.cells #[.bool f,.slice c1 n1 d1] 25)=w2 at *
 refine (rnormI q _ hb (by omega)).mono ?_
 rintro e w3 ⟨g,c2,n2,d2,rfl,G2,hx⟩
 replace V5:=V5.below hx
 replace R0:=R0.below hx
 replace G1:=G1.below hx
 replace hb0:=bel_tr hb0 hx
 have hs3:=hx.size
 clear hx p10 p11 p12 p13 P1 hb
 obtain ⟨V6,hx,hsx3⟩:=box1 w3 (.bool g) (.slice c2 n2 d2) 25
 replace V5:=V5.below hx
 replace R0:=R0.below hx
 replace G1:=G1.below hx
 replace G2:=G2.below hx
 replace hb0:=bel_tr hb0 hx
 obtain ⟨v50,v51,v52,v53⟩:=id V5
 obtain ⟨v60,v61,v62,v63⟩:=id V6
 clear hx
 obtain ⟨e1,K1⟩:=G1.parts
 obtain ⟨e2,K2⟩:=G2.parts
 obtain ⟨X,hX⟩:∃ X,ws p m=X:=⟨_,rfl⟩
 obtain ⟨Y,hY⟩:∃ Y,ws q k=Y:=⟨_,rfl⟩
 rw [hX] at e1 K1
 rw [hY] at e2 K2
 have HS:Hid (ws p m+ws q k=X+Y):=by show _=_;rw [hX,hY]
 have E1:Hid (f=decide (X<0)):=e1
 have E2:Hid (g=decide (Y<0)):=e2
 clear e1 e2 hX hY G1 G2
 have hw4:(w3.alloc (.cells #[.bool g,.slice c2 n2 d2] 25)).heap.size=w3.heap.size+1:=hsx3
 by_cases hfg:f=g
 ·subst hfg
  have HV:Hid (ws p m+ws q k=ws f (X.natAbs+Y.natAbs:Int)):=by
   show _=_
   have a:=E1.out
   have b:=E2.out
   rw [HS.out]
   cases f with
   | true=>have h1:=of_decide_eq_true a.symm;have h2:=of_decide_eq_true b.symm;unfold ws;simp only [if_true];omega
   | false=>have h1:=of_decide_eq_false a.symm;have h2:=of_decide_eq_false b.symm;unfold ws;simp only [Bool.false_eq_true,if_false];omega
  clear E1 E2
  go_wp2_with fail
  generalize w3.alloc (.cells #[.bool f,.slice c2 n2 d2] 25)=WX at *
  go_region_held3 (fun w'=>w'.cell? ⟨w1.heap.size,0,none⟩=some (.bool f)∧w'.cell? ⟨w1.heap.size,1,none⟩=some (.slice c1 n1 d1)∧w'.cell? ⟨w3.heap.size,0,none⟩=some (.bool f)∧w'.cell? ⟨w3.heap.size,1,none⟩=some (.slice c2 n2 d2))
   (first|(go_keep;done)|(refine ⟨?_,?_,?_,?_⟩ <;> first|exact kept_c hb8 (by go_keep)|exact kept_c hb7 (by go_keep))|(refine ⟨?_,?_,?_,?_⟩ <;> first|exact set2_far (by go_keep) (by simp <;> omega)|exact kept_c (by assumption) (by assumption)))
   ((first
    | (go_at_call 121;go_fit (raddV _ (K1.num.drewN _) (K2.num.drewN _) (by omega));rintro e w7 ⟨c3,n3,d3,rfl,K3,hb7⟩;have hc7:=bel_tr (belN (Below.refl _ WX) _) hb7;have R7:=R0.below hc7)
    | (go_at_call 46;go_fit (rfromI f _ K3.num (by omega));rintro e w8 ⟨f4,c4,n4,d4,rfl,G4,hb8⟩;have hc8:Below w7.heap.size w7 w8:=(by first|exact hb8|exact bel_tr (belN (Below.refl _ w7) 1) hb8);have R8:=R7.below hc8;obtain ⟨r0,r1,r2,r3⟩:=id R8)))
  have hs7:=hc7.size
  have GF:GI w8 w7.heap.size (.agg #[.bool f4,.slice c4 n4 d4]) (ws p m+ws q k) (2*S+1):=(G4.val HV.out.symm).le (by omega)
  have hw2:Below w.heap.size w w8:=bel_tr hb0 (bel_tr hc7 hc8)
  obtain ⟨V,O⟩:=R8.set (.bool f4) (.slice c4 n4 d4)
  clear hb7 hb8 hc7 hc8 G4 K3 R7 R0 K1 K2 hb0 v50 v51 v52 v53 v60 v61 v62 v63 V5 V6
  go_wp2
  refine bodyPost_ret (v:=.agg #[.bool f4,.slice c4 n4 d4]) (by simp [results,Tryz.results91,go_sem,V.c0,V.c1]) rfl ⟨_,_,_,_,rfl,((GF.off O (by omega)).mono (by omega)),hw2.trans (O.below (by omega))⟩
 ·have hfg':(f == g)=false:=by simpa using hfg
  clear hfg
  have hrel:∀ c:Int,((c=0∧(X.natAbs:Int)=Y.natAbs)∨(c = -1∧(X.natAbs:Int)<Y.natAbs)∨(c=1∧(Y.natAbs:Int)<X.natAbs))→(c<0→X+Y=ws g (Y.natAbs-X.natAbs))∧(¬ c<0→X+Y=ws f (X.natAbs-Y.natAbs)∧(Y.natAbs:Int)≤X.natAbs):=by
   intro c hc
   have a:=E1.out
   have b:=E2.out
   cases f with
   | true =>
    cases g with
    | true=>simp at hfg'
    | false=>have h1:=of_decide_eq_true a.symm;have h2:=of_decide_eq_false b.symm;unfold ws;simp only [if_true,Bool.false_eq_true,if_false];omega
   | false =>
    cases g with
    | false=>simp at hfg'
    | true=>have h1:=of_decide_eq_false a.symm;have h2:=of_decide_eq_true b.symm;unfold ws;simp only [if_true,Bool.false_eq_true,if_false];omega
  have HR:Hid (∀ c:Int,((c=0∧(X.natAbs:Int)=Y.natAbs)∨(c = -1∧(X.natAbs:Int)<Y.natAbs)∨(c=1∧(Y.natAbs:Int)<X.natAbs))→(c<0→X+Y=ws g (Y.natAbs-X.natAbs))∧(¬ c<0→X+Y=ws f (X.natAbs-Y.natAbs)∧(Y.natAbs:Int)≤X.natAbs)):=hrel
  clear hrel E1 E2
  go_wp2_with fail
  generalize w3.alloc (.cells #[.bool g,.slice c2 n2 d2] 25)=W4 at *
  refine (refcmpV _ K1.num K2.num (by omega) (by omega)).mono ?_
  rintro e WX ⟨c,rfl,hc,hx⟩
  replace V5:=V5.below hx
  replace V6:=V6.below hx
  replace R0:=R0.below hx
  replace K1:=K1.below hx
  replace K2:=K2.below hx
  replace hb0:=bel_tr hb0 hx
  have hsX:=hx.size
  clear hx v50 v51 v52 v53 v60 v61 v62 v63
  obtain ⟨v50,v51,v52,v53⟩:=id V5
  obtain ⟨v60,v61,v62,v63⟩:=id V6
  have hR:=HR.out c hc
  by_cases hcn:c<0
  ·have hle:(X.natAbs:Int)≤Y.natAbs:=by omega
   have HV:Hid (ws p m+ws q k=ws g (Y.natAbs-X.natAbs:Int)):=HS.out.trans (hR.1 (by omega))
   clear hR HR hc
   go_wp2_with fail
   go_region_held3 (fun w'=>w'.cell? ⟨w1.heap.size,0,none⟩=some (.bool f)∧w'.cell? ⟨w1.heap.size,1,none⟩=some (.slice c1 n1 d1)∧w'.cell? ⟨w3.heap.size,0,none⟩=some (.bool g)∧w'.cell? ⟨w3.heap.size,1,none⟩=some (.slice c2 n2 d2))
    (first|(go_keep;done)|(refine ⟨?_,?_,?_,?_⟩ <;> first|exact kept_c hb8 (by go_keep)|exact kept_c hb7 (by go_keep))|(refine ⟨?_,?_,?_,?_⟩ <;> first|exact set2_far (by go_keep) (by simp <;> omega)|exact kept_c (by assumption) (by assumption)))
    ((first
     | (go_at_call 123;go_fit (rsubV _ (K2.num.drewN _) (K1.num.drewN _) (by omega) (by omega) hle);rintro e w7 ⟨c3,n3,d3,rfl,K3,hb7⟩;have hc7:=bel_tr (belN (Below.refl _ WX) _) hb7;have R7:=R0.below hc7)
     | (go_at_call 46;go_fit (rfromI g _ K3.num (by omega));rintro e w8 ⟨f4,c4,n4,d4,rfl,G4,hb8⟩;have hc8:Below w7.heap.size w7 w8:=(by first|exact hb8|exact bel_tr (belN (Below.refl _ w7) 1) hb8);have R8:=R7.below hc8;obtain ⟨r0,r1,r2,r3⟩:=id R8)))
   have hs7:=hc7.size
   have GF:GI w8 w7.heap.size (.agg #[.bool f4,.slice c4 n4 d4]) (ws p m+ws q k) (2*S+1):=(G4.val HV.out.symm).le (by omega)
   have hw2:Below w.heap.size w w8:=bel_tr hb0 (bel_tr hc7 hc8)
   obtain ⟨V,O⟩:=R8.set (.bool f4) (.slice c4 n4 d4)
   clear hb7 hb8 hc7 hc8 G4 K3 R7 R0 K1 K2 hb0 v50 v51 v52 v53 v60 v61 v62 v63 V5 V6
   go_wp2
   refine bodyPost_ret (v:=.agg #[.bool f4,.slice c4 n4 d4]) (by simp [results,Tryz.results91,go_sem,V.c0,V.c1]) rfl ⟨_,_,_,_,rfl,((GF.off O (by omega)).mono (by omega)),hw2.trans (O.below (by omega))⟩
  ·obtain ⟨hv,hle⟩:=hR.2 (by omega)
   have HV:Hid (ws p m+ws q k=ws f (X.natAbs-Y.natAbs:Int)):=HS.out.trans hv
   clear hR HR hc hv
   go_wp2_with fail
   go_region_held3 (fun w'=>w'.cell? ⟨w1.heap.size,0,none⟩=some (.bool f)∧w'.cell? ⟨w1.heap.size,1,none⟩=some (.slice c1 n1 d1)∧w'.cell? ⟨w3.heap.size,0,none⟩=some (.bool g)∧w'.cell? ⟨w3.heap.size,1,none⟩=some (.slice c2 n2 d2))
    (first|(go_keep;done)|(refine ⟨?_,?_,?_,?_⟩ <;> first|exact kept_c hb8 (by go_keep)|exact kept_c hb7 (by go_keep))|(refine ⟨?_,?_,?_,?_⟩ <;> first|exact set2_far (by go_keep) (by simp <;> omega)|exact kept_c (by assumption) (by assumption)))
    ((first
     | (go_at_call 123;go_fit (rsubV _ (K1.num.drewN _) (K2.num.drewN _) (by omega) (by omega) hle);rintro e w7 ⟨c3,n3,d3,rfl,K3,hb7⟩;have hc7:=bel_tr (belN (Below.refl _ WX) _) hb7;have R7:=R0.below hc7)
     | (go_at_call 46;go_fit (rfromI f _ K3.num (by omega));rintro e w8 ⟨f4,c4,n4,d4,rfl,G4,hb8⟩;have hc8:Below w7.heap.size w7 w8:=(by first|exact hb8|exact bel_tr (belN (Below.refl _ w7) 1) hb8);have R8:=R7.below hc8;obtain ⟨r0,r1,r2,r3⟩:=id R8)))
   have hs7:=hc7.size
   have GF:GI w8 w7.heap.size (.agg #[.bool f4,.slice c4 n4 d4]) (ws p m+ws q k) (2*S+1):=(G4.val HV.out.symm).le (by omega)
   have hw2:Below w.heap.size w w8:=bel_tr hb0 (bel_tr hc7 hc8)
   obtain ⟨V,O⟩:=R8.set (.bool f4) (.slice c4 n4 d4)
   clear hb7 hb8 hc7 hc8 G4 K3 R7 R0 K1 K2 hb0 v50 v51 v52 v53 v60 v61 v62 v63 V5 V6
   go_wp2
   refine bodyPost_ret (v:=.agg #[.bool f4,.slice c4 n4 d4]) (by simp [results,Tryz.results91,go_sem,V.c0,V.c1]) rfl ⟨_,_,_,_,rfl,((GF.off O (by omega)).mono (by omega)),hw2.trans (O.below (by omega))⟩
theorem rmulT {a b:Option Addr} {p q:Bool} {na nb ca cb:Nat} {x y:Int} {S:Nat} (w:World) (ha:TI w p a na ca x S) (hb:TI w q b nb cb y S) (hS:S≤11000000) :
  Calls Tryz.prog 90 #[.agg #[.bool p,.slice a na ca],.agg #[.bool q,.slice b nb cb]] w fun e w'=>∃ f c n d,e = .returned (.agg #[.bool f,.slice c n d])∧GI w' w.heap.size (.agg #[.bool f,.slice c n d]) (x*y) (4*S+1)∧Below w.heap.size w w':=by
 obtain ⟨m,h1,rfl⟩:=ha
 obtain ⟨k,h2,rfl⟩:=hb
 exact rmulI p q w h1 h2 (by omega)
theorem raddT {a b:Option Addr} {p q:Bool} {na nb ca cb:Nat} {x y:Int} {S:Nat} (w:World) (ha:TI w p a na ca x S) (hb:TI w q b nb cb y S) (hS:S≤11000000) :
  Calls Tryz.prog 91 #[.agg #[.bool p,.slice a na ca],.agg #[.bool q,.slice b nb cb]] w fun e w'=>∃ f c n d,e = .returned (.agg #[.bool f,.slice c n d])∧GI w' w.heap.size (.agg #[.bool f,.slice c n d]) (x+y) (2*S+1)∧Below w.heap.size w w':=by
 obtain ⟨m,h1,rfl⟩:=ha
 obtain ⟨k,h2,rfl⟩:=hb
 exact raddI p q w h1 h2 (by omega)
end Go.Proofs.YtceigfafmalfgaaGreatDoor

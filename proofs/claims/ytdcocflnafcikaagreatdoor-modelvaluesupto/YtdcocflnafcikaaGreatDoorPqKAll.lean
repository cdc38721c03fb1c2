import Derived.Test.YtdcocflnafcikaaGreatDoorPqJ
import Derived.Test.YtdcocflnafcikaaGreatDoorQ3OAll
import Derived.Test.YtdcocflnafcikaaGreatDoorOpenPAll
import Derived.Test.YtdcocflnafcikaaGreatDoorQAll
import Derived.Test.YtdcocflnafcikaaGreatDoorTxAll
import Derived.Test.YtdcocflnafcikaaGreatDoorPqGAll
namespace Go.Proofs.YtdcocflnafcikaaGreatDoor
open Go.RowKit
theorem awake_any {w:World} (hT:TB w):∀ w1,Below w.heap.size w w1→Calls Tryz.prog 6 #[] w1 fun e w'=>e = .returned (.bool true)∧Below w1.heap.size w1 w':=fun w1 h=>awake7 w1 (hT.below h)
def xat (X:Nat→Rat) (n:Nat) (i:Int):Rat:=if 0≤i∧i<(n:Int) then X i.toNat else 0
set_option maxHeartbeats 4000000 in
theorem atD {xa:Option Addr} {n xc:Nat} {X:Nat→Rat} {Z:Nat→Nat} {S:Nat} (i:Int) (w:World) (hx:LQ w xa n X Z) (hz:∀ j,j<n→1≤Z j∧Z j≤S) (hS:1≤S∧S≤7000000) :
  Calls Tryz.prog 48 #[.slice xa n xc,.int .i64 i] w fun e w'=>∃ f c m k c' m' k',e = .returned (.agg #[.bool f,.slice c m k,.slice c' m' k'])∧GR w' w.heap.size f c m k c' m' k' (xat X n i) S∧Below w.heap.size w w':=by
 have R0:=var3_new w (.bool false) (.slice none 0 0) (.slice none 0 0) 27
 have hb0:=bel_d0 w (.cells #[.bool false,.slice none 0 0,.slice none 0 0] 27)
 have hsz:w.heap.size+1≤(w.alloc (.cells #[.bool false,.slice none 0 0,.slice none 0 0] 27)).heap.size:=by simp
 by_cases hi:0≤i∧i<(n:Int)
 ·obtain ⟨q,rfl⟩:∃ q:Nat,i=(q:Int):=⟨i.toNat,by omega⟩
  have hq:q<n:=by omega
  have h1:¬ (q:Int)<0:=by omega
  have h2:¬ (n:Int)≤(q:Int):=by omega
  have h3:(q:Int)<(n:Int):=by omega
  have hkI3:(q:Int)*3=((q*3:Nat):Int):=by omega
  have ex:xat X n (q:Int)=X q:=by unfold xat;rw [if_pos hi];rfl
  rcases hx with h0|⟨b,o,rfl,hel⟩
  ·omega
  obtain ⟨p,a,na,ca,d,nd,cd,c0,c1,c2,hr⟩:=hel q hq
  replace c0:=kept_c hb0 c0
  replace c1:=kept_c hb0 c1
  replace c2:=kept_c hb0 c2
  replace hr:=hr.below hb0
  obtain ⟨z1,z2⟩:=hz q hq
  rw [ex]
  clear ex hel hi
  go_enter Tryz.func48,Tryz.ntmps48
  go_wp2_with fail
  generalize w.alloc (.cells #[.bool false,.slice none 0 0,.slice none 0 0] 27)=W0 at *
  refine (normD _ hr (by omega) z1).mono ?_
  rintro e w3 ⟨f5,c5,n5,k5,d5,m5,l5,rfl,G5,hx⟩
  replace G5:=(G5.mono (B':=w.heap.size+1) hsz).le z2
  replace R0:=R0.below hx
  replace hb0:=bel_tr hb0 hx
  obtain ⟨r0c0,r0c1,r0c2,r0c3,r0c4,r0c5⟩:=id R0
  obtain ⟨RN,O⟩:=R0.set (.bool f5) (.slice c5 n5 k5) (.slice d5 m5 l5)
  have GN:=(G5.off O (by omega)).mono (B':=w.heap.size) (by omega)
  have BN:=hb0.trans (O.below (Nat.le_refl _))
  clear c0 c1 c2 hx
  go_wp2
  exact bodyPost_ret (v:=.agg #[.bool f5,.slice c5 n5 k5,.slice d5 m5 l5]) (by simp [results,Tryz.results48,go_sem,RN.c0,RN.c1,RN.c2]) rfl ⟨_,_,_,_,_,_,_,rfl,GN,BN⟩
 ·have ex:xat X n i=((0:Int):Rat):=by unfold xat;rw [if_neg hi];rfl
  rw [ex]
  clear ex
  by_cases hn:i<0
  ·go_enter Tryz.func48,Tryz.ntmps48
   go_wp2_with fail
   generalize w.alloc (.cells #[.bool false,.slice none 0 0,.slice none 0 0] 27)=W0 at *
   refine (ofD 0 _ (by decide) (by decide)).mono ?_
   rintro e w3 ⟨f5,c5,n5,k5,d5,m5,l5,rfl,G5,hx⟩
   replace G5:=(G5.mono (B':=w.heap.size+1) hsz).le hS.1
   replace R0:=R0.below hx
   replace hb0:=bel_tr hb0 hx
   obtain ⟨r0c0,r0c1,r0c2,r0c3,r0c4,r0c5⟩:=id R0
   obtain ⟨RN,O⟩:=R0.set (.bool f5) (.slice c5 n5 k5) (.slice d5 m5 l5)
   have GN:=(G5.off O (by omega)).mono (B':=w.heap.size) (by omega)
   have BN:=hb0.trans (O.below (Nat.le_refl _))
   clear hx
   go_wp2
   exact bodyPost_ret (v:=.agg #[.bool f5,.slice c5 n5 k5,.slice d5 m5 l5]) (by simp [results,Tryz.results48,go_sem,RN.c0,RN.c1,RN.c2]) rfl ⟨_,_,_,_,_,_,_,rfl,GN,BN⟩
  ·have hn2:(n:Int)≤i:=by omega
   go_enter Tryz.func48,Tryz.ntmps48
   go_wp2_with fail
   generalize w.alloc (.cells #[.bool false,.slice none 0 0,.slice none 0 0] 27)=W0 at *
   refine (ofD 0 _ (by decide) (by decide)).mono ?_
   rintro e w3 ⟨f5,c5,n5,k5,d5,m5,l5,rfl,G5,hx⟩
   replace G5:=(G5.mono (B':=w.heap.size+1) hsz).le hS.1
   replace R0:=R0.below hx
   replace hb0:=bel_tr hb0 hx
   obtain ⟨r0c0,r0c1,r0c2,r0c3,r0c4,r0c5⟩:=id R0
   obtain ⟨RN,O⟩:=R0.set (.bool f5) (.slice c5 n5 k5) (.slice d5 m5 l5)
   have GN:=(G5.off O (by omega)).mono (B':=w.heap.size) (by omega)
   have BN:=hb0.trans (O.below (Nat.le_refl _))
   clear hx
   go_wp2
   exact bodyPost_ret (v:=.agg #[.bool f5,.slice c5 n5 k5,.slice d5 m5 l5]) (by simp [results,Tryz.results48,go_sem,RN.c0,RN.c1,RN.c2]) rfl ⟨_,_,_,_,_,_,_,rfl,GN,BN⟩
def xn (X:Nat→Rat) (n j:Nat):Rat:=if j<n then X j else 0
theorem xat_nat (X:Nat→Rat) (n j:Nat):xat X n (j:Int)=xn X n j:=by
 unfold xat xn
 by_cases h:j<n
 ·rw [if_pos h,if_pos ⟨by omega,by omega⟩];rfl
 ·rw [if_neg h,if_neg (by omega)]
set_option maxRecDepth 100000 in
set_option maxHeartbeats 8000000 in
theorem valueD (P:Prob) {xa:Option Addr} {n xc:Nat} {X:Nat→Rat} {Z:Nat→Nat} {S T U:Nat} (w:World) (hP:PQ w P) (hx:LQ w xa n X Z) (hz:∀ j,j<n→1≤Z j∧Z j≤U) (hU:1≤U∧U≤7000000) (hS:∀ j,j<P.vn→P.ZV j+U≤S) (hPS:P.S≤6000000) (hST:T+S≤5999999) (hT1:1≤T) (hvn:P.vn≤1048576)
  (hsz:∀ j,j≤P.vn+1→SzR (rsum (prt P.k P.V (xn X n)) j) T) :
  Calls Tryz.prog 18 #[P.val,.slice xa n xc] w fun e w'=>∃ f c n1 k1 c' n' k',e = .returned (.agg #[.bool f,.slice c n1 k1,.slice c' n' k'])∧GR w' w.heap.size f c n1 k1 c' n' k' (rsum (prt P.k P.V (xn X n)) (P.vn+1)) T∧Below w.heap.size w w':=by
 have HS:Hid (∀ j,j≤P.vn+1→SzR (rsum (prt P.k P.V (xn X n)) j) T):=hsz
 clear hsz
 unfold Prob.val
 have Pb:=box_new w #[.bool P.mx,.string P.nm,.bool P.p,.slice P.a P.na P.ca,.slice P.d P.nd P.cd,.slice P.va P.vn P.vc,.slice P.ra P.rn P.rc] 31
 have R0:=var3_new (w.alloc (.cells #[.bool P.mx,.string P.nm,.bool P.p,.slice P.a P.na P.ca,.slice P.d P.nd P.cd,.slice P.va P.vn P.vc,.slice P.ra P.rn P.rc] 31)) (.bool false) (.slice none 0 0) (.slice none 0 0) 27
 have hb0:=bel_tr (bel_d0 w (.cells #[.bool P.mx,.string P.nm,.bool P.p,.slice P.a P.na P.ca,.slice P.d P.nd P.cd,.slice P.va P.vn P.vc,.slice P.ra P.rn P.rc] 31)) (bel_d0 (w.alloc (.cells #[.bool P.mx,.string P.nm,.bool P.p,.slice P.a P.na P.ca,.slice P.d P.nd P.cd,.slice P.va P.vn P.vc,.slice P.ra P.rn P.rc] 31)) (.cells #[.bool false,.slice none 0 0,.slice none 0 0] 27))
 have hsA:(w.alloc (.cells #[.bool P.mx,.string P.nm,.bool P.p,.slice P.a P.na P.ca,.slice P.d P.nd P.cd,.slice P.va P.vn P.vc,.slice P.ra P.rn P.rc] 31)).heap.size=w.heap.size+1:=by simp
 have hsB:((w.alloc (.cells #[.bool P.mx,.string P.nm,.bool P.p,.slice P.a P.na P.ca,.slice P.d P.nd P.cd,.slice P.va P.vn P.vc,.slice P.ra P.rn P.rc] 31)).alloc (.cells #[.bool false,.slice none 0 0,.slice none 0 0] 27)).heap.size=w.heap.size+2:=by simp
 replace Pb:=Pb.below (bel_d0 (w.alloc (.cells #[.bool P.mx,.string P.nm,.bool P.p,.slice P.a P.na P.ca,.slice P.d P.nd P.cd,.slice P.va P.vn P.vc,.slice P.ra P.rn P.rc] 31)) (.cells #[.bool false,.slice none 0 0,.slice none 0 0] 27))
 rw [hsA] at R0
 have p2:=Pb 2 _ rfl
 have p3:=Pb 3 _ rfl
 have p4:=Pb 4 _ rfl
 go_enter Tryz.func18,Tryz.ntmps18
 go_wp2_with fail
 generalize (w.alloc (.cells #[.bool P.mx,.string P.nm,.bool P.p,.slice P.a P.na P.ca,.slice P.d P.nd P.cd,.slice P.va P.vn P.vc,.slice P.ra P.rn P.rc] 31)).alloc (.cells #[.bool false,.slice none 0 0,.slice none 0 0] 27)=W0 at *
 refine (normD _ (hP.k.below hb0) (by omega) hP.s1).mono ?_
 rintro e w1 ⟨f0,c0,n0,k0,d0,m0,l0,rfl,G0,hx1⟩
 have hs1:=Below.size hx1
 replace G0:=(((G0.mono (B':=w.heap.size+2) (by omega)).val (show P.k=rsum (prt P.k P.V (xn X n)) 1 from (Rat.zero_add _).symm)).fit (HS.out 1 (by omega))).gx (R:=w1.heap.size) (.inr (Nat.le_refl _))
 replace R0:=R0.below hx1
 replace Pb:=Pb.below hx1
 replace hb0:=bel_tr hb0 hx1
 clear hx1 p2 p3 p4 hsA
 have hz1:=bel_d0 w1 (.cells #[.bool f0,.slice c0 n0 k0,.slice d0 m0 l0] 27)
 have V0:=var3_new w1 (.bool f0) (.slice c0 n0 k0) (.slice d0 m0 l0) 27
 have hs2:(w1.alloc (.cells #[.bool f0,.slice c0 n0 k0,.slice d0 m0 l0] 27)).heap.size=w1.heap.size+1:=by simp
 replace G0:=G0.below hz1
 replace R0:=R0.below hz1
 replace Pb:=Pb.below hz1
 replace hb0:=bel_tr hb0 hz1
 clear hz1
 go_wp2
 generalize w1.alloc (.cells #[.bool f0,.slice c0 n0 k0,.slice d0 m0 l0] 27)=W1 at *
 go_loopw [6] (fun s wr=>∃ (i:Nat) (f:Bool) (c:Option Addr) (n1 k1:Nat) (d:Option Addr) (m l:Nat),i≤P.vn∧s = .int .i64 i∧Var3 wr w1.heap.size (.bool f) (.slice c n1 k1) (.slice d m l)∧GX wr (w.heap.size+2) w1.heap.size f c n1 k1 d m l (rsum (prt P.k P.V (xn X n)) (i+1)) T∧Var3 wr (w.heap.size+1) (.bool false) (.slice none 0 0) (.slice none 0 0)∧BoxC wr w.heap.size (#[.bool P.mx,.string P.nm,.bool P.p,.slice P.a P.na P.ca,.slice P.d P.nd P.cd,.slice P.va P.vn P.vc,.slice P.ra P.rn P.rc]).toList∧Below w.heap.size w wr∧w1.heap.size+1≤wr.heap.size) (fun t _=>P.vn-(intOf t).toNat)
 case atStart=>exact ⟨0,_,_,_,_,_,_,_,Nat.zero_le _,rfl,V0,G0,R0,Pb,hb0,by omega⟩
 case round =>
  obtain ⟨i,f,c,n1,k1,d,m,l,hi,rfl,V,G,R,Pb,hbel,hsw2⟩:=hrel
  clear V0 G0 R0 hb0
  have q5:=Pb 5 _ rfl
  by_cases hlt:i<P.vn
  ·have hkI:(i:Int)<(P.vn:Int):=by omega
   have hSi:=hS i hlt
   rcases (hP.v.below hbel) with h0|⟨bv,ov,hva,hev⟩
   ·omega
   have hV:=hev i hlt
   obtain ⟨pO,aO,nO,cO,dO,mO,lO,v0,v1,v2,hO⟩:=hV.obj
   have hs1v:=hV.s1
   have hkI3:(i:Int)*13=((i*13:Nat):Int):=by omega
   rw [hva] at q5
   obtain ⟨s0,s1,s2,_,_,_⟩:=id V
   have hxr:=hx.below hbel
   have HS1:Hid (SzR (rsum (prt P.k P.V (xn X n)) (i+1)+(P.V i).obj*xat X n (i:Int)) T):=by rw [xat_nat];exact HS.out (i+2) (by omega)
   have HBX:∀ w',Below wr.heap.size wr w'→(w'.cell? ⟨w1.heap.size,0,none⟩=some (.bool f)∧w'.cell? ⟨w1.heap.size,1,none⟩=some (.slice c n1 k1)∧w'.cell? ⟨w1.heap.size,2,none⟩=some (.slice d m l)∧w'.cell? ⟨w.heap.size,5,none⟩=some (.slice (some ⟨bv,ov,none⟩) P.vn P.vc)∧w'.cell? ⟨bv,ov+i*13+1,none⟩=some (.bool pO)∧w'.cell? ⟨bv,ov+i*13+1+1,none⟩=some (.slice aO nO cO)∧w'.cell? ⟨bv,ov+i*13+1+2,none⟩=some (.slice dO mO lO)):=fun w' h=>⟨kept_c h s0,kept_c h s1,kept_c h s2,kept_c h q5,kept_c h v0,kept_c h v1,kept_c h v2⟩
   clear hev hV hva
   go_wp2_with fail
   refine wp_region_noPanic (wp_region_guardT 12 HBX (by as_aux_lemma=>kernel_rfl) ?_)
   have hc0:Below wr.heap.size wr wr.drew:=bel_d1 _
   generalize wr.drew=z0 at *
   refine wpAnyG.tT 0 (v:=.agg #[.bool f,.slice c n1 k1,.slice d m l]) (by decide) 12 (by as_aux_lemma=>kernel_rfl) (by rfl) ?y0 (HBX _ hc0) ?_
   case y0 =>
    rintro w' ⟨q0,q1,q2,q3,q4,q5,q6⟩
    simp only [lgA,lgZ]
    go_simp
   simp only [lgA,lgZ,Act.put,lsA,lsZ,lsS]
   refine wpAnyG.tT 1 (v:=.pointer (some ⟨w.heap.size,5,none⟩)) (by decide) 12 (by as_aux_lemma=>kernel_rfl) (by rfl) ?y1 (HBX _ hc0) ?_
   case y1 =>
    rintro w' ⟨q0,q1,q2,q3,q4,q5,q6⟩
    simp only [lgA,lgZ,lgS]
    go_simp
   simp only [lgA,lgZ,lgS,Act.put,lsA,lsZ,lsS]
   refine wpAnyG.tT 2 (v:=.slice (some ⟨bv,ov,none⟩) P.vn P.vc) (by decide) 12 (by as_aux_lemma=>kernel_rfl) (by rfl) ?y2 (HBX _ hc0) ?_
   case y2 =>
    rintro w' ⟨q0,q1,q2,q3,q4,q5,q6⟩
    simp only [lgA,lgZ,lgS]
    go_simp
   simp only [lgA,lgZ,lgS,Act.put,lsA,lsZ,lsS]
   refine wpAnyG.tT 3 (v:=.int .i64 (i:Int)) (by decide) 12 (by as_aux_lemma=>kernel_rfl) (by rfl) ?y3 (HBX _ hc0) ?_
   case y3 =>
    rintro w' ⟨q0,q1,q2,q3,q4,q5,q6⟩
    simp only [lgA,lgZ,lgS]
    go_simp
   simp only [lgA,lgZ,lgS,Act.put,lsA,lsZ,lsS]
   refine wpAnyG.tT 4 (v:=.pointer (some ⟨bv,ov+i*13,none⟩)) (by decide) 12 (by as_aux_lemma=>kernel_rfl) (by rfl) ?y4 (HBX _ hc0) ?_
   case y4 =>
    rintro w' ⟨q0,q1,q2,q3,q4,q5,q6⟩
    simp only [lgA,lgZ,lgS]
    go_simp
   simp only [lgA,lgZ,lgS,Act.put,lsA,lsZ,lsS]
   refine wpAnyG.tT 5 (v:=.pointer (some ⟨bv,ov+i*13+1,none⟩)) (by decide) 12 (by as_aux_lemma=>kernel_rfl) (by rfl) ?y5 (HBX _ hc0) ?_
   case y5 =>
    rintro w' ⟨q0,q1,q2,q3,q4,q5,q6⟩
    simp only [lgA,lgZ,lgS]
    go_simp
   simp only [lgA,lgZ,lgS,Act.put,lsA,lsZ,lsS]
   refine wpAnyG.tT 6 (v:=.agg #[.bool pO,.slice aO nO cO,.slice dO mO lO]) (by decide) 12 (by as_aux_lemma=>kernel_rfl) (by rfl) ?y6 (HBX _ hc0) ?_
   case y6 =>
    rintro w' ⟨q0,q1,q2,q3,q4,q5,q6⟩
    simp only [lgA,lgZ,lgS]
    go_simp
   simp only [lgA,lgZ,lgS,Act.put,lsA,lsZ,lsS]
   refine wpAnyG.tT 7 (v:=.slice xa n xc) (by decide) 12 (by as_aux_lemma=>kernel_rfl) (by rfl) ?y7 (HBX _ hc0) ?_
   case y7 =>
    rintro w' ⟨q0,q1,q2,q3,q4,q5,q6⟩
    simp only [lgA,lgZ,lgS]
    go_simp
   simp only [lgA,lgZ,lgS,Act.put,lsA,lsZ,lsS]
   refine wpAnyG.tT 8 (v:=.int .i64 (i:Int)) (by decide) 12 (by as_aux_lemma=>kernel_rfl) (by rfl) ?y8 (HBX _ hc0) ?_
   case y8 =>
    rintro w' ⟨q0,q1,q2,q3,q4,q5,q6⟩
    simp only [lgA,lgZ,lgS]
    go_simp
   simp only [lgA,lgZ,lgS,Act.put,lsA,lsZ,lsS]
   refine wpAnyG.one 9 (by as_aux_lemma=>kernel_rfl) (by decide) (by rfl) (fun K hK=>?_)
   simp only [lgA,lgZ,lgS]
   go_simp
   refine (atD (S:=U) (i:Int) z0 (hxr.below hc0) hz hU).mono ?_
   rintro e z1 ⟨g1,u1,i1,j1,o1,t1,x1,rfl,G1,hk1⟩
   have hc1:Below wr.heap.size wr z1:=bel_tr hc0 hk1
   dsimp only
   refine hK _ _ ⟨fun _=>HBX _ hc1,fun _=>trivial⟩ ?_
   clear hK K
   refine wpAnyG.one 10 (by as_aux_lemma=>kernel_rfl) (by decide) (by rfl) (fun K hK=>?_)
   simp only [lgA,lgZ,lgS]
   go_simp
   refine (mulD z1 (hO.below hc1) G1.tr (by omega) (by omega) (by omega)).mono ?_
   rintro e z2 ⟨g2,u2,i2,j2,o2,t2,x2,rfl,G2,hk2⟩
   have hc2:Below wr.heap.size wr z2:=bel_tr hc1 hk2
   dsimp only
   refine hK _ _ ⟨fun _=>HBX _ hc2,fun _=>trivial⟩ ?_
   clear hK K
   refine wpAnyG.one 11 (by as_aux_lemma=>kernel_rfl) (by decide) (by rfl) (fun K hK=>?_)
   simp only [lgA,lgZ,lgS]
   go_simp
   refine (addD z2 (G.1.tr.below hc2) G2.tr (by omega) (by omega) (by omega)).mono ?_
   rintro e z3 ⟨g3,u3,i3,j3,o3,t3,x3,rfl,G3,hk3⟩
   have hc3:Below wr.heap.size wr z3:=bel_tr hc2 hk3
   have hs3:=Below.size hc3
   dsimp only
   refine hK _ _ ⟨fun _=>HBX _ hc3,fun _=>trivial⟩ ?_
   clear hK K
   refine wpAnyG.one 12 (by as_aux_lemma=>kernel_rfl) (by decide) (by rfl) (fun K hK=>?_)
   simp only [lgA,lgZ,lgS]
   have VS:=V.below hc3
   obtain ⟨y0,y1,y2,y3,y4,y5⟩:=id VS
   go_simp
   refine hK _ _ ⟨fun h=>absurd h (by decide),fun _=>trivial⟩ ?_
   clear hK K
   refine wpAnyG.done (by as_aux_lemma=>kernel_rfl) (NoPanic.normal ?_)
   have hsz2:=Below.size hk2
   have hsz3:=Below.size hc2
   have GN:=((G3.fit HS1.out).gx (R:=w1.heap.size) (.inl (by omega))).mono (B':=w.heap.size+2) (by omega)
   obtain ⟨V',O⟩:=VS.set (.bool g3) (.slice u3 i3 j3) (.slice o3 t3 x3)
   have R':=(R.below hc3).off O (by omega)
   have Pb':BoxC _ w.heap.size (#[.bool P.mx,.string P.nm,.bool P.p,.slice P.a P.na P.ca,.slice P.d P.nd P.cd,.slice P.va P.vn P.vc,.slice P.ra P.rn P.rc]).toList:=fun a u hu=>(World.cell?_of_block (O.block w.heap.size (by omega))).trans (Pb.below hc3 a u hu)
   have hbel':Below w.heap.size w _:=(bel_tr hbel hc3).trans (O.below (by omega))
   have GN':=(GN.off O)
   have GN2:GX _ (w.heap.size+2) w1.heap.size g3 u3 i3 j3 o3 t3 x3 (rsum (prt P.k P.V (xn X n)) (i+1+1)) T:=⟨GN'.1.val (by rw [xat_nat];rfl),GN'.2⟩
   have hs4:=O.size
   clear V R hbel O GN GN' VS HBX G1 G2 G3 hc0 hc1 hc2 hc3 hk1 hk2 hk3 y0 y1 y2 y3 y4 y5 s0 s1 s2 v0 v1 v2 hxr hO G Pb q5
   go_wp2
   go_roundw
   case rel=>first|exact ⟨i+1,_,_,_,_,_,_,_,by omega,by go_num,V',GN2,R',Pb',hbel',by omega⟩|((repeat apply Exists.intro);refine ⟨?_,rfl⟩;exact ⟨i+1,_,_,_,_,_,_,_,by omega,by go_num,V',GN2,R',Pb',hbel',by omega⟩)
   case measure=>simp [intOf];omega
  ·have hkI:¬ (i:Int)<(P.vn:Int):=by omega
   obtain rfl:i=P.vn:=by omega
   clear hz HS
   obtain ⟨v0,v1,v2,v3,v4,v5⟩:=id V
   obtain ⟨r0,r1,r2,r3,r4,r5⟩:=id R
   obtain ⟨VV,O⟩:=R.set (.bool f) (.slice c n1 k1) (.slice d m l)
   have GF:=G.1.off O (by omega)
   have hw:=hbel.trans (O.below (by omega))
   clear R O G hbel V
   go_wp2
   refine bodyPost_ret (v:=.agg #[.bool f,.slice c n1 k1,.slice d m l]) (by simp [results,Tryz.results18,go_sem,VV.c0,VV.c1,VV.c2]) rfl ?_
   replace GF:=GF.mono (B':=w.heap.size) (by omega)
   cases f
   ·exact .inl ⟨_,_,_,_,_,_,rfl,GF,hw⟩
   ·exact .inr ⟨_,_,_,_,_,_,rfl,GF,hw⟩
end Go.Proofs.YtdcocflnafcikaaGreatDoor

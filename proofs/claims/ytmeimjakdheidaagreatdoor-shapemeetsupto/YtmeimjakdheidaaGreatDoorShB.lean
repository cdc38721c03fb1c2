import Derived.Test.YtmeimjakdheidaaGreatDoorPqHAll
import Derived.Test.YtmeimjakdheidaaGreatDoorOpAll
import Derived.Test.YtmeimjakdheidaaGreatDoorRatAll
set_option maxRecDepth 100000
set_option maxHeartbeats 4000000
namespace Go.Proofs.YtmeimjakdheidaaGreatDoor
open Go.RowKit
theorem zn_lt {n:Nat} {X:Nat→Rat} {u:Nat} (h:u<n):zn n X u=X u:=if_pos h
theorem zn_ge {n:Nat} {X:Nat→Rat} {u:Nat} (h:¬ u<n):zn n X u=((0:Int):Rat):=if_neg h
theorem numAt {xa:Option Addr} {n xc:Nat} {X:Nat→Rat} {S:Nat} (u:Nat) (w:World) (hx:LQ w xa n X (fun _=>S)) (hS:S≤7000000) (hS1:1≤S) (hT:TB w) :
 Calls Tryz.prog 79 #[.slice xa n xc,.int .i64 (u:Nat)] w fun e w'=>∃ f c m k c' m' k',e = .returned (.agg #[.bool f,.slice c m k,.slice c' m' k'])∧GR w' w.heap.size f c m k c' m' k' (zn n X u) S∧Below w.heap.size w w':=by
 have R0:=aU w (.bool false) (.slice none 0 0) (.slice none 0 0) 27
 have hb0:=aI w (.cells #[.bool false,.slice none 0 0,.slice none 0 0] 27)
 have hsz:w.heap.size+1≤(w.alloc (.cells #[.bool false,.slice none 0 0,.slice none 0 0] 27)).heap.size:=by simp
 have h1:¬ (u:Int)<0:=by omega
 by_cases hq:u<n
 ·have h2:¬ (n:Int)≤(u:Int):=by omega
  have h3:(u:Int)<(n:Int):=by omega
  have hkI3:(u:Int)*3=((u*3:Nat):Int):=by omega
  rw [zn_lt hq]
  rcases hx with h0|⟨b,o,rfl,hel⟩
  ·omega
  obtain ⟨p,a,na,ca,d,nd,cd,c0,c1,c2,hr⟩:=hel u hq
  replace c0:=aG hb0 c0
  replace c1:=aG hb0 c1
  replace c2:=aG hb0 c2
  replace hr:=hr.below hb0
  replace hT:=hT.below hb0
  clear hel
  go_enter Tryz.func79,Tryz.ntmps79
  go_wp2_with fail
  generalize w.alloc (.cells #[.bool false,.slice none 0 0,.slice none 0 0] 27)=W0 at *
  refine (lF _ hr hS hS1 hT).mono ?_
  rintro e w3 ⟨f5,c5,n5,k5,d5,m5,l5,rfl,G5,hx⟩
  replace G5:=G5.mono (B':=w.heap.size+1) hsz
  replace R0:=R0.below hx
  replace hb0:=aF hb0 hx
  obtain ⟨r0c0,r0c1,r0c2,r0c3,r0c4,r0c5⟩:=id R0
  obtain ⟨RN,O⟩:=R0.set (.bool f5) (.slice c5 n5 k5) (.slice d5 m5 l5)
  have GN:=(G5.off O (by omega)).mono (B':=w.heap.size) (by omega)
  have BN:=hb0.trans (O.below (Nat.le_refl _))
  clear c0 c1 c2 hx
  go_wp2
  exact bodyPost_ret (v:=.agg #[.bool f5,.slice c5 n5 k5,.slice d5 m5 l5]) (by simp [results,Tryz.results79,go_sem,RN.c0,RN.c1,RN.c2]) rfl ⟨_,_,_,_,_,_,_,rfl,GN,BN⟩
 ·have h2:(n:Int)≤(u:Int):=by omega
  rw [zn_ge hq]
  go_enter Tryz.func79,Tryz.ntmps79
  go_wp2_with fail
  generalize w.alloc (.cells #[.bool false,.slice none 0 0,.slice none 0 0] 27)=W0 at *
  refine (ofQ 0 _ (by decide) (by decide)).mono ?_
  rintro e w3 ⟨f5,c5,n5,k5,d5,m5,l5,rfl,G5,hx⟩
  replace G5:=(G5.mono (B':=w.heap.size+1) hsz).le hS1
  replace R0:=R0.below hx
  replace hb0:=aF hb0 hx
  obtain ⟨r0c0,r0c1,r0c2,r0c3,r0c4,r0c5⟩:=id R0
  obtain ⟨RN,O⟩:=R0.set (.bool f5) (.slice c5 n5 k5) (.slice d5 m5 l5)
  have GN:=(G5.off O (by omega)).mono (B':=w.heap.size) (by omega)
  have BN:=hb0.trans (O.below (Nat.le_refl _))
  clear hx
  go_wp2
  exact bodyPost_ret (v:=.agg #[.bool f5,.slice c5 n5 k5,.slice d5 m5 l5]) (by simp [results,Tryz.results79,go_sem,RN.c0,RN.c1,RN.c2]) rfl ⟨_,_,_,_,_,_,_,rfl,GN,BN⟩
theorem up1 {p:Bool} {a:Option Addr} {na ca:Nat} {d:Option Addr} {nd cd:Nat} {r:Rat} {S:Nat} {xa:Option Addr} {n xc:Nat} {X:Nat→Rat} {T:Nat} {bl bu:Nat} (u:Nat) (w:World) (hl:Rw 27 w bl #[.bool p,.slice a na ca,.slice d nd cd]) (hr:GR w 0 p a na ca d nd cd r S) (hu:Rw 3 w bu #[.int .i64 (u:Nat)]) (hx:LQ w xa n X (fun _=>T)) (hT1:1≤T) (hST:S+T≤6000000∧T+T≤6000000) (hS1:1≤S) (hT:TB w) :
 Calls Tryz.prog 78 #[.slice xa n xc,.pointer (some ⟨bl,0,none⟩),.pointer (some ⟨bu,0,none⟩)] w fun e w'=>∃ f c m k c' m' k',e = .returned (.agg #[.bool f,.slice c m k,.slice c' m' k'])∧GR w' w.heap.size f c m k c' m' k' (r+zn n X u) (S+T+T+1)∧Below w.heap.size w w':=by
 have R0:=aU w (.bool false) (.slice none 0 0) (.slice none 0 0) 27
 have hb0:=aI w (.cells #[.bool false,.slice none 0 0,.slice none 0 0] 27)
 have hsz:w.heap.size+1≤(w.alloc (.cells #[.bool false,.slice none 0 0,.slice none 0 0] 27)).heap.size:=by simp
 replace hx:=hx.below hb0
 replace hT:=hT.below hb0
 replace hr:=hr.below hb0
 have x0:=((hl.below hb0).cell 0).trans (show _=some (.bool p) from rfl)
 have x1:=((hl.below hb0).cell 1).trans (show _=some (.slice a na ca) from rfl)
 have x2:=((hl.below hb0).cell 2).trans (show _=some (.slice d nd cd) from rfl)
 have x3:=((hu.below hb0).cell 0).trans (show _=some (.int .i64 (u:Nat)) from rfl)
 clear hl hu
 go_enter Tryz.func78,Tryz.ntmps78
 go_wp2_with fail
 generalize w.alloc (.cells #[.bool false,.slice none 0 0,.slice none 0 0] 27)=W0 at *
 have HBX:∀ w',Below W0.heap.size W0 w'→(w'.cell? ⟨bl,0,none⟩=some (.bool p)∧w'.cell? ⟨bl,1,none⟩=some (.slice a na ca)∧w'.cell? ⟨bl,2,none⟩=some (.slice d nd cd)∧w'.cell? ⟨bu,0,none⟩=some (.int .i64 (u:Nat))):=fun w' h=>⟨aG h x0,aG h x1,aG h x2,aG h x3⟩
 refine wp_region_noPanic (aS 5 HBX (by as_aux_lemma=>kernel_rfl) ?_)
 have hc0:Below W0.heap.size W0 W0.drew:=aK _
 generalize W0.drew=z0 at *
 refine wpAnyG.tT 0 (v:=.agg #[.bool p,.slice a na ca,.slice d nd cd]) (by decide) 5 (by as_aux_lemma=>kernel_rfl) (by rfl) ?y0 (HBX _ hc0) ?_
 case y0 =>
  rintro w' ⟨q0,q1,q2,q3⟩
  simp only [lgA,lgZ]
  go_simp
 simp only [lgA,lgZ,Act.put,lsA,lsZ,lsS]
 refine wpAnyG.tT 1 (v:=.slice xa n xc) (by decide) 5 (by as_aux_lemma=>kernel_rfl) (by rfl) ?y1 (HBX _ hc0) ?_
 case y1 =>
  rintro w' ⟨q0,q1,q2,q3⟩
  simp only [lgA,lgZ,lgS]
  go_simp
 simp only [lgA,lgZ,lgS,Act.put,lsA,lsZ,lsS]
 refine wpAnyG.tT 2 (v:=.int .i64 (u:Nat)) (by decide) 5 (by as_aux_lemma=>kernel_rfl) (by rfl) ?y2 (HBX _ hc0) ?_
 case y2 =>
  rintro w' ⟨q0,q1,q2,q3⟩
  simp only [lgA,lgZ,lgS]
  go_simp
 simp only [lgA,lgZ,lgS,Act.put,lsA,lsZ,lsS]
 refine wpAnyG.one 3 (by as_aux_lemma=>kernel_rfl) (by decide) (by rfl) (fun K hK=>?_)
 simp only [lgA,lgZ,lgS]
 go_simp
 refine (numAt u z0 (hx.below hc0) (by omega) hT1 (hT.below hc0)).mono ?_
 rintro e z1 ⟨f1,c1,n1,k1,d1,m1,l1,rfl,G1,hk1⟩
 have hc1:Below W0.heap.size W0 z1:=aF hc0 hk1
 dsimp only
 refine hK _ _ ⟨fun _=>HBX _ hc1,fun _=>trivial⟩ ?_
 clear hK K
 refine wpAnyG.one 4 (by as_aux_lemma=>kernel_rfl) (by decide) (by rfl) (fun K hK=>?_)
 simp only [lgA,lgZ,lgS]
 go_simp
 refine (addQ z1 (hr.tr.below hc1) G1.tr (by omega) (by omega) (by omega) (hT.below hc1)).mono ?_
 rintro e z2 ⟨f2,c2,n2,k2,d2,m2,l2,rfl,G2,hk2⟩
 have hc2:Below W0.heap.size W0 z2:=aF hc1 hk2
 dsimp only
 refine hK _ _ ⟨fun _=>HBX _ hc2,fun _=>trivial⟩ ?_
 clear hK K
 refine wpAnyG.one 5 (by as_aux_lemma=>kernel_rfl) (by decide) (by rfl) (fun K hK=>?_)
 simp only [lgA,lgZ,lgS]
 have R1:=R0.below hc2
 obtain ⟨r0c0,r0c1,r0c2,r0c3,r0c4,r0c5⟩:=id R1
 obtain ⟨RN,O⟩:=R1.set (.bool f2) (.slice c2 n2 k2) (.slice d2 m2 l2)
 go_simp
 refine hK _ _ ⟨fun h=>absurd h (by decide),fun _=>trivial⟩ ?_
 clear r0c0 r0c1 r0c2 r0c3 r0c4 r0c5
 clear hK K
 refine wpAnyG.done (by as_aux_lemma=>kernel_rfl) (NoPanic.normal ?_)
 have GN:=((G2.mono (B':=w.heap.size+1) (by have:=hc1.size;omega)).off O (by omega)).mono (B':=w.heap.size) (by omega)
 have BN:=((hb0.trans (hc2.mono (by omega)))).trans (O.below (Nat.le_refl _))
 go_wp2
 exact bodyPost_ret (v:=.agg #[.bool f2,.slice c2 n2 k2,.slice d2 m2 l2]) (by simp [results,Tryz.results78,go_sem,RN.c0,RN.c1,RN.c2]) rfl ⟨_,_,_,_,_,_,_,rfl,GN.le (by omega),BN⟩
theorem dn1 {p:Bool} {a:Option Addr} {na ca:Nat} {d:Option Addr} {nd cd:Nat} {r:Rat} {S:Nat} {xa:Option Addr} {n xc:Nat} {X:Nat→Rat} {T:Nat} {bl bu:Nat} (u:Nat) (w:World) (hl:Rw 27 w bl #[.bool p,.slice a na ca,.slice d nd cd]) (hr:GR w 0 p a na ca d nd cd r S) (hu:Rw 3 w bu #[.int .i64 (u:Nat)]) (hx:LQ w xa n X (fun _=>T)) (hT1:1≤T) (hST:S+T≤6000000∧T+T≤6000000) (hS1:1≤S) (hT:TB w) :
 Calls Tryz.prog 82 #[.slice xa n xc,.pointer (some ⟨bl,0,none⟩),.pointer (some ⟨bu,0,none⟩)] w fun e w'=>∃ f c m k c' m' k',e = .returned (.agg #[.bool f,.slice c m k,.slice c' m' k'])∧GR w' w.heap.size f c m k c' m' k' (r-zn n X u) (S+T+T+1)∧Below w.heap.size w w':=by
 have R0:=aU w (.bool false) (.slice none 0 0) (.slice none 0 0) 27
 have hb0:=aI w (.cells #[.bool false,.slice none 0 0,.slice none 0 0] 27)
 have hsz:w.heap.size+1≤(w.alloc (.cells #[.bool false,.slice none 0 0,.slice none 0 0] 27)).heap.size:=by simp
 replace hx:=hx.below hb0
 replace hT:=hT.below hb0
 replace hr:=hr.below hb0
 have x0:=((hl.below hb0).cell 0).trans (show _=some (.bool p) from rfl)
 have x1:=((hl.below hb0).cell 1).trans (show _=some (.slice a na ca) from rfl)
 have x2:=((hl.below hb0).cell 2).trans (show _=some (.slice d nd cd) from rfl)
 have x3:=((hu.below hb0).cell 0).trans (show _=some (.int .i64 (u:Nat)) from rfl)
 clear hl hu
 go_enter Tryz.func82,Tryz.ntmps82
 go_wp2_with fail
 generalize w.alloc (.cells #[.bool false,.slice none 0 0,.slice none 0 0] 27)=W0 at *
 have HBX:∀ w',Below W0.heap.size W0 w'→(w'.cell? ⟨bl,0,none⟩=some (.bool p)∧w'.cell? ⟨bl,1,none⟩=some (.slice a na ca)∧w'.cell? ⟨bl,2,none⟩=some (.slice d nd cd)∧w'.cell? ⟨bu,0,none⟩=some (.int .i64 (u:Nat))):=fun w' h=>⟨aG h x0,aG h x1,aG h x2,aG h x3⟩
 refine wp_region_noPanic (aS 5 HBX (by as_aux_lemma=>kernel_rfl) ?_)
 have hc0:Below W0.heap.size W0 W0.drew:=aK _
 generalize W0.drew=z0 at *
 refine wpAnyG.tT 0 (v:=.agg #[.bool p,.slice a na ca,.slice d nd cd]) (by decide) 5 (by as_aux_lemma=>kernel_rfl) (by rfl) ?y0 (HBX _ hc0) ?_
 case y0 =>
  rintro w' ⟨q0,q1,q2,q3⟩
  simp only [lgA,lgZ]
  go_simp
 simp only [lgA,lgZ,Act.put,lsA,lsZ,lsS]
 refine wpAnyG.tT 1 (v:=.slice xa n xc) (by decide) 5 (by as_aux_lemma=>kernel_rfl) (by rfl) ?y1 (HBX _ hc0) ?_
 case y1 =>
  rintro w' ⟨q0,q1,q2,q3⟩
  simp only [lgA,lgZ,lgS]
  go_simp
 simp only [lgA,lgZ,lgS,Act.put,lsA,lsZ,lsS]
 refine wpAnyG.tT 2 (v:=.int .i64 (u:Nat)) (by decide) 5 (by as_aux_lemma=>kernel_rfl) (by rfl) ?y2 (HBX _ hc0) ?_
 case y2 =>
  rintro w' ⟨q0,q1,q2,q3⟩
  simp only [lgA,lgZ,lgS]
  go_simp
 simp only [lgA,lgZ,lgS,Act.put,lsA,lsZ,lsS]
 refine wpAnyG.one 3 (by as_aux_lemma=>kernel_rfl) (by decide) (by rfl) (fun K hK=>?_)
 simp only [lgA,lgZ,lgS]
 go_simp
 refine (numAt u z0 (hx.below hc0) (by omega) hT1 (hT.below hc0)).mono ?_
 rintro e z1 ⟨f1,c1,n1,k1,d1,m1,l1,rfl,G1,hk1⟩
 have hc1:Below W0.heap.size W0 z1:=aF hc0 hk1
 dsimp only
 refine hK _ _ ⟨fun _=>HBX _ hc1,fun _=>trivial⟩ ?_
 clear hK K
 refine wpAnyG.one 4 (by as_aux_lemma=>kernel_rfl) (by decide) (by rfl) (fun K hK=>?_)
 simp only [lgA,lgZ,lgS]
 go_simp
 refine (jB z1 (hr.tr.below hc1) G1.tr (by omega) (by omega) (by omega) (hT.below hc1)).mono ?_
 rintro e z2 ⟨f2,c2,n2,k2,d2,m2,l2,rfl,G2,hk2⟩
 have hc2:Below W0.heap.size W0 z2:=aF hc1 hk2
 dsimp only
 refine hK _ _ ⟨fun _=>HBX _ hc2,fun _=>trivial⟩ ?_
 clear hK K
 refine wpAnyG.one 5 (by as_aux_lemma=>kernel_rfl) (by decide) (by rfl) (fun K hK=>?_)
 simp only [lgA,lgZ,lgS]
 have R1:=R0.below hc2
 obtain ⟨r0c0,r0c1,r0c2,r0c3,r0c4,r0c5⟩:=id R1
 obtain ⟨RN,O⟩:=R1.set (.bool f2) (.slice c2 n2 k2) (.slice d2 m2 l2)
 go_simp
 refine hK _ _ ⟨fun h=>absurd h (by decide),fun _=>trivial⟩ ?_
 clear r0c0 r0c1 r0c2 r0c3 r0c4 r0c5
 clear hK K
 refine wpAnyG.done (by as_aux_lemma=>kernel_rfl) (NoPanic.normal ?_)
 have GN:=((G2.mono (B':=w.heap.size+1) (by have:=hc1.size;omega)).off O (by omega)).mono (B':=w.heap.size) (by omega)
 have BN:=((hb0.trans (hc2.mono (by omega)))).trans (O.below (Nat.le_refl _))
 go_wp2
 exact bodyPost_ret (v:=.agg #[.bool f2,.slice c2 n2 k2,.slice d2 m2 l2]) (by simp [results,Tryz.results82,go_sem,RN.c0,RN.c1,RN.c2]) rfl ⟨_,_,_,_,_,_,_,rfl,GN.le (by omega),BN⟩
theorem fr1 {S:Nat} {xa:Option Addr} {n xc:Nat} {X:Nat→Rat} {T:Nat} {bp bm:Nat} (u:Nat) (w:World) (hp:Rw 3 w bp #[.int .i64 (u:Nat)]) (hm:Rw 3 w bm #[.int .i64 ((u+1:Nat):Int)]) (hx:LQ w xa n X (fun _=>T)) (hT1:1≤T) (hST:S+T≤6000000∧T+T≤6000000) (hS1:1≤S) (hT:TB w) :
 Calls Tryz.prog 85 #[.slice xa n xc,.pointer (some ⟨bp,0,none⟩),.pointer (some ⟨bm,0,none⟩)] w fun e w'=>∃ f c m k c' m' k',e = .returned (.agg #[.bool f,.slice c m k,.slice c' m' k'])∧GR w' w.heap.size f c m k c' m' k' (zn n X u-zn n X (u+1)) (S+T+T+1)∧Below w.heap.size w w':=by
 have R0:=aU w (.bool false) (.slice none 0 0) (.slice none 0 0) 27
 have hb0:=aI w (.cells #[.bool false,.slice none 0 0,.slice none 0 0] 27)
 have hsz:w.heap.size+1≤(w.alloc (.cells #[.bool false,.slice none 0 0,.slice none 0 0] 27)).heap.size:=by simp
 replace hx:=hx.below hb0
 replace hT:=hT.below hb0
 have x0:=((hp.below hb0).cell 0).trans (show _=some (.int .i64 (u:Nat)) from rfl)
 have x1:=((hm.below hb0).cell 0).trans (show _=some (.int .i64 ((u+1:Nat):Int)) from rfl)
 clear hp hm
 go_enter Tryz.func85,Tryz.ntmps85
 go_wp2_with fail
 generalize w.alloc (.cells #[.bool false,.slice none 0 0,.slice none 0 0] 27)=W0 at *
 have HBX:∀ w',Below W0.heap.size W0 w'→(w'.cell? ⟨bp,0,none⟩=some (.int .i64 (u:Nat))∧w'.cell? ⟨bm,0,none⟩=some (.int .i64 ((u+1:Nat):Int))):=fun w' h=>⟨aG h x0,aG h x1⟩
 refine wp_region_noPanic (aS 7 HBX (by as_aux_lemma=>kernel_rfl) ?_)
 have hc0:Below W0.heap.size W0 W0.drew:=aK _
 generalize W0.drew=z0 at *
 refine wpAnyG.tT 0 (v:=.slice xa n xc) (by decide) 7 (by as_aux_lemma=>kernel_rfl) (by rfl) ?y0 (HBX _ hc0) ?_
 case y0 =>
  rintro w' ⟨q0,q1⟩
  simp only [lgA,lgZ]
  go_simp
 simp only [lgA,lgZ,Act.put,lsA,lsZ,lsS]
 refine wpAnyG.tT 1 (v:=.int .i64 (u:Nat)) (by decide) 7 (by as_aux_lemma=>kernel_rfl) (by rfl) ?y1 (HBX _ hc0) ?_
 case y1 =>
  rintro w' ⟨q0,q1⟩
  simp only [lgA,lgZ,lgS]
  go_simp
 simp only [lgA,lgZ,lgS,Act.put,lsA,lsZ,lsS]
 refine wpAnyG.tT 3 (v:=.slice xa n xc) (by decide) 7 (by as_aux_lemma=>kernel_rfl) (by rfl) ?y3 (HBX _ hc0) ?_
 case y3 =>
  rintro w' ⟨q0,q1⟩
  simp only [lgA,lgZ,lgS]
  go_simp
 simp only [lgA,lgZ,lgS,Act.put,lsA,lsZ,lsS]
 refine wpAnyG.tT 4 (v:=.int .i64 ((u+1:Nat):Int)) (by decide) 7 (by as_aux_lemma=>kernel_rfl) (by rfl) ?y4 (HBX _ hc0) ?_
 case y4 =>
  rintro w' ⟨q0,q1⟩
  simp only [lgA,lgZ,lgS]
  go_simp
 simp only [lgA,lgZ,lgS,Act.put,lsA,lsZ,lsS]
 refine wpAnyG.one 2 (by as_aux_lemma=>kernel_rfl) (by decide) (by rfl) (fun K hK=>?_)
 simp only [lgA,lgZ,lgS]
 go_simp
 refine (numAt u z0 (hx.below hc0) (by omega) hT1 (hT.below hc0)).mono ?_
 rintro e z1 ⟨f1,c1,n1,k1,d1,m1,l1,rfl,G1,hk1⟩
 have hc1:Below W0.heap.size W0 z1:=aF hc0 hk1
 dsimp only
 refine hK _ _ ⟨fun _=>HBX _ hc1,fun _=>trivial⟩ ?_
 clear hK K
 refine wpAnyG.one 5 (by as_aux_lemma=>kernel_rfl) (by decide) (by rfl) (fun K hK=>?_)
 simp only [lgA,lgZ,lgS]
 go_simp
 refine (numAt (u+1) z1 (hx.below hc1) (by omega) hT1 (hT.below hc1)).mono ?_
 rintro e z2 ⟨f2,c2,n2,k2,d2,m2,l2,rfl,G2,hk2⟩
 have hc2:Below W0.heap.size W0 z2:=aF hc1 hk2
 dsimp only
 refine hK _ _ ⟨fun _=>HBX _ hc2,fun _=>trivial⟩ ?_
 clear hK K
 refine wpAnyG.one 6 (by as_aux_lemma=>kernel_rfl) (by decide) (by rfl) (fun K hK=>?_)
 simp only [lgA,lgZ,lgS]
 go_simp
 refine (jB z2 (G1.tr.below hk2) G2.tr (by omega) (by omega) (by omega) (hT.below hc2)).mono ?_
 rintro e z3 ⟨f3,c3,n3,k3,d3,m3,l3,rfl,G3,hk3⟩
 have hc3:Below W0.heap.size W0 z3:=aF hc2 hk3
 dsimp only
 refine hK _ _ ⟨fun _=>HBX _ hc3,fun _=>trivial⟩ ?_
 clear hK K
 refine wpAnyG.one 7 (by as_aux_lemma=>kernel_rfl) (by decide) (by rfl) (fun K hK=>?_)
 simp only [lgA,lgZ,lgS]
 have R1:=R0.below hc3
 obtain ⟨r0c0,r0c1,r0c2,r0c3,r0c4,r0c5⟩:=id R1
 obtain ⟨RN,O⟩:=R1.set (.bool f3) (.slice c3 n3 k3) (.slice d3 m3 l3)
 go_simp
 refine hK _ _ ⟨fun h=>absurd h (by decide),fun _=>trivial⟩ ?_
 clear r0c0 r0c1 r0c2 r0c3 r0c4 r0c5
 clear hK K
 refine wpAnyG.done (by as_aux_lemma=>kernel_rfl) (NoPanic.normal ?_)
 have GN:=((G3.mono (B':=w.heap.size+1) (by have:=hc2.size;omega)).off O (by omega)).mono (B':=w.heap.size) (by omega)
 have BN:=((hb0.trans (hc3.mono (by omega)))).trans (O.below (Nat.le_refl _))
 go_wp2
 exact bodyPost_ret (v:=.agg #[.bool f3,.slice c3 n3 k3,.slice d3 m3 l3]) (by simp [results,Tryz.results85,go_sem,RN.c0,RN.c1,RN.c2]) rfl ⟨_,_,_,_,_,_,_,rfl,GN.le (by omega),BN⟩
end Go.Proofs.YtmeimjakdheidaaGreatDoor

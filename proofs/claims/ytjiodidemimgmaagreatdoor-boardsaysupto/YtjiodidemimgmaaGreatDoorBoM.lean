import Derived.Test.YtjiodidemimgmaaGreatDoorBoL
namespace Go.Proofs.YtjiodidemimgmaaGreatDoor
open Go.RowKit
set_option maxRecDepth 100000 in
set_option maxHeartbeats 4000000 in
theorem goneB (g o:Nat) (v:Int) (w:World) (h:w.cell? ⟨g,o + 4,none⟩ = some (.int .i64 v)):Calls Tryz.prog 49 #[.pointer (some ⟨g,o,none⟩)] w fun e w'=>e = .returned (.bool (decide (v = -1)))∧w' = w:=by
 by_cases hv:v = -1
 ·subst hv
  go_enter Tryz.func49,Tryz.ntmps49
  go_wp2
  go_ret
  exact ⟨rfl,rfl⟩
 ·have hv2:(v == -1) = false:=by simpa using hv
  rw [decide_eq_false hv]
  go_enter Tryz.func49,Tryz.ntmps49
  go_wp2
  go_ret
  exact ⟨rfl,rfl⟩
set_option maxRecDepth 100000 in
set_option maxHeartbeats 4000000 in
theorem rowsB {F:Nat} {f:Bf} {n:Nat} {X:Nat→RoD} {lc:List (Nat × Rat)} {S Sc:Nat} (w:World) (h:BD w F f n X lc S Sc):Calls Tryz.prog 14 #[.pointer (some ⟨f.b,0,none⟩)] w fun e w'=>e = .returned (.int .i64 (f.m:Nat))∧w' = w:=by
 obtain ⟨ra,rc,erv,hrc⟩:=h.rlen
 have x0:=(h.rw.cell 0).trans (show _ = some (.int .i64 (n:Nat)) from rfl)
 have x1:=(h.rw.cell 1).trans (show _ = some f.rv from rfl)
 rw [erv] at x1
 go_enter Tryz.func14,Tryz.ntmps14
 go_wp2
 go_ret
 exact ⟨rfl,rfl⟩
set_option maxRecDepth 100000 in
set_option maxHeartbeats 4000000 in
theorem colsB {F:Nat} {f:Bf} {n:Nat} {X:Nat→RoD} {lc:List (Nat × Rat)} {S Sc:Nat} (w:World) (h:BD w F f n X lc S Sc) (hN:n + f.m≤3000000):Calls Tryz.prog 15 #[.pointer (some ⟨f.b,0,none⟩)] w fun e w'=>e = .returned (.int .i64 ((n + f.m:Nat):Int))∧Below w.heap.size w w':=by
 obtain ⟨ra,rc,erv,hrc⟩:=h.rlen
 have x0:=(h.rw.cell 0).trans (show _ = some (.int .i64 (n:Nat)) from rfl)
 have x1:=(h.rw.cell 1).trans (show _ = some f.rv from rfl)
 rw [erv] at x1
 obtain ⟨c,ec⟩:∃ c,c = n + f.m:=⟨_,rfl⟩
 have hcI:(n:Int) + (f.m:Int) = (c:Int):=by omega
 have hcw:IntKind.i64.wrap (c:Int) = (c:Int):=wrap_id c (by omega)
 rw [← ec]
 clear ec hN
 have HBX:∀ w',Below w.heap.size w w'→(w'.cell? ⟨f.b,0,none⟩ = some (.int .i64 (n:Nat))∧w'.cell? ⟨f.b,1,none⟩ = some (.slice ra f.m rc)):=fun w' h=>⟨kept_c h x0,kept_c h x1⟩
 go_enter Tryz.func15,Tryz.ntmps15
 go_wp2_with fail
 refine wp_region_noPanic (wp_region_guardB HBX (by as_aux_lemma=>kernel_rfl) ?_)
 have hc0:Below w.heap.size w w.drew:=bel_d1 _
 generalize w.drew = z0 at *
 refine wpAnyG.tA 0 (v:=.pointer (some ⟨f.b,0,none⟩)) (by decide) 10 (by as_aux_lemma=>kernel_rfl) (by rfl) ?y0 (HBX _ hc0) ?_
 case y0 =>
  rintro w' ⟨q0,q1⟩
  simp only [lgA,lgZ]
  go_simp
 simp only [lgA,lgZ,Act.put,lsA,lsZ,lsS]
 refine wpAnyG.tA 1 (v:=.pointer (some ⟨f.b,0,none⟩)) (by decide) 10 (by as_aux_lemma=>kernel_rfl) (by rfl) ?y1 (HBX _ hc0) ?_
 case y1 =>
  rintro w' ⟨q0,q1⟩
  simp only [lgA,lgZ,lgS]
  go_simp
 simp only [lgA,lgZ,lgS,Act.put,lsA,lsZ,lsS]
 refine wpAnyG.tA 2 (v:=.pointer (some ⟨f.b,0,none⟩)) (by decide) 10 (by as_aux_lemma=>kernel_rfl) (by rfl) ?y2 (HBX _ hc0) ?_
 case y2 =>
  rintro w' ⟨q0,q1⟩
  simp only [lgA,lgZ,lgS]
  go_simp
 simp only [lgA,lgZ,lgS,Act.put,lsA,lsZ,lsS]
 refine wpAnyG.tA 3 (v:=.int .i64 (n:Nat)) (by decide) 10 (by as_aux_lemma=>kernel_rfl) (by rfl) ?y3 (HBX _ hc0) ?_
 case y3 =>
  rintro w' ⟨q0,q1⟩
  simp only [lgA,lgZ,lgS]
  go_simp
 simp only [lgA,lgZ,lgS,Act.put,lsA,lsZ,lsS]
 refine wpAnyG.tA 4 (v:=.pointer (some ⟨f.b,0,none⟩)) (by decide) 10 (by as_aux_lemma=>kernel_rfl) (by rfl) ?y4 (HBX _ hc0) ?_
 case y4 =>
  rintro w' ⟨q0,q1⟩
  simp only [lgA,lgZ,lgS]
  go_simp
 simp only [lgA,lgZ,lgS,Act.put,lsA,lsZ,lsS]
 refine wpAnyG.tA 5 (v:=.pointer (some ⟨f.b,0,none⟩)) (by decide) 10 (by as_aux_lemma=>kernel_rfl) (by rfl) ?y5 (HBX _ hc0) ?_
 case y5 =>
  rintro w' ⟨q0,q1⟩
  simp only [lgA,lgZ,lgS]
  go_simp
 simp only [lgA,lgZ,lgS,Act.put,lsA,lsZ,lsS]
 refine wpAnyG.tA 6 (v:=.pointer (some ⟨f.b,1,none⟩)) (by decide) 10 (by as_aux_lemma=>kernel_rfl) (by rfl) ?y6 (HBX _ hc0) ?_
 case y6 =>
  rintro w' ⟨q0,q1⟩
  simp only [lgA,lgZ,lgS]
  go_simp
 simp only [lgA,lgZ,lgS,Act.put,lsA,lsZ,lsS]
 refine wpAnyG.tA 7 (v:=.slice ra f.m rc) (by decide) 10 (by as_aux_lemma=>kernel_rfl) (by rfl) ?y7 (HBX _ hc0) ?_
 case y7 =>
  rintro w' ⟨q0,q1⟩
  simp only [lgA,lgZ,lgS]
  go_simp
 simp only [lgA,lgZ,lgS,Act.put,lsA,lsZ,lsS]
 refine wpAnyG.tA 8 (v:=.int .i64 (f.m:Nat)) (by decide) 10 (by as_aux_lemma=>kernel_rfl) (by rfl) ?y8 (HBX _ hc0) ?_
 case y8 =>
  rintro w' ⟨q0,q1⟩
  simp only [lgA,lgZ,lgS]
  go_simp
 simp only [lgA,lgZ,lgS,Act.put,lsA,lsZ,lsS]
 refine wpAnyG.tA 9 (v:=.int .i64 (c:Nat)) (by decide) 10 (by as_aux_lemma=>kernel_rfl) (by rfl) ?y9 (HBX _ hc0) ?_
 case y9 =>
  rintro w' ⟨q0,q1⟩
  simp only [lgA,lgZ,lgS]
  go_simp
 simp only [lgA,lgZ,lgS,Act.put,lsA,lsZ,lsS]
 refine wpAnyG.one 10 (by as_aux_lemma=>kernel_rfl) (by decide) (by rfl) (fun K hK=>?_)
 simp only [lgA,lgZ,lgS]
 go_simp
 refine hK _ _ (HBX _ hc0) ?_
 clear hK K
 refine wpAnyG.done (by as_aux_lemma=>kernel_rfl) (NoPanic.normal ?_)
 go_wp2
 go_ret
 exact ⟨rfl,hc0⟩
set_option maxRecDepth 100000 in
set_option maxHeartbeats 4000000 in
theorem isRowB {F:Nat} {f:Bf} {n:Nat} {X:Nat→RoD} {lc:List (Nat × Rat)} {S Sc:Nat} (i:Int) (w:World) (h:BD w F f n X lc S Sc):Calls Tryz.prog 32 #[.pointer (some ⟨f.b,0,none⟩),.int .i64 i] w fun e w'=>e = .returned (.bool (decide (0≤i∧i < (f.m:Int))))∧w' = w:=by
 obtain ⟨ra,rc,erv,hrc⟩:=h.rlen
 have x0:=(h.rw.cell 0).trans (show _ = some (.int .i64 (n:Nat)) from rfl)
 have x1:=(h.rw.cell 1).trans (show _ = some f.rv from rfl)
 rw [erv] at x1
 by_cases h0:0≤i
 ·by_cases h1:i < (f.m:Int)
  ·have hd:decide (0≤i∧i < (f.m:Int)) = true:=decide_eq_true ⟨h0,h1⟩
   rw [hd]
   go_enter Tryz.func32,Tryz.ntmps32
   go_wp2
   go_ret
   exact ⟨rfl,rfl⟩
  ·have hd:decide (0≤i∧i < (f.m:Int)) = false:=decide_eq_false fun h=>h1 h.2
   rw [hd]
   have h1':(f.m:Int)≤i:=by omega
   go_enter Tryz.func32,Tryz.ntmps32
   go_wp2
   go_ret
   exact ⟨rfl,rfl⟩
 ·have hd:decide (0≤i∧i < (f.m:Int)) = false:=decide_eq_false fun h=>h0 h.1
  rw [hd]
  have h1':i < 0:=by omega
  go_enter Tryz.func32,Tryz.ntmps32
  go_wp2
  go_ret
  exact ⟨rfl,rfl⟩
set_option maxRecDepth 100000 in
set_option maxHeartbeats 4000000 in
theorem isColB {F:Nat} {f:Bf} {n:Nat} {X:Nat→RoD} {lc:List (Nat × Rat)} {S Sc:Nat} (j:Int) (w:World) (h:BD w F f n X lc S Sc) (hN:n + f.m≤3000000):Calls Tryz.prog 53 #[.pointer (some ⟨f.b,0,none⟩),.int .i64 j] w fun e w'=>e = .returned (.bool (decide (0≤j∧j < ((n + f.m:Nat):Int))))∧Below w.heap.size w w':=by
 obtain ⟨c,ec⟩:∃ c,c = n + f.m:=⟨_,rfl⟩
 have HC:Hid (c = n + f.m):=ec
 rw [← ec]
 clear ec
 by_cases h0:0≤j
 ·by_cases hj:j < (c:Int)
  ·rw [show decide (0≤j∧j < (c:Int)) = true from decide_eq_true ⟨h0,hj⟩]
   go_enter Tryz.func53,Tryz.ntmps53
   go_wp2_with fail
   refine (colsB w h hN).mono ?_
   rintro e w1 ⟨rfl,h1⟩
   rw [← HC.out]
   go_wp2
   go_ret
   exact ⟨rfl,h1⟩
  ·rw [show decide (0≤j∧j < (c:Int)) = false from decide_eq_false fun h=>hj h.2]
   have hj':(c:Int)≤j:=by omega
   go_enter Tryz.func53,Tryz.ntmps53
   go_wp2_with fail
   refine (colsB w h hN).mono ?_
   rintro e w1 ⟨rfl,h1⟩
   rw [← HC.out]
   go_wp2
   go_ret
   exact ⟨by rw [show decide (j < (c:Int)) = false from decide_eq_false (by omega)];rfl,h1⟩
 ·rw [show decide (0≤j∧j < (c:Int)) = false from decide_eq_false fun h=>h0 h.1]
  have h0':j < 0:=by omega
  go_enter Tryz.func53,Tryz.ntmps53
  go_wp2
  go_ret
  exact ⟨rfl,Below.refl _ _⟩
def thr (X:Nat→RoD) (m:Nat) (i:Int):Bool:=decide (0≤i∧i < (m:Int)) && !decide ((X i.toNat).bas = -1)
set_option maxRecDepth 100000 in
set_option maxHeartbeats 4000000 in
theorem isThereB {F:Nat} {f:Bf} {n:Nat} {X:Nat→RoD} {lc:List (Nat × Rat)} {S Sc:Nat} (i:Int) (w:World) (h:BD w F f n X lc S Sc):Calls Tryz.prog 52 #[.pointer (some ⟨f.b,0,none⟩),.int .i64 i] w fun e w'=>e = .returned (.bool (thr X f.m i))∧w' = w:=by
 by_cases hr:0≤i∧i < (f.m:Int)
 ·obtain ⟨k,rfl⟩:=Int.eq_ofNat_of_zero_le hr.1
  have hk:k < f.m:=by omega
  obtain ⟨rg,rc,p,a,na,ca,d,nd,cd,erv,_,_,_,_,c4,_,_⟩:=h.get hk
  have x1:=(h.rw.cell 1).trans (show _ = some f.rv from rfl)
  rw [erv] at x1
  have hkI:(k:Int) < (f.m:Int):=by omega
  have hk6:(k:Int) * 6 = ((k * 6:Nat):Int):=by omega
  have hd:decide (0≤(k:Int)∧(k:Int) < (f.m:Int)) = true:=decide_eq_true hr
  have ht:thr X f.m (k:Int) = !decide ((X k).bas = -1):=by unfold thr;rw [hd,Int.toNat_natCast];rfl
  rw [ht]
  clear ht
  go_enter Tryz.func52,Tryz.ntmps52
  go_wp2_with fail
  refine (isRowB (k:Int) w h).mono ?_
  rintro e w1 ⟨rfl,rfl⟩
  rw [hd]
  go_wp2_with fail
  refine (goneB rg (k * 6) (X k).bas w1 c4).mono ?_
  rintro e w2 ⟨rfl,rfl⟩
  go_wp2
  go_ret
  exact ⟨rfl,rfl⟩
 ·have hd:decide (0≤i∧i < (f.m:Int)) = false:=decide_eq_false hr
  have ht:thr X f.m i = false:=by unfold thr;rw [hd];rfl
  rw [ht]
  go_enter Tryz.func52,Tryz.ntmps52
  go_wp2_with fail
  refine (isRowB i w h).mono ?_
  rintro e w1 ⟨rfl,rfl⟩
  rw [hd]
  go_wp2
  go_ret
  exact ⟨rfl,rfl⟩
def bat (X:Nat→RoD) (m:Nat) (i j:Int):Rat:=if 0≤i∧i < (m:Int) then latI (X i.toNat).l j else 0
def brt (X:Nat→RoD) (m:Nat) (i:Int):Rat:=if 0≤i∧i < (m:Int) then (X i.toNat).r else 0
def btu (X:Nat→RoD) (m:Nat) (i:Int):Bool:=if 0≤i∧i < (m:Int) then (X i.toNat).tu else false
set_option maxRecDepth 100000 in
set_option maxHeartbeats 4000000 in
theorem atBB {F:Nat} {f:Bf} {n:Nat} {X:Nat→RoD} {lc:List (Nat × Rat)} {S Sc:Nat} (i j:Int) (w:World) (h:BD w F f n X lc S Sc) (hN:n + f.m≤3000000) (hS:1≤S∧S≤7000000) (hT:TB w):Calls Tryz.prog 8 #[.pointer (some ⟨f.b,0,none⟩),.int .i64 i,.int .i64 j] w fun e w'=>∃ f1 c1 n1 k1 c2 n2 k2,e = .returned (.agg #[.bool f1,.slice c1 n1 k1,.slice c2 n2 k2])∧GR w' w.heap.size f1 c1 n1 k1 c2 n2 k2 (bat X f.m i j) S∧Below w.heap.size w w':=by
 have R0:=var3_new w (.bool false) (.slice none 0 0) (.slice none 0 0) 29
 have hb0:=bel_d0 w (.cells #[.bool false,.slice none 0 0,.slice none 0 0] 29)
 have hsz:w.heap.size + 1≤(w.alloc (.cells #[.bool false,.slice none 0 0,.slice none 0 0] 29)).heap.size:=by simp
 have h0:=h.below hb0
 by_cases hr:0≤i∧i < (f.m:Int)
 ·obtain ⟨k,rfl⟩:=Int.eq_ofNat_of_zero_le hr.1
  have hk:k < f.m:=by omega
  obtain ⟨rg,rc,p,a,na,ca,d,nd,cd,erv,y0,y1,y2,y3,_,_,G⟩:=h0.get hk
  have x1:=(h0.rw.cell 1).trans (show _ = some f.rv from rfl)
  rw [erv] at x1
  have hkI:(k:Int) < (f.m:Int):=by omega
  have hk6:(k:Int) * 6 = ((k * 6:Nat):Int):=by omega
  have hd:decide (0≤(k:Int)∧(k:Int) < (f.m:Int)) = true:=decide_eq_true hr
  have ht:bat X f.m (k:Int) j = latI (X k).l j:=by unfold bat;rw [if_pos hr,Int.toNat_natCast]
  rw [ht]
  have hT0:=hT.below hb0
  clear ht
  have LK:=h0.t k hk
  obtain ⟨va,vc,eva,_⟩:=LK.form
  have hkk:=h0.k k hk
  have hlen:=hkk.1.len _ hkk.2.1
  rw [eva] at LK y0
  go_enter Tryz.func8,Tryz.ntmps8
  go_wp2_with fail
  generalize w.alloc (.cells #[.bool false,.slice none 0 0,.slice none 0 0] 29) = W0 at *
  refine (isRowB (k:Int) W0 h0).mono ?_
  rintro e w1 ⟨rfl,rfl⟩
  rw [hd]
  go_wp2_with fail
  refine (atB j w1 LK hkk.1 (by omega)).mono ?_
  rintro e w2 ⟨q,u,nu,cu,v,nv,cv,rfl,Z,hb2⟩
  go_wp2_with fail
  refine (normR w2 Z.tr hS.2 hS.1 (hT0.below hb2)).mono ?_
  rintro e w3 ⟨f5,c5,n5,k5,d5,m5,l5,rfl,G5,hx⟩
  have hb3:=bel_tr hb2 hx
  have hs2:=hb2.size
  replace R0:=R0.below hb3
  replace hb0:=bel_tr hb0 hb3
  obtain ⟨r0c0,r0c1,r0c2,r0c3,r0c4,r0c5⟩:=id R0
  obtain ⟨RN,O⟩:=R0.set (.bool f5) (.slice c5 n5 k5) (.slice d5 m5 l5)
  have GN:=((G5.mono (B':=w.heap.size + 1) (by omega)).off O (by omega)).mono (B':=w.heap.size) (by omega)
  have BN:=hb0.trans (O.below (Nat.le_refl _))
  clear h0 h y0 y1 y2 y3 x1 G hT0 hT
  go_wp2
  exact bodyPost_ret (v:=.agg #[.bool f5,.slice c5 n5 k5,.slice d5 m5 l5]) (by simp [results,Tryz.results8,go_sem,RN.c0,RN.c1,RN.c2]) rfl ⟨_,_,_,_,_,_,_,rfl,GN,BN⟩
 ·have hd:decide (0≤i∧i < (f.m:Int)) = false:=decide_eq_false hr
  have ht:bat X f.m i j = ((0:Int):Rat):=by unfold bat;rw [if_neg hr];rfl
  rw [ht]
  go_enter Tryz.func8,Tryz.ntmps8
  go_wp2_with fail
  generalize w.alloc (.cells #[.bool false,.slice none 0 0,.slice none 0 0] 29) = W0 at *
  refine (isRowB i W0 h0).mono ?_
  rintro e w1 ⟨rfl,rfl⟩
  rw [hd]
  go_wp2_with fail
  refine (ofQ 0 w1 (by decide) (by decide)).mono ?_
  rintro e w3 ⟨f5,c5,n5,k5,d5,m5,l5,rfl,G5,hx⟩
  replace G5:=(G5.mono (B':=w.heap.size + 1) hsz).le hS.1
  replace R0:=R0.below hx
  replace hb0:=bel_tr hb0 hx
  obtain ⟨r0c0,r0c1,r0c2,r0c3,r0c4,r0c5⟩:=id R0
  obtain ⟨RN,O⟩:=R0.set (.bool f5) (.slice c5 n5 k5) (.slice d5 m5 l5)
  have GN:=(G5.off O (by omega)).mono (B':=w.heap.size) (by omega)
  have BN:=hb0.trans (O.below (Nat.le_refl _))
  clear hx h0 h
  go_wp2
  exact bodyPost_ret (v:=.agg #[.bool f5,.slice c5 n5 k5,.slice d5 m5 l5]) (by simp [results,Tryz.results8,go_sem,RN.c0,RN.c1,RN.c2]) rfl ⟨_,_,_,_,_,_,_,rfl,GN,BN⟩
set_option maxRecDepth 100000 in
set_option maxHeartbeats 4000000 in
theorem rightB {F:Nat} {f:Bf} {n:Nat} {X:Nat→RoD} {lc:List (Nat × Rat)} {S Sc:Nat} (i:Int) (w:World) (h:BD w F f n X lc S Sc) (hS:1≤S∧S≤7000000) (hT:TB w):Calls Tryz.prog 10 #[.pointer (some ⟨f.b,0,none⟩),.int .i64 i] w fun e w'=>∃ f1 c1 n1 k1 c2 n2 k2,e = .returned (.agg #[.bool f1,.slice c1 n1 k1,.slice c2 n2 k2])∧GR w' w.heap.size f1 c1 n1 k1 c2 n2 k2 (brt X f.m i) S∧Below w.heap.size w w':=by
 have R0:=var3_new w (.bool false) (.slice none 0 0) (.slice none 0 0) 29
 have hb0:=bel_d0 w (.cells #[.bool false,.slice none 0 0,.slice none 0 0] 29)
 have hsz:w.heap.size + 1≤(w.alloc (.cells #[.bool false,.slice none 0 0,.slice none 0 0] 29)).heap.size:=by simp
 have h0:=h.below hb0
 by_cases hr:0≤i∧i < (f.m:Int)
 ·obtain ⟨k,rfl⟩:=Int.eq_ofNat_of_zero_le hr.1
  have hk:k < f.m:=by omega
  obtain ⟨rg,rc,p,a,na,ca,d,nd,cd,erv,y0,y1,y2,y3,_,_,G⟩:=h0.get hk
  have x1:=(h0.rw.cell 1).trans (show _ = some f.rv from rfl)
  rw [erv] at x1
  have hkI:(k:Int) < (f.m:Int):=by omega
  have hk6:(k:Int) * 6 = ((k * 6:Nat):Int):=by omega
  have hd:decide (0≤(k:Int)∧(k:Int) < (f.m:Int)) = true:=decide_eq_true hr
  have ht:brt X f.m (k:Int) = (X k).r:=by unfold brt;rw [if_pos hr,Int.toNat_natCast]
  rw [ht]
  have hT0:=hT.below hb0
  clear ht
  go_enter Tryz.func10,Tryz.ntmps10
  go_wp2_with fail
  generalize w.alloc (.cells #[.bool false,.slice none 0 0,.slice none 0 0] 29) = W0 at *
  refine (isRowB (k:Int) W0 h0).mono ?_
  rintro e w1 ⟨rfl,rfl⟩
  rw [hd]
  go_wp2_with fail
  refine (normR w1 G.tr hS.2 hS.1 hT0).mono ?_
  rintro e w3 ⟨f5,c5,n5,k5,d5,m5,l5,rfl,G5,hb3⟩
  replace R0:=R0.below hb3
  replace hb0:=bel_tr hb0 hb3
  obtain ⟨r0c0,r0c1,r0c2,r0c3,r0c4,r0c5⟩:=id R0
  obtain ⟨RN,O⟩:=R0.set (.bool f5) (.slice c5 n5 k5) (.slice d5 m5 l5)
  have GN:=((G5.mono (B':=w.heap.size + 1) (by omega)).off O (by omega)).mono (B':=w.heap.size) (by omega)
  have BN:=hb0.trans (O.below (Nat.le_refl _))
  clear h0 h y0 y1 y2 y3 x1 G hT0 hT
  go_wp2
  exact bodyPost_ret (v:=.agg #[.bool f5,.slice c5 n5 k5,.slice d5 m5 l5]) (by simp [results,Tryz.results10,go_sem,RN.c0,RN.c1,RN.c2]) rfl ⟨_,_,_,_,_,_,_,rfl,GN,BN⟩
 ·have hd:decide (0≤i∧i < (f.m:Int)) = false:=decide_eq_false hr
  have ht:brt X f.m i = ((0:Int):Rat):=by unfold brt;rw [if_neg hr];rfl
  rw [ht]
  go_enter Tryz.func10,Tryz.ntmps10
  go_wp2_with fail
  generalize w.alloc (.cells #[.bool false,.slice none 0 0,.slice none 0 0] 29) = W0 at *
  refine (isRowB i W0 h0).mono ?_
  rintro e w1 ⟨rfl,rfl⟩
  rw [hd]
  go_wp2_with fail
  refine (ofQ 0 w1 (by decide) (by decide)).mono ?_
  rintro e w3 ⟨f5,c5,n5,k5,d5,m5,l5,rfl,G5,hx⟩
  replace G5:=(G5.mono (B':=w.heap.size + 1) hsz).le hS.1
  replace R0:=R0.below hx
  replace hb0:=bel_tr hb0 hx
  obtain ⟨r0c0,r0c1,r0c2,r0c3,r0c4,r0c5⟩:=id R0
  obtain ⟨RN,O⟩:=R0.set (.bool f5) (.slice c5 n5 k5) (.slice d5 m5 l5)
  have GN:=(G5.off O (by omega)).mono (B':=w.heap.size) (by omega)
  have BN:=hb0.trans (O.below (Nat.le_refl _))
  clear hx h0 h
  go_wp2
  exact bodyPost_ret (v:=.agg #[.bool f5,.slice c5 n5 k5,.slice d5 m5 l5]) (by simp [results,Tryz.results10,go_sem,RN.c0,RN.c1,RN.c2]) rfl ⟨_,_,_,_,_,_,_,rfl,GN,BN⟩
set_option maxRecDepth 100000 in
set_option maxHeartbeats 4000000 in
theorem turnedB {F:Nat} {f:Bf} {n:Nat} {X:Nat→RoD} {lc:List (Nat × Rat)} {S Sc:Nat} (i:Int) (w:World) (h:BD w F f n X lc S Sc):Calls Tryz.prog 16 #[.pointer (some ⟨f.b,0,none⟩),.int .i64 i] w fun e w'=>e = .returned (.bool (btu X f.m i))∧w' = w:=by
 by_cases hr:0≤i∧i < (f.m:Int)
 ·obtain ⟨k,rfl⟩:=Int.eq_ofNat_of_zero_le hr.1
  have hk:k < f.m:=by omega
  obtain ⟨rg,rc,p,a,na,ca,d,nd,cd,erv,_,_,_,_,_,c5,_⟩:=h.get hk
  have x1:=(h.rw.cell 1).trans (show _ = some f.rv from rfl)
  rw [erv] at x1
  have hkI:(k:Int) < (f.m:Int):=by omega
  have hk6:(k:Int) * 6 = ((k * 6:Nat):Int):=by omega
  have hd:decide (0≤(k:Int)∧(k:Int) < (f.m:Int)) = true:=decide_eq_true hr
  have ht:btu X f.m (k:Int) = (X k).tu:=by unfold btu;rw [if_pos hr,Int.toNat_natCast]
  rw [ht]
  clear ht
  go_enter Tryz.func16,Tryz.ntmps16
  go_wp2_with fail
  refine (isRowB (k:Int) w h).mono ?_
  rintro e w1 ⟨rfl,rfl⟩
  rw [hd]
  go_wp2
  go_ret
  exact ⟨rfl,rfl⟩
 ·have hd:decide (0≤i∧i < (f.m:Int)) = false:=decide_eq_false hr
  have ht:btu X f.m i = false:=by unfold btu;rw [if_neg hr]
  rw [ht]
  go_enter Tryz.func16,Tryz.ntmps16
  go_wp2_with fail
  refine (isRowB i w h).mono ?_
  rintro e w1 ⟨rfl,rfl⟩
  rw [hd]
  go_wp2
  go_ret
  exact ⟨rfl,rfl⟩
end Go.Proofs.YtjiodidemimgmaaGreatDoor

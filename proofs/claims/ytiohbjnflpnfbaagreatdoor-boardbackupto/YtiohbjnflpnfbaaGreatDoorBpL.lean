import Derived.Test.YtiohbjnflpnfbaaGreatDoorBpK
import Derived.Test.YtiohbjnflpnfbaaGreatDoorQAll
import Derived.Test.YtiohbjnflpnfbaaGreatDoorSNAll
namespace Go.Proofs.YtiohbjnflpnfbaaGreatDoor
open Go.RowKit
theorem cs_slf {r s:Rat} (h:r = s):(0:Int) = cs r s:=by subst h;unfold cs;rw [Int.sub_self];rfl
set_option maxRecDepth 100000 in
set_option maxHeartbeats 8000000 in
theorem sameL {p q:Bool} {a b:Option Addr} {na nb ca cb:Nat} {d e0:Option Addr} {nd ne cd ce:Nat} {r s:Rat} {B B' S R:Nat} (w:World) (hr:GR w B p a na ca d nd cd r S) (hs:GR w B' q b nb cb e0 ne ce s R) (he:r = s) (hSR:S + R≤6000000) (hS1:1≤S) (hR1:1≤R) :
  Calls Tryz.prog 24 #[.agg #[.bool p,.slice a na ca,.slice d nd cd],.agg #[.bool q,.slice b nb cb,.slice e0 ne ce]] w fun e w'=>e = .returned (.bool true)∧Below w.heap.size w w':=by
 obtain ⟨P0,P1,hb0,hsz⟩:=box_rr w (.bool p) (.slice a na ca) (.slice d nd cd) (.bool q) (.slice b nb cb) (.slice e0 ne ce) 29
 replace hr:=hr.below hb0
 replace hs:=hs.below hb0
 have HE:Hid ((0:Int) = cs r s):=cs_slf he
 clear he hsz
 go_enter Tryz.func24,Tryz.ntmps24
 go_wp2_with fail
 generalize (w.alloc (.cells #[.bool p,.slice a na ca,.slice d nd cd] 29)).alloc (.cells #[.bool q,.slice b nb cb,.slice e0 ne ce] 29) = W0 at *
 obtain ⟨p0c0,p0c1,p0c2,p0c3,p0c4,p0c5⟩:=id P0
 obtain ⟨p1c0,p1c1,p1c2,p1c3,p1c4,p1c5⟩:=id P1
 go_wp2_with fail
 refine (cmpD 0 W0 hr.tr hs.tr hSR hS1 hR1 HE.out).mono ?_
 rintro e w1 ⟨rfl,h1⟩
 have hbn:=bel_tr hb0 h1
 clear p0c0 p0c1 p0c2 p0c3 p0c4 p0c5 p1c0 p1c1 p1c2 p1c3 p1c4 p1c5 P0 P1 hr hs h1 hb0
 go_wp2
 go_ret
 exact ⟨rfl,hbn⟩
set_option maxRecDepth 100000 in
set_option maxHeartbeats 8000000 in
theorem isN {p:Bool} {a:Option Addr} {na ca:Nat} {d:Option Addr} {nd cd:Nat} {r:Rat} {B S:Nat} (v:Int) (w:World) (G:GR w B p a na ca d nd cd r S) (hr:r ≠ (v:Rat)) (hv:-9223372036854775808≤v∧v < 9223372036854775808) (hS:S≤100000000):Calls Tryz.prog 9 #[.agg #[.bool p,.slice a na ca,.slice d nd cd],.int .i64 v] w fun e w'=>e = .returned (.bool false)∧Below w.heap.size w w':=by
 have BX:=box_new w #[.bool p,.slice a na ca,.slice d nd cd] 29
 have hb0:=bel_d0 w (.cells #[.bool p,.slice a na ca,.slice d nd cd] 29)
 have G0:=G.below hb0
 go_enter Tryz.func9,Tryz.ntmps9
 go_wp2_with fail
 generalize w.alloc (.cells #[.bool p,.slice a na ca,.slice d nd cd] 29) = W0 at *
 have HBX:∀ w',Below W0.heap.size W0 w'→(w'.cell? ⟨w.heap.size,0,none⟩ = some (.bool p)∧w'.cell? ⟨w.heap.size,1,none⟩ = some (.slice a na ca)∧w'.cell? ⟨w.heap.size,2,none⟩ = some (.slice d nd cd)):=fun w' h=>⟨kept_c h (BX 0 _ rfl),kept_c h (BX 1 _ rfl),kept_c h (BX 2 _ rfl)⟩
 refine wp_region_noPanic (wp_region_guardB HBX (by as_aux_lemma=>kernel_rfl) ?_)
 have hc0:Below W0.heap.size W0 W0.drew:=bel_d1 _
 generalize W0.drew = z0 at *
 refine wpAnyG.tA 0 (v:=.agg #[.bool p,.slice a na ca,.slice d nd cd]) (by decide) 4 (by as_aux_lemma=>kernel_rfl) (by rfl) ?y0 (HBX _ hc0) ?_
 case y0 =>
  rintro w' ⟨q0,q1,q2⟩
  simp only [lgA,lgZ]
  go_simp
 simp only [lgA,lgZ,Act.put,lsA,lsZ,lsS]
 refine wpAnyG.tA 1 (v:=.int .i64 v) (by decide) 4 (by as_aux_lemma=>kernel_rfl) (by rfl) ?y1 (HBX _ hc0) ?_
 case y1 =>
  rintro w' ⟨q0,q1,q2⟩
  simp only [lgA,lgZ,lgS]
  go_simp
 simp only [lgA,lgZ,lgS,Act.put,lsA,lsZ,lsS]
 refine wpAnyG.one 2 (by as_aux_lemma=>kernel_rfl) (by decide) (by rfl) (fun K hK=>?_)
 simp only [lgA,lgZ,lgS]
 go_simp
 refine (ofD v z0 hv.1 hv.2).mono ?_
 rintro e z1 ⟨f2,c2,n2,k2,d2,m2,l2,rfl,G2,hk1⟩
 have hc1:Below W0.heap.size W0 z1:=bel_tr hc0 hk1
 have G1:=G0.below hc1
 dsimp only
 refine hK _ _ (HBX _ hc1) ?_
 clear hK K
 refine wpAnyG.one 3 (by as_aux_lemma=>kernel_rfl) (by decide) (by rfl) (fun K hK=>?_)
 simp only [lgA,lgZ,lgS]
 go_simp
 refine (refSameN z1 G1 G2 hr hS (by decide)).mono ?_
 rintro e z2 ⟨rfl,hk2⟩
 have hc2:Below W0.heap.size W0 z2:=bel_tr hc1 hk2
 dsimp only
 refine hK _ _ (HBX _ hc2) ?_
 clear hK K
 refine wpAnyG.one 4 (by as_aux_lemma=>kernel_rfl) (by decide) (by rfl) (fun K hK=>?_)
 simp only [lgA,lgZ,lgS]
 go_simp
 refine hK _ _ (HBX _ hc2) ?_
 clear hK K
 refine wpAnyG.done (by as_aux_lemma=>kernel_rfl) (NoPanic.normal ?_)
 have hbn:=bel_tr hb0 hc2
 clear HBX BX G0 G1 G2 hc0 hc1 hc2 hk1 hk2
 go_wp2
 go_ret
 exact ⟨rfl,hbn⟩
set_option maxRecDepth 100000 in
set_option maxHeartbeats 8000000 in
theorem alikeB {Fa Fb:Nat} {fa fb:Bf} {n m:Nat} {X Y:Nat→RoD} {lc:List (Nat × Rat)} {S Sc T:Nat} {RA RB:Nat} (w:World) (hA:BD w Fa fa n X lc S Sc) (hB:BD w Fb fb n Y lc S Sc) (eA:fa.b = RA) (eB:fb.b = RB) (hmA:fa.m = m) (hmB:fb.m = m) (sm:SmR X Y m) (zX:∀ k,k≤m→SzR (rsum (bco X lc fun q=>(X q).r) k) T) (hS:1≤S∧S + S≤6000000) (hSc:1≤Sc) (hTT:1≤T∧T + T≤6000000∧T + (Sc + S)≤6000000) (hN:n + m≤3000000) (hT:TB w) :
  Calls Tryz.prog 17 #[.pointer (some ⟨RA,0,none⟩),.pointer (some ⟨RB,0,none⟩)] w fun e w'=>e = .returned (.bool true)∧Below w.heap.size w w':=by
 have zY:∀ k,k≤m→SzR (rsum (bco Y lc fun q=>(Y q).r) k) T:=fun k hk=>by rw [← sm.wor lc hk];exact zX k hk
 obtain ⟨NN,eNN⟩:∃ NN,NN = n + m:=⟨_,rfl⟩
 have hRowa:∀ z,Below w.heap.size w z→Calls Tryz.prog 14 #[.pointer (some ⟨RA,0,none⟩)] z fun e w'=>e = .returned (.int .i64 (m:Nat))∧w' = z:=fun z hz=>by
  have h:=rowsB z (hA.below hz)
  rw [hmA,eA] at h
  exact h
 have hCola:∀ z,Below w.heap.size w z→Calls Tryz.prog 15 #[.pointer (some ⟨RA,0,none⟩)] z fun e w'=>e = .returned (.int .i64 (NN:Nat))∧Below z.heap.size z w':=fun z hz=>by
  have h:=colsB z (hA.below hz) (by rw [hmA];exact hN)
  rw [hmA,eA,← eNN] at h
  exact h
 have hBasa:∀ z,Below w.heap.size w z→Calls Tryz.prog 8 #[.pointer (some ⟨RA,0,none⟩)] z fun e w'=>BasP z X m e w':=fun z hz=>by
  have h:=basisL z (hA.below hz) (by rw [hmA];exact hN)
  rw [hmA,eA] at h
  exact h
 have hRiga:∀ z (i:Int),Below w.heap.size w z→Calls Tryz.prog 19 #[.pointer (some ⟨RA,0,none⟩),.int .i64 i] z fun e w'=>NumP z (brt X m i) S e w':=fun z i hz=>by
  have h:=rightB i z (hA.below hz) (by omega) (hT.below hz)
  rw [hmA,eA] at h
  exact h
 have hAta:∀ z (i j:Int),Below w.heap.size w z→Calls Tryz.prog 11 #[.pointer (some ⟨RA,0,none⟩),.int .i64 i,.int .i64 j] z fun e w'=>NumP z (bat X m i j) S e w':=fun z i j hz=>by
  have h:=atBB i j z (hA.below hz) (by rw [hmA];exact hN) (by omega) (hT.below hz)
  rw [hmA,eA] at h
  exact h
 have hWora:∀ z,Below w.heap.size w z→Calls Tryz.prog 23 #[.pointer (some ⟨RA,0,none⟩)] z fun e w'=>NumP z (rsum (bco X lc fun q=>(X q).r) m) T e w':=fun z hz=>by
  have h:=worthB (T:=T) z (hA.below hz) hS.1 hSc (by omega) (fun k hk=>zX k (by rw [hmA] at hk;exact hk)) (by rw [hmA];exact hN) (hT.below hz)
  rw [hmA,eA] at h
  exact h
 have hRowb:∀ z,Below w.heap.size w z→Calls Tryz.prog 14 #[.pointer (some ⟨RB,0,none⟩)] z fun e w'=>e = .returned (.int .i64 (m:Nat))∧w' = z:=fun z hz=>by
  have h:=rowsB z (hB.below hz)
  rw [hmB,eB] at h
  exact h
 have hColb:∀ z,Below w.heap.size w z→Calls Tryz.prog 15 #[.pointer (some ⟨RB,0,none⟩)] z fun e w'=>e = .returned (.int .i64 (NN:Nat))∧Below z.heap.size z w':=fun z hz=>by
  have h:=colsB z (hB.below hz) (by rw [hmB];exact hN)
  rw [hmB,eB,← eNN] at h
  exact h
 have hBasb:∀ z,Below w.heap.size w z→Calls Tryz.prog 8 #[.pointer (some ⟨RB,0,none⟩)] z fun e w'=>BasP z Y m e w':=fun z hz=>by
  have h:=basisL z (hB.below hz) (by rw [hmB];exact hN)
  rw [hmB,eB] at h
  exact h
 have hRigb:∀ z (i:Int),Below w.heap.size w z→Calls Tryz.prog 19 #[.pointer (some ⟨RB,0,none⟩),.int .i64 i] z fun e w'=>NumP z (brt Y m i) S e w':=fun z i hz=>by
  have h:=rightB i z (hB.below hz) (by omega) (hT.below hz)
  rw [hmB,eB] at h
  exact h
 have hAtb:∀ z (i j:Int),Below w.heap.size w z→Calls Tryz.prog 11 #[.pointer (some ⟨RB,0,none⟩),.int .i64 i,.int .i64 j] z fun e w'=>NumP z (bat Y m i j) S e w':=fun z i j hz=>by
  have h:=atBB i j z (hB.below hz) (by rw [hmB];exact hN) (by omega) (hT.below hz)
  rw [hmB,eB] at h
  exact h
 have hWorb:∀ z,Below w.heap.size w z→Calls Tryz.prog 23 #[.pointer (some ⟨RB,0,none⟩)] z fun e w'=>NumP z (rsum (bco Y lc fun q=>(Y q).r) m) T e w':=fun z hz=>by
  have h:=worthB (T:=T) z (hB.below hz) hS.1 hSc (by omega) (fun k hk=>zY k (by rw [hmB] at hk;exact hk)) (by rw [hmB];exact hN) (hT.below hz)
  rw [hmB,eB] at h
  exact h
 have hNN:NN≤3000000:=by omega
 have hmN:m≤3000000:=by omega
 have HSM:Hid (SmR X Y m):=sm
 have hmm:((m:Int) == (m:Int)) = true:=by simp
 have hnn:((NN:Int) == (NN:Int)) = true:=by simp
 clear hA hB eA eB hmA hmB eNN sm zX zY hT
 go_enter Tryz.func17,Tryz.ntmps17
 go_wp2_with fail
 refine (hBasa w (Below.refl _ _)).mono ?_
 rintro e w1 ⟨ga,rfl,_,RIa,h1⟩
 go_wp2_with fail
 refine (hBasb w1 h1).mono ?_
 rintro e w2 ⟨gb,rfl,_,RIb,h2⟩
 have b2:=bel_tr h1 h2
 have KA:∀ z i,i < m→Below w2.heap.size w2 z→z.cell? ⟨ga,i,none⟩ = some (.int .i64 (X i).bas):=fun z i hi hz=>kept_c hz (kept_c h2 (RIa.cell hi))
 have KB:∀ z i,i < m→Below w2.heap.size w2 z→z.cell? ⟨gb,i,none⟩ = some (.int .i64 (Y i).bas):=fun z i hi hz=>kept_c hz (RIb.cell hi)
 clear RIa RIb h1 h2
 go_wp2_with fail
 refine (hRowa w2 b2).mono ?_
 rintro e z ⟨rfl,ez⟩;subst z
 go_wp2_with fail
 refine (hRowb _ b2).mono ?_
 rintro e z ⟨rfl,ez⟩;subst z
 go_wp2_with fail
 refine (hCola _ b2).mono ?_
 rintro e w3 ⟨rfl,h3⟩
 have b3:=bel_tr b2 h3
 go_wp2_with fail
 refine (hColb _ b3).mono ?_
 rintro e w4 ⟨rfl,h4⟩
 have b4:=bel_tr h3 h4
 clear h3 h4 b3
 go_wp2
 go_loopw [7,8] (fun so si wr=>∃ i:Nat,i≤m∧so = .bool true∧si = .int .i64 i∧Below w2.heap.size w2 wr) (fun _ x _=>m - (intOf x).toNat)
 case atStart=>exact ⟨0,Nat.zero_le _,rfl,rfl,b4⟩
 case round =>
  clear b4
  obtain ⟨i,hi,rfl,rfl,hbw⟩:=hrel
  have bw:=bel_tr b2 hbw
  by_cases hlt:i < m
  ·have hiI:(i:Int) < (m:Int):=by omega
   have hi0:¬ (i:Int) < 0:=by omega
   go_wp2_with fail
   refine (hRowa _ bw).mono ?_
   rintro e z ⟨rfl,ez⟩;subst z
   go_wp2_with fail
   refine (hRiga _ (i:Int) bw).mono ?_
   rintro e w5 ⟨p1,a1,n1,c1,d1,m1,e1,rfl,G1,h5⟩
   have b5:=bel_tr bw h5
   go_wp2_with fail
   refine (hRigb _ (i:Int) b5).mono ?_
   rintro e w6 ⟨p2,a2,n2,c2,d2,m2,e2,rfl,G2,h6⟩
   have G1':=G1.below h6
   go_wp2_with fail
   refine (sameL w6 G1' G2 (HSM.out.rt _) hS.2 hS.1 hS.1).mono ?_
   rintro e w7 ⟨rfl,h7⟩
   have hb7:=bel_tr hbw (bel_tr h5 (bel_tr h6 h7))
   clear G1 G2 G1' h5 h6 h7 b5 bw hbw
   obtain ⟨bas,ebas⟩:∃ bas,bas = (X i).bas:=⟨_,rfl⟩
   have ebas2:bas = (Y i).bas:=ebas.trans (HSM.out i hlt).2.2
   have y0:=KA w7 i hlt hb7
   have y1:=KB w7 i hlt hb7
   rw [← ebas] at y0
   rw [← ebas2] at y1
   clear ebas ebas2
   have hbb:((bas:Int) == bas) = true:=by simp
   have HB8:∀ w',Below w7.heap.size w7 w'→(w'.cell? ⟨ga,i,none⟩ = some (.int .i64 bas)∧w'.cell? ⟨gb,i,none⟩ = some (.int .i64 bas)):=fun w' h=>⟨kept_c h y0,kept_c h y1⟩
   go_wp2_with fail
   refine wp_region_noPanic (wp_region_guardB HB8 (by as_aux_lemma=>kernel_rfl) ?_)
   have hc0:Below w7.heap.size w7 w7.drew:=bel_d1 _
   generalize w7.drew = z0 at *
   refine wpAnyG.tA 0 (v:=.bool true) (by decide) 18 (by as_aux_lemma=>kernel_rfl) (by rfl) ?y0 (HB8 _ hc0) ?_
   case y0 =>
    rintro w' ⟨q0,q1⟩
    simp only [lgA,lgZ]
    go_simp
   simp only [lgA,lgZ,Act.put,lsA,lsZ,lsS]
   refine wpAnyG.tA 1 (v:=.bool true) (by decide) 18 (by as_aux_lemma=>kernel_rfl) (by rfl) ?y1 (HB8 _ hc0) ?_
   case y1 =>
    rintro w' ⟨q0,q1⟩
    simp only [lgA,lgZ,lgS]
    go_simp
   simp only [lgA,lgZ,lgS,Act.put,lsA,lsZ,lsS]
   refine wpAnyG.tA 2 (v:=.int .i64 (i:Int)) (by decide) 18 (by as_aux_lemma=>kernel_rfl) (by rfl) ?y2 (HB8 _ hc0) ?_
   case y2 =>
    rintro w' ⟨q0,q1⟩
    simp only [lgA,lgZ,lgS]
    go_simp
   simp only [lgA,lgZ,lgS,Act.put,lsA,lsZ,lsS]
   refine wpAnyG.tA 3 (v:=.slice (some ⟨ga,0,none⟩) m m) (by decide) 18 (by as_aux_lemma=>kernel_rfl) (by rfl) ?y3 (HB8 _ hc0) ?_
   case y3 =>
    rintro w' ⟨q0,q1⟩
    simp only [lgA,lgZ,lgS]
    go_simp
   simp only [lgA,lgZ,lgS,Act.put,lsA,lsZ,lsS]
   refine wpAnyG.tA 4 (v:=.int .i64 (m:Nat)) (by decide) 18 (by as_aux_lemma=>kernel_rfl) (by rfl) ?y4 (HB8 _ hc0) ?_
   case y4 =>
    rintro w' ⟨q0,q1⟩
    simp only [lgA,lgZ,lgS]
    go_simp
   simp only [lgA,lgZ,lgS,Act.put,lsA,lsZ,lsS]
   refine wpAnyG.tA 5 (v:=.bool true) (by decide) 18 (by as_aux_lemma=>kernel_rfl) (by rfl) ?y5 (HB8 _ hc0) ?_
   case y5 =>
    rintro w' ⟨q0,q1⟩
    simp only [lgA,lgZ,lgS]
    go_simp
   simp only [lgA,lgZ,lgS,Act.put,lsA,lsZ,lsS]
   refine wpAnyG.tA 6 (v:=.bool true) (by decide) 18 (by as_aux_lemma=>kernel_rfl) (by rfl) ?y6 (HB8 _ hc0) ?_
   case y6 =>
    rintro w' ⟨q0,q1⟩
    simp only [lgA,lgZ,lgS]
    go_simp
   simp only [lgA,lgZ,lgS,Act.put,lsA,lsZ,lsS]
   refine wpAnyG.tA 7 (v:=.bool true) (by decide) 18 (by as_aux_lemma=>kernel_rfl) (by rfl) ?y7 (HB8 _ hc0) ?_
   case y7 =>
    rintro w' ⟨q0,q1⟩
    simp only [lgA,lgZ,lgS]
    go_simp
   simp only [lgA,lgZ,lgS,Act.put,lsA,lsZ,lsS]
   refine wpAnyG.tA 8 (v:=.slice (some ⟨ga,0,none⟩) m m) (by decide) 18 (by as_aux_lemma=>kernel_rfl) (by rfl) ?y8 (HB8 _ hc0) ?_
   case y8 =>
    rintro w' ⟨q0,q1⟩
    simp only [lgA,lgZ,lgS]
    go_simp
   simp only [lgA,lgZ,lgS,Act.put,lsA,lsZ,lsS]
   refine wpAnyG.tA 9 (v:=.int .i64 (i:Int)) (by decide) 18 (by as_aux_lemma=>kernel_rfl) (by rfl) ?y9 (HB8 _ hc0) ?_
   case y9 =>
    rintro w' ⟨q0,q1⟩
    simp only [lgA,lgZ,lgS]
    go_simp
   simp only [lgA,lgZ,lgS,Act.put,lsA,lsZ,lsS]
   refine wpAnyG.tA 10 (v:=.pointer (some ⟨ga,i,none⟩)) (by decide) 18 (by as_aux_lemma=>kernel_rfl) (by rfl) ?y10 (HB8 _ hc0) ?_
   case y10 =>
    rintro w' ⟨q0,q1⟩
    simp only [lgA,lgZ,lgS]
    go_simp
   simp only [lgA,lgZ,lgS,Act.put,lsA,lsZ,lsS]
   refine wpAnyG.tA 11 (v:=.int .i64 bas) (by decide) 18 (by as_aux_lemma=>kernel_rfl) (by rfl) ?y11 (HB8 _ hc0) ?_
   case y11 =>
    rintro w' ⟨q0,q1⟩
    simp only [lgA,lgZ,lgS]
    go_simp
   simp only [lgA,lgZ,lgS,Act.put,lsA,lsZ,lsS]
   refine wpAnyG.tA 12 (v:=.slice (some ⟨gb,0,none⟩) m m) (by decide) 18 (by as_aux_lemma=>kernel_rfl) (by rfl) ?y12 (HB8 _ hc0) ?_
   case y12 =>
    rintro w' ⟨q0,q1⟩
    simp only [lgA,lgZ,lgS]
    go_simp
   simp only [lgA,lgZ,lgS,Act.put,lsA,lsZ,lsS]
   refine wpAnyG.tA 13 (v:=.int .i64 (i:Int)) (by decide) 18 (by as_aux_lemma=>kernel_rfl) (by rfl) ?y13 (HB8 _ hc0) ?_
   case y13 =>
    rintro w' ⟨q0,q1⟩
    simp only [lgA,lgZ,lgS]
    go_simp
   simp only [lgA,lgZ,lgS,Act.put,lsA,lsZ,lsS]
   refine wpAnyG.tA 14 (v:=.pointer (some ⟨gb,i,none⟩)) (by decide) 18 (by as_aux_lemma=>kernel_rfl) (by rfl) ?y14 (HB8 _ hc0) ?_
   case y14 =>
    rintro w' ⟨q0,q1⟩
    simp only [lgA,lgZ,lgS]
    go_simp
   simp only [lgA,lgZ,lgS,Act.put,lsA,lsZ,lsS]
   refine wpAnyG.tA 15 (v:=.int .i64 bas) (by decide) 18 (by as_aux_lemma=>kernel_rfl) (by rfl) ?y15 (HB8 _ hc0) ?_
   case y15 =>
    rintro w' ⟨q0,q1⟩
    simp only [lgA,lgZ,lgS]
    go_simp
   simp only [lgA,lgZ,lgS,Act.put,lsA,lsZ,lsS]
   refine wpAnyG.tA 16 (v:=.bool true) (by decide) 18 (by as_aux_lemma=>kernel_rfl) (by rfl) ?y16 (HB8 _ hc0) ?_
   case y16 =>
    rintro w' ⟨q0,q1⟩
    simp only [lgA,lgZ,lgS]
    go_simp
   simp only [lgA,lgZ,lgS,Act.put,lsA,lsZ,lsS]
   refine wpAnyG.tA 17 (v:=.bool true) (by decide) 18 (by as_aux_lemma=>kernel_rfl) (by rfl) ?y17 (HB8 _ hc0) ?_
   case y17 =>
    rintro w' ⟨q0,q1⟩
    simp only [lgA,lgZ,lgS]
    go_simp
   simp only [lgA,lgZ,lgS,Act.put,lsA,lsZ,lsS]
   refine wpAnyG.one 18 (by as_aux_lemma=>kernel_rfl) (by decide) (by rfl) (fun K hK=>?_)
   simp only [lgA,lgZ,lgS]
   go_simp
   refine hK _ _ (HB8 _ hc0) ?_
   clear hK K
   refine wpAnyG.done (by as_aux_lemma=>kernel_rfl) (NoPanic.normal ?_)
   have hb8:=bel_tr hb7 hc0
   clear HB8 y0 y1 hb7 hc0 hbb
   go_wp2
   go_loopw [7,10] (fun so si wr=>∃ j:Nat,j≤NN∧so = .bool true∧si = .int .i64 j∧Below w2.heap.size w2 wr) (fun _ x _=>NN - (intOf x).toNat)
   case atStart=>exact ⟨0,Nat.zero_le _,rfl,rfl,hb8⟩
   case round =>
    clear hb8
    obtain ⟨j,hj,rfl,rfl,hbw⟩:=hrel
    have bw:=bel_tr b2 hbw
    by_cases hlj:j < NN
    ·have hjI:(j:Int) < (NN:Int):=by omega
     go_wp2_with fail
     refine (hCola _ bw).mono ?_
     rintro e w8 ⟨rfl,h8⟩
     have b8:=bel_tr bw h8
     go_wp2_with fail
     refine (hAta _ (i:Int) (j:Int) b8).mono ?_
     rintro e w9 ⟨p1,a1,n1,c1,d1,m1,e1,rfl,G1,h9⟩
     have b9:=bel_tr b8 h9
     go_wp2_with fail
     refine (hAtb _ (i:Int) (j:Int) b9).mono ?_
     rintro e w10 ⟨p2,a2,n2,c2,d2,m2,e2,rfl,G2,h10⟩
     have G1':=G1.below h10
     go_wp2_with fail
     refine (sameL w10 G1' G2 (HSM.out.at _ _) hS.2 hS.1 hS.1).mono ?_
     rintro e w11 ⟨rfl,h11⟩
     have hbn:=bel_tr hbw (bel_tr h8 (bel_tr h9 (bel_tr h10 h11)))
     clear G1 G2 G1' h8 h9 h10 h11 b8 b9 bw hbw
     go_wp2
     go_roundw
     case rel=>first | exact ⟨j + 1,by omega,rfl,by go_num,hbn⟩ | ((repeat apply Exists.intro);refine ⟨?_,rfl⟩;exact ⟨j + 1,by omega,rfl,by go_num,hbn⟩)
     case measure=>simp [intOf];omega
    ·have hjI:¬ (j:Int) < (NN:Int):=by omega
     go_wp2_with fail
     refine (hCola _ bw).mono ?_
     rintro e w8 ⟨rfl,h8⟩
     have hbn:=bel_tr hbw h8
     clear h8 bw hbw
     go_wp2
     go_roundw
     case rel=>first | exact ⟨i + 1,by omega,rfl,by go_num,hbn⟩ | ((repeat apply Exists.intro);refine ⟨?_,rfl⟩;exact ⟨i + 1,by omega,rfl,by go_num,hbn⟩)
     case measure=>simp [intOf];omega
  ·have hiI:¬ (i:Int) < (m:Int):=by omega
   go_wp2_with fail
   refine (hRowa _ bw).mono ?_
   rintro e z ⟨rfl,ez⟩;subst z
   go_wp2_with fail
   refine (hWora _ bw).mono ?_
   rintro e w5 ⟨p1,a1,n1,c1,d1,m1,e1,rfl,G1,h5⟩
   have b5:=bel_tr bw h5
   go_wp2_with fail
   refine (hWorb _ b5).mono ?_
   rintro e w6 ⟨p2,a2,n2,c2,d2,m2,e2,rfl,G2,h6⟩
   have G1':=G1.below h6
   go_wp2_with fail
   refine (sameL w6 G1' G2 (HSM.out.wor lc (Nat.le_refl m)) hTT.2.1 hTT.1 hTT.1).mono ?_
   rintro e w7 ⟨rfl,h7⟩
   have hbn:=bel_tr bw (bel_tr h5 (bel_tr h6 h7))
   clear G1 G2 G1' h5 h6 h7 b5 bw hbw
   go_wp2
   go_ret
   exact ⟨rfl,hbn⟩
end Go.Proofs.YtiohbjnflpnfbaaGreatDoor

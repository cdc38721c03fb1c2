import Derived.Test.YtjiodidemimgmaaGreatDoorBoXAll
namespace Go.Proofs.YtjiodidemimgmaaGreatDoor
open Go.RowKit
def CsZ (lc:List (Nat × Rat)) (N KC:Nat):Prop:=∃ zc:Nat→Nat,(∀ c,c < N→lat lc c = 0∧zc c = 0∨1≤zc c∧SzR (lat lc c) (zc c - 1))∧totB zc N≤KC
structure Gam (w:World) (F:Nat) (f:Bf) (s:StD) (X:Nat→RoD) (b:Nat→Nat) (lc:List (Nat × Rat)) (K KC:Nat):Prop where
 bd:BD w F f s.cn X lc K KC
 m:f.m = s.bn
 p:Ply s X b
 c:CsZ lc (s.cn + s.bn) KC
structure GmZ (s:StD) (K KC:Nat):Prop where
 z:∃ z,StZ s z∧stK s z≤K
 k:1≤K∧K + K + (K + K)≤6000000
 kc:1≤KC∧K + KC + 1 + (KC + K)≤6000000
 n:s.cn + s.bn≤3000000
theorem PivZ.le {X:Nat→RoD} {m S S' i c:Nat} (h:PivZ X m S i c) (hS:S≤S'):PivZ X m S' i c:=fun h0 =>
 ⟨fun k=>((h h0).1 k).le hS,(h h0).2.1.le hS,fun q hq hqi=>⟨fun k=>(((h h0).2.2 q hq hqi).1 k).le hS,((h h0).2.2 q hq hqi).2.le hS⟩⟩
theorem Gam.piv {w:World} {F:Nat} {f:Bf} {s:StD} {X:Nat→RoD} {b:Nat→Nat} {lc:List (Nat × Rat)} {K KC:Nat} {w':World} {i j:Int} {ev0 ev1:Value} {e:Ending} (G:Gam w F f s X b lc K KC) (hP:PivP w F f s.cn X lc K KC i j ev0 ev1 e w'):∃ f' X' b',f'.b = f.b∧Gam w' F f' s X' b' lc K KC∧KF f.has f'.has w w':=by
 rcases hP with ⟨_,_,hb⟩ | ⟨_,_,_,_,hb⟩ | ⟨ht,hj,h0,_,f',X',e1,e2,e3,e4,B',K',R'⟩
 ·exact ⟨f,X,b,rfl,⟨G.bd.below hb,G.m,G.p,G.c⟩,(KF.refl _ _).bel hb⟩
 ·exact ⟨f,X,b,rfl,⟨G.bd.below hb,G.m,G.p,G.c⟩,(KF.refl _ _).bel hb⟩
 ·have hi:i.toNat < s.bn:=by
   unfold thr at ht
   simp only [Bool.and_eq_true,decide_eq_true_eq] at ht
   have:=G.m
   omega
  have hc:j.toNat < s.cn + s.bn:=by have:=G.m;omega
  rw [G.m] at R'
  exact ⟨f',X',_,e1,⟨B',e3.trans G.m,G.p.pivot R' hi hc h0,G.c⟩,K'⟩
theorem Gam.pz {w:World} {F:Nat} {f:Bf} {s:StD} {X:Nat→RoD} {b:Nat→Nat} {lc:List (Nat × Rat)} {K KC:Nat} (G:Gam w F f s X b lc K KC) (Z:GmZ s K KC):∀ a c,a < f.m→(X a).bas ≠ -1→c < s.cn + f.m→PivZ X f.m K a c:=fun a c ha _ hc=>by
 obtain ⟨z,hz,hk⟩:=Z.z
 have hkk:=G.bd.k
 rw [G.m] at ha hc hkk ⊢
 exact (G.p.pivZ hz hkk ha hc).le hk
theorem Gam.rz {w:World} {F:Nat} {f:Bf} {s:StD} {X:Nat→RoD} {b:Nat→Nat} {lc:List (Nat × Rat)} {K KC:Nat} (G:Gam w F f s X b lc K KC) (Z:GmZ s K KC):∀ a:Nat,a < s.cn + f.m→RdZ X lc f.m (K + KC + 1) (a:Int):=fun a ha=>by
 obtain ⟨z,hz,hk⟩:=Z.z
 obtain ⟨zc,h1,h2⟩:=G.c
 rw [G.m] at ha ⊢
 have h:=G.p.rdZ hz h1 ha
 exact ⟨fun k hk'=>(h.1 k hk').le (by omega),h.2.le (by omega)⟩
def DoeP (w:World) (F:Nat) (f:Bf) (s:StD) (K KC:Nat) (e:Ending) (w':World):Prop:=e = .returned (.tuple #[])∧∃ f' X' b' lc',f'.b = f.b∧Gam w' F f' s X' b' lc' K KC∧KF f.has f'.has w w'
theorem DoeP.of {w w' W0:World} {F:Nat} {f:Bf} {s:StD} {K KC:Nat} (hb:Below w.heap.size w W0) (h:∃ f' X' b' lc',f'.b = f.b∧Gam w' F f' s X' b' lc' K KC∧KF f.has f'.has W0 w'):DoeP w F f s K KC (.returned (.tuple #[])) w':=by
 obtain ⟨f',X',b',lc',h1,h2,h3⟩:=h
 exact ⟨rfl,f',X',b',lc',h1,h2,((KF.refl _ _).bel hb).trans h3⟩
set_option maxRecDepth 100000 in
set_option maxHeartbeats 8000000 in
theorem doesB {F:Nat} {f:Bf} {s:StD} {X:Nat→RoD} {b:Nat→Nat} {lc:List (Nat × Rat)} {K KC:Nat} {kd oi oj:Int} {rw:Bool} {ca:Option Addr} {cn cc:Nat} {Y:Nat→Rat} {ev0 ev1 ev2:Value} (w:World) (G:Gam w F f s X b lc K KC) (Z:GmZ s K KC) (hL:∀ C' w',KF f.has C' w w'→LQ w' ca cn Y (fun _=>KC)) (hcc:cn≤cc) (hcn:cn≤3000000) (hCs:∀ k,k≤cn→CsZ (lco Y k) (s.cn + s.bn) KC) (hT:TB w) (hTF:4 < F) (hF:F≤w.heap.size) (E0:Errs w 0 ev0) (E1:Errs w 1 ev1) (E2:Errs w 2 ev2) :
  Calls Tryz.prog 27 #[.pointer (some ⟨f.b,0,none⟩),.agg #[.int .i64 kd,.int .i64 oi,.int .i64 oj,.bool rw,.slice ca cn cc]] w fun e w'=>DoeP w F f s K KC e w':=by
 have BX:=box_new w #[.int .i64 kd,.int .i64 oi,.int .i64 oj,.bool rw,.slice ca cn cc] 59
 have hb0:=bel_d0 w (.cells #[.int .i64 kd,.int .i64 oi,.int .i64 oj,.bool rw,.slice ca cn cc] 59)
 have hNN:s.cn + f.m≤3000000:=by rw [G.m];exact Z.n
 have G0:Gam (w.alloc (.cells #[.int .i64 kd,.int .i64 oi,.int .i64 oj,.bool rw,.slice ca cn cc] 59)) F f s X b lc K KC:=⟨G.bd.below hb0,G.m,G.p,G.c⟩
 have HL:Hid (∀ C' w',KF f.has C' w w'→LQ w' ca cn Y (fun _=>KC)):=hL
 have HCS:Hid (∀ k,k≤cn→CsZ (lco Y k) (s.cn + s.bn) KC):=hCs
 clear hL hCs
 go_enter Tryz.func27,Tryz.ntmps27
 go_wp2_with fail
 generalize w.alloc (.cells #[.int .i64 kd,.int .i64 oi,.int .i64 oj,.bool rw,.slice ca cn cc] 59) = W0 at *
 have HBX:∀ w',Below W0.heap.size W0 w'→(w'.cell? ⟨w.heap.size,0,none⟩ = some (.int .i64 kd)∧w'.cell? ⟨w.heap.size,1,none⟩ = some (.int .i64 oi)∧w'.cell? ⟨w.heap.size,2,none⟩ = some (.int .i64 oj)∧w'.cell? ⟨w.heap.size,3,none⟩ = some (.bool rw)∧w'.cell? ⟨w.heap.size,4,none⟩ = some (.slice ca cn cc)):=fun w' h=>⟨kept_c h (BX 0 _ rfl),kept_c h (BX 1 _ rfl),kept_c h (BX 2 _ rfl),kept_c h (BX 3 _ rfl),kept_c h (BX 4 _ rfl)⟩
 refine wp_region_noPanic (wp_region_guardB HBX (by as_aux_lemma=>kernel_rfl) ?_)
 have hc0:Below W0.heap.size W0 W0.drew:=bel_d1 _
 generalize W0.drew = z0 at *
 refine wpAnyG.tA 0 (v:=.agg #[.int .i64 kd,.int .i64 oi,.int .i64 oj,.bool rw,.slice ca cn cc]) (by decide) 10 (by as_aux_lemma=>kernel_rfl) (by rfl) ?y0 (HBX _ hc0) ?_
 case y0 =>
  rintro w' ⟨q0,q1,q2,q3,q4⟩
  simp only [lgA,lgZ]
  go_simp
 simp only [lgA,lgZ,Act.put,lsA,lsZ,lsS]
 refine wpAnyG.tA 1 (v:=.pointer (some ⟨f.b,0,none⟩)) (by decide) 10 (by as_aux_lemma=>kernel_rfl) (by rfl) ?y1 (HBX _ hc0) ?_
 case y1 =>
  rintro w' ⟨q0,q1,q2,q3,q4⟩
  simp only [lgA,lgZ,lgS]
  go_simp
 simp only [lgA,lgZ,lgS,Act.put,lsA,lsZ,lsS]
 refine wpAnyG.tA 3 (v:=.pointer (some ⟨f.b,0,none⟩)) (by decide) 10 (by as_aux_lemma=>kernel_rfl) (by rfl) ?y3 (HBX _ hc0) ?_
 case y3 =>
  rintro w' ⟨q0,q1,q2,q3,q4⟩
  simp only [lgA,lgZ,lgS]
  go_simp
 simp only [lgA,lgZ,lgS,Act.put,lsA,lsZ,lsS]
 refine wpAnyG.one 2 (by as_aux_lemma=>kernel_rfl) (by decide) (by rfl) (fun K hK=>?_)
 simp only [lgA,lgZ,lgS]
 go_simp
 refine (rowsB z0 (G0.bd.below hc0)).mono ?_
 rintro e z1 ⟨rfl,rfl⟩
 have hc1:=hc0
 dsimp only
 refine hK _ _ (HBX _ hc1) ?_
 clear hK K
 refine wpAnyG.one 4 (by as_aux_lemma=>kernel_rfl) (by decide) (by rfl) (fun K hK=>?_)
 simp only [lgA,lgZ,lgS]
 go_simp
 refine (colsB z1 (G0.bd.below hc1) hNN).mono ?_
 rintro e z2 ⟨rfl,hk2⟩
 have hc2:Below W0.heap.size W0 z2:=bel_tr hc1 hk2
 dsimp only
 refine hK _ _ (HBX _ hc2) ?_
 clear hK K
 refine wpAnyG.one 5 (by as_aux_lemma=>kernel_rfl) (by decide) (by rfl) (fun K hK=>?_)
 simp only [lgA,lgZ,lgS]
 go_simp
 refine (placesB (f.m:Nat) ((s.cn + f.m:Nat):Int) z2).mono ?_
 rintro e z3 ⟨x,y,rfl,hk3⟩
 have hc3:Below W0.heap.size W0 z3:=bel_tr hc2 hk3
 dsimp only
 refine hK _ _ (HBX _ hc3) ?_
 clear hK K
 refine wpAnyG.tA 6 (v:=.tuple #[.int .i64 x,.int .i64 y]) (by decide) 10 (by as_aux_lemma=>kernel_rfl) (by rfl) ?y6 (HBX _ hc3) ?_
 case y6 =>
  rintro w' ⟨q0,q1,q2,q3,q4⟩
  simp only [lgA,lgZ,lgS]
  go_simp
 simp only [lgA,lgZ,lgS,Act.put,lsA,lsZ,lsS]
 refine wpAnyG.tA 7 (v:=.int .i64 x) (by decide) 10 (by as_aux_lemma=>kernel_rfl) (by rfl) ?y7 (HBX _ hc3) ?_
 case y7 =>
  rintro w' ⟨q0,q1,q2,q3,q4⟩
  simp only [lgA,lgZ,lgS]
  go_simp
 simp only [lgA,lgZ,lgS,Act.put,lsA,lsZ,lsS]
 refine wpAnyG.tA 8 (v:=.int .i64 y) (by decide) 10 (by as_aux_lemma=>kernel_rfl) (by rfl) ?y8 (HBX _ hc3) ?_
 case y8 =>
  rintro w' ⟨q0,q1,q2,q3,q4⟩
  simp only [lgA,lgZ,lgS]
  go_simp
 simp only [lgA,lgZ,lgS,Act.put,lsA,lsZ,lsS]
 refine wpAnyG.tA 9 (v:=.int .i64 x) (by decide) 10 (by as_aux_lemma=>kernel_rfl) (by rfl) ?y9 (HBX _ hc3) ?_
 case y9 =>
  rintro w' ⟨q0,q1,q2,q3,q4⟩
  simp only [lgA,lgZ,lgS]
  go_simp
 simp only [lgA,lgZ,lgS,Act.put,lsA,lsZ,lsS]
 refine wpAnyG.one 10 (by as_aux_lemma=>kernel_rfl) (by decide) (by rfl) (fun K hK=>?_)
 simp only [lgA,lgZ,lgS]
 go_simp
 refine hK _ _ (HBX _ hc3) ?_
 clear hK K
 refine wpAnyG.done (by as_aux_lemma=>kernel_rfl) (NoPanic.normal ?_)
 have hb3:=bel_tr hb0 hc3
 have G3:Gam z3 F f s X b lc K KC:=⟨G.bd.below hb3,G.m,G.p,G.c⟩
 have k0:=(HBX _ hc3).1
 have k4:=(HBX _ hc3).2.2.2.2
 have hT3:=hT.below hb3
 have hF3:F≤z3.heap.size:=by have:=hb3.size;omega
 have E03:=E0.below hb3
 have E13:=E1.below hb3
 have E23:=E2.below hb3
 have hS3:1≤K∧K + K + K≤6000000:=⟨Z.k.1,by have:=Z.k.2;omega⟩
 clear HBX BX G0 hc0 hc1 hc2 hc3 hk2 hk3
 by_cases e1:kd = 1
 ·subst e1
  go_wp2_with fail
  refine (pivotB x y z3 G3.bd (G3.pz Z) hS3 hNN hT3 hTF hF3 E03 E13 E23).mono ?_
  intro e w' hP
  obtain ⟨v,rfl⟩:∃ v,e = .returned v:=by rcases hP with ⟨_,h,_⟩ | ⟨_,_,_,h,_⟩ | ⟨_,_,_,h,_⟩ <;> exact ⟨_,h⟩
  obtain ⟨f',X',b',h1,h2,h3⟩:=G3.piv hP
  have HP:=DoeP.of hb3 ⟨f',X',b',lc,h1,h2,h3⟩
  clear hP h2 h3 k0 k4
  go_wp2
  go_end0
  exact HP
 have n1:(kd == 1) = false:=by simpa using e1
 by_cases e2:kd = 2
 ·subst e2
  go_wp2_with fail
  refine (dropB x z3 G3.bd E03).mono ?_
  intro e w' hP
  obtain ⟨v,rfl⟩:∃ v,e = .returned v:=by rcases hP with ⟨_,h,_⟩ | ⟨_,h,_⟩ <;> exact ⟨_,h⟩
  have HP:DoeP w F f s K KC (.returned (.tuple #[])) w':=by
   rcases hP with ⟨_,_,rfl⟩ | ⟨_,_,B',K'⟩
   ·exact DoeP.of hb3 ⟨f,X,b,lc,rfl,G3,KF.refl _ _⟩
   ·exact DoeP.of hb3 ⟨f,_,b,lc,rfl,⟨B',G.m,G.p.drop _,G.c⟩,K'⟩
  clear hP k0 k4
  go_wp2
  go_end0
  exact HP
 have n2:(kd == 2) = false:=by simpa using e2
 by_cases e3:kd = 3
 ·subst e3
  go_wp2_with fail
  refine (costB (Sc':=KC) z3 G3.bd (fun C' w' hk=>HL.out C' w' (((KF.refl _ _).bel hb3).trans hk)) hcc ⟨Z.kc.1,by have:=Z.kc.2;omega⟩ hNN hcn hT3 hTF hF3).mono ?_
  rintro e w' ⟨rfl,cv,B',K'⟩
  have HP:DoeP w F f s K KC (.returned (.tuple #[])) w':=DoeP.of hb3 ⟨{ f with cv:=cv },X,b,lco Y (min cn (s.cn + f.m)),rfl,⟨B',G.m,G.p,HCS.out _ (by omega)⟩,K'⟩
  clear B' K' k0 k4
  go_wp2
  go_end0
  exact HP
 have n3:(kd == 3) = false:=by simpa using e3
 by_cases e6:kd = 6
 ·subst e6
  go_wp2_with fail
  refine (colsB z3 G3.bd hNN).mono ?_
  rintro e w4 ⟨rfl,h4⟩
  have hb4:=bel_tr hb3 h4
  have G4:Gam w4 F f s X b lc K KC:=⟨G3.bd.below h4,G.m,G.p,G.c⟩
  go_wp2_with fail
  refine (enterB (T:=K + KC + 1) (s.cn + f.m) w4 G4.bd Z.k.1 Z.kc.1 ⟨by omega,Z.kc.2⟩ (G4.rz Z) hNN (hT.below hb4)).mono ?_
  rintro e w5 ⟨jj,rfl,_,h5⟩
  have hb5:=bel_tr hb4 h5
  have G5:Gam w5 F f s X b lc K KC:=⟨G4.bd.below h5,G.m,G.p,G.c⟩
  go_wp2_with fail
  refine (leaveB jj w5 G5.bd Z.k hNN (hT.below hb5)).mono ?_
  rintro e w6 ⟨rfl,h6⟩
  have hb6:=bel_tr hb5 h6
  have G6:Gam w6 F f s X b lc K KC:=⟨G5.bd.below h6,G.m,G.p,G.c⟩
  generalize (lvf X jj f.m).1 = rr
  go_wp2_with fail
  refine (pivotB rr jj w6 G6.bd (G6.pz Z) hS3 hNN (hT.below hb6) hTF (by have:=hb6.size;omega) (E0.below hb6) (E1.below hb6) (E2.below hb6)).mono ?_
  intro e w' hP
  obtain ⟨v,rfl⟩:∃ v,e = .returned v:=by rcases hP with ⟨_,h,_⟩ | ⟨_,_,_,h,_⟩ | ⟨_,_,_,h,_⟩ <;> exact ⟨_,h⟩
  obtain ⟨f',X',b',h1,h2,h3⟩:=G6.piv hP
  have HP:=DoeP.of hb6 ⟨f',X',b',lc,h1,h2,h3⟩
  clear hP h2 h3 k0 k4
  go_wp2
  go_end0
  exact HP
 have n6:(kd == 6) = false:=by simpa using e6
 by_cases e5:kd = 5
 ·subst e5
  go_wp2_with fail
  refine (leaveB y z3 G3.bd Z.k hNN hT3).mono ?_
  rintro e w6 ⟨rfl,h6⟩
  have hb6:=bel_tr hb3 h6
  have G6:Gam w6 F f s X b lc K KC:=⟨G3.bd.below h6,G.m,G.p,G.c⟩
  generalize (lvf X y f.m).1 = rr
  go_wp2_with fail
  refine (pivotB rr y w6 G6.bd (G6.pz Z) hS3 hNN (hT.below hb6) hTF (by have:=hb6.size;omega) (E0.below hb6) (E1.below hb6) (E2.below hb6)).mono ?_
  intro e w' hP
  obtain ⟨v,rfl⟩:∃ v,e = .returned v:=by rcases hP with ⟨_,h,_⟩ | ⟨_,_,_,h,_⟩ | ⟨_,_,_,h,_⟩ <;> exact ⟨_,h⟩
  obtain ⟨f',X',b',h1,h2,h3⟩:=G6.piv hP
  have HP:=DoeP.of hb6 ⟨f',X',b',lc,h1,h2,h3⟩
  clear hP h2 h3 k0 k4
  go_wp2
  go_end0
  exact HP
 have n5:(kd == 5) = false:=by simpa using e5
 have HP:DoeP w F f s K KC (.returned (.tuple #[])) z3:=DoeP.of hb3 ⟨f,X,b,lc,rfl,G3,KF.refl _ _⟩
 go_wp2
 go_end0
 exact HP
structure OpD where
 kd:Int
 oi:Int
 oj:Int
 rw:Bool
 ca:Option Addr
 cn:Nat
 cc:Nat
 Y:Nat→Rat
def OpL (w:World) (a:Option Addr) (n:Nat) (O:Nat→OpD) (KC:Nat):Prop:=n = 0∨∃ b o,a = some ⟨b,o,none⟩∧∀ i,i < n→w.cell? ⟨b,o + i * 5,none⟩ = some (.int .i64 (O i).kd)∧w.cell? ⟨b,o + i * 5 + 1,none⟩ = some (.int .i64 (O i).oi)∧w.cell? ⟨b,o + i * 5 + 2,none⟩ = some (.int .i64 (O i).oj)∧w.cell? ⟨b,o + i * 5 + 3,none⟩ = some (.bool (O i).rw)∧w.cell? ⟨b,o + i * 5 + 4,none⟩ = some (.slice (O i).ca (O i).cn (O i).cc)∧LQ w (O i).ca (O i).cn (O i).Y (fun _=>KC)
theorem OpL.below {w w':World} {a:Option Addr} {n:Nat} {O:Nat→OpD} {KC:Nat} (h:OpL w a n O KC) (hb:Below w.heap.size w w'):OpL w' a n O KC:=by
 rcases h with h | ⟨b,o,e,h⟩
 ·exact .inl h
 ·exact .inr ⟨b,o,e,fun i hi=>by
   obtain ⟨h0,h1,h2,h3,h4,h5⟩:=h i hi
   exact ⟨kept_c hb h0,kept_c hb h1,kept_c hb h2,kept_c hb h3,kept_c hb h4,h5.below hb⟩⟩
theorem BD.leC {w:World} {F:Nat} {f:Bf} {n:Nat} {X:Nat→RoD} {lc:List (Nat × Rat)} {S Sc Sc':Nat} (h:BD w F f n X lc S Sc) (hS:Sc≤Sc'):BD w F f n X lc S Sc':=⟨h.rw,h.r,h.t,h.c.le hS,h.ne,h.nc,h.lo,h.k,h.kc⟩
theorem csz_nil (N KC:Nat):CsZ [] N KC:=⟨fun _=>0,fun c _=>.inl ⟨lat_nil c,rfl⟩,by
 have e:∀ k,totB (fun _=>0) k = 0:=fun k=>by
  induction k with
  | zero=>rfl
  | succ k ih=>show totB (fun _=>0) k + 0 = 0;omega
 rw [e];exact Nat.zero_le _⟩
def PlaP (w:World) (s:StD) (K KC:Nat) (e:Ending) (w':World):Prop:=∃ F f X b lc,e = .returned (.pointer (some ⟨(f:Bf).b,0,none⟩))∧w.heap.size≤F∧F≤w'.heap.size∧Gam w' F f s X b lc K KC∧Below w.heap.size w w'
set_option maxRecDepth 100000 in
set_option maxHeartbeats 8000000 in
theorem playedB {s:StD} {K KC:Nat} {sa:Option Addr} {sn sc:Nat} {O:Nat→OpD} {ev0 ev1 ev2:Value} (w:World) (hs:StQ w s K) (Z:GmZ s K KC) (hO:OpL w sa sn O KC) (hOk:∀ i,i < sn→(O i).cn≤(O i).cc∧(O i).cn≤3000000∧∀ k,k≤(O i).cn→CsZ (lco (O i).Y k) (s.cn + s.bn) KC) (hsn:sn≤100000000) (hT:TB w) (E0:Errs w 0 ev0) (E1:Errs w 1 ev1) (E2:Errs w 2 ev2) :
  Calls Tryz.prog 5 #[.agg #[.slice s.aa s.an s.ac,.slice s.ba s.bn s.bc,.slice s.ca s.cn s.cc,.bool s.zp,.slice s.za s.zn s.zc,.slice s.zd s.zm s.ze],.slice sa sn sc] w fun e w'=>PlaP w s K KC e w':=by
 have BX:=box_new w #[.slice s.aa s.an s.ac,.slice s.ba s.bn s.bc,.slice s.ca s.cn s.cc,.bool s.zp,.slice s.za s.zn s.zc,.slice s.zd s.zm s.ze] 31
 have hb0:=bel_d0 w (.cells #[.slice s.aa s.an s.ac,.slice s.ba s.bn s.bc,.slice s.ca s.cn s.cc,.bool s.zp,.slice s.za s.zn s.zc,.slice s.zd s.zm s.ze] 31)
 have hs0:(w.alloc (.cells #[.slice s.aa s.an s.ac,.slice s.ba s.bn s.bc,.slice s.ca s.cn s.cc,.bool s.zp,.slice s.za s.zn s.zc,.slice s.zd s.zm s.ze] 31)).heap.size = w.heap.size + 1:=by simp
 have x0:=BX 0 _ rfl
 have x1:=BX 1 _ rfl
 have x2:=BX 2 _ rfl
 have x3:=BX 3 _ rfl
 have x4:=BX 4 _ rfl
 have x5:=BX 5 _ rfl
 have HOK:Hid (∀ i,i < sn→(O i).cn≤(O i).cc∧(O i).cn≤3000000∧∀ k,k≤(O i).cn→CsZ (lco (O i).Y k) (s.cn + s.bn) KC):=hOk
 clear hOk
 go_enter Tryz.func5,Tryz.ntmps5
 go_wp2_with fail
 clear x0 x1 x2 x3 x4 x5
 generalize w.alloc (.cells #[.slice s.aa s.an s.ac,.slice s.ba s.bn s.bc,.slice s.ca s.cn s.cc,.bool s.zp,.slice s.za s.zn s.zc,.slice s.zd s.zm s.ze] 31) = W0 at *
 refine (newB W0 (hs.below hb0) ⟨Z.k.1,by have:=Z.k.2;omega⟩ Z.n (hT.below hb0)).mono ?_
 rintro e w1 ⟨f0,X0,rfl,hm0,B0,hX0,hb1⟩
 have G0:Gam w1 W0.heap.size f0 s X0 (fun i=>s.cn + i) [] K KC:=⟨B0.leC Z.kc.1,hm0,Ply.first hX0,csz_nil _ _⟩
 obtain ⟨bb,ebb⟩:∃ bb,bb = f0.b:=⟨_,rfl⟩
 have HBB:Hid (f0.b = bb):=ebb.symm
 rw [← ebb]
 obtain ⟨NN,eNN⟩:∃ NN,NN = s.cn + s.bn:=⟨_,rfl⟩
 have hNNI:(s.cn:Int) + (s.bn:Int) = (NN:Int):=by omega
 have hNNw:IntKind.i64.wrap (NN:Int) = (NN:Int):=wrap_id NN (by have:=Z.n;omega)
 have HRows:∀ z,Below w1.heap.size w1 z→Calls Tryz.prog 14 #[.pointer (some ⟨bb,0,none⟩)] z fun e w'=>e = .returned (.int .i64 (s.bn:Nat))∧w' = z:=fun z hz=>by
  have h:=rowsB z (G0.bd.below hz)
  rw [hm0,← ebb] at h
  exact h
 have HCols:∀ z,Below w1.heap.size w1 z→Calls Tryz.prog 15 #[.pointer (some ⟨bb,0,none⟩)] z fun e w'=>e = .returned (.int .i64 (NN:Nat))∧Below z.heap.size z w':=fun z hz=>by
  have h:=colsB z (G0.bd.below hz) (by rw [hm0];exact Z.n)
  rw [hm0,← ebb,← eNN] at h
  exact h
 have HBX:∀ w',Below w1.heap.size w1 w'→(w'.cell? ⟨w.heap.size,1,none⟩ = some (.slice s.ba s.bn s.bc)∧w'.cell? ⟨w.heap.size,2,none⟩ = some (.slice s.ca s.cn s.cc)):=fun w' h=>⟨kept_c h (kept_c hb1 (BX 1 _ rfl)),kept_c h (kept_c hb1 (BX 2 _ rfl))⟩
 have h8:((s.bn:Int) != (s.bn:Int)) = false:=by simp
 have h20:((NN:Int) != (NN:Int)) = false:=by simp
 clear BX ebb eNN
 go_wp2_with fail
 refine wp_region_noPanic (wp_region_guardB HBX (by as_aux_lemma=>kernel_rfl) ?_)
 have hc0:Below w1.heap.size w1 w1.drew:=bel_d1 _
 generalize w1.drew = z0 at *
 refine wpAnyG.tA 0 (v:=.pointer (some ⟨bb,0,none⟩)) (by decide) 1 (by as_aux_lemma=>kernel_rfl) (by rfl) ?y0 (HBX _ hc0) ?_
 case y0 =>
  rintro w' ⟨q0,q1⟩
  simp only [lgA,lgZ]
  go_simp
 simp only [lgA,lgZ,Act.put,lsA,lsZ,lsS]
 refine wpAnyG.tA 1 (v:=.bool false) (by decide) 2 (by as_aux_lemma=>kernel_rfl) (by rfl) ?y1 (HBX _ hc0) ?_
 case y1 =>
  rintro w' ⟨q0,q1⟩
  simp only [lgA,lgZ,lgS]
  go_simp
 simp only [lgA,lgZ,lgS,Act.put,lsA,lsZ,lsS]
 refine wpAnyG.tA 2 (v:=.bool false) (by decide) 9 (by as_aux_lemma=>kernel_rfl) (by rfl) ?y2 (HBX _ hc0) ?_
 case y2 =>
  rintro w' ⟨q0,q1⟩
  simp only [lgA,lgZ,lgS]
  go_simp
 simp only [lgA,lgZ,lgS,Act.put,lsA,lsZ,lsS]
 refine wpAnyG.tA 3 (v:=.pointer (some ⟨bb,0,none⟩)) (by decide) 4 (by as_aux_lemma=>kernel_rfl) (by rfl) ?y3 (HBX _ hc0) ?_
 case y3 =>
  rintro w' ⟨q0,q1⟩
  simp only [lgA,lgZ,lgS]
  go_simp
 simp only [lgA,lgZ,lgS,Act.put,lsA,lsZ,lsS]
 refine wpAnyG.tA 5 (v:=.pointer (some ⟨w.heap.size,1,none⟩)) (by decide) 6 (by as_aux_lemma=>kernel_rfl) (by rfl) ?y5 (HBX _ hc0) ?_
 case y5 =>
  rintro w' ⟨q0,q1⟩
  simp only [lgA,lgZ,lgS]
  go_simp
 simp only [lgA,lgZ,lgS,Act.put,lsA,lsZ,lsS]
 refine wpAnyG.tA 6 (v:=.slice s.ba s.bn s.bc) (by decide) 7 (by as_aux_lemma=>kernel_rfl) (by rfl) ?y6 (HBX _ hc0) ?_
 case y6 =>
  rintro w' ⟨q0,q1⟩
  simp only [lgA,lgZ,lgS]
  go_simp
 simp only [lgA,lgZ,lgS,Act.put,lsA,lsZ,lsS]
 refine wpAnyG.tA 7 (v:=.int .i64 (s.bn:Nat)) (by decide) 8 (by as_aux_lemma=>kernel_rfl) (by rfl) ?y7 (HBX _ hc0) ?_
 case y7 =>
  rintro w' ⟨q0,q1⟩
  simp only [lgA,lgZ,lgS]
  go_simp
 simp only [lgA,lgZ,lgS,Act.put,lsA,lsZ,lsS]
 refine wpAnyG.one 4 (by as_aux_lemma=>kernel_rfl) (by decide) (by rfl) (fun K hK=>?_)
 simp only [lgA,lgZ,lgS]
 go_simp
 refine (HRows z0 hc0).mono ?_
 rintro e z1 ⟨rfl,rfl⟩
 have hc1:=hc0
 dsimp only
 refine hK _ _ (HBX _ hc1) ?_
 clear hK K
 refine wpAnyG.tA 8 (v:=.bool false) (by decide) 9 (by as_aux_lemma=>kernel_rfl) (by rfl) ?y8 (HBX _ hc1) ?_
 case y8 =>
  rintro w' ⟨q0,q1⟩
  simp only [lgA,lgZ,lgS]
  go_simp
 simp only [lgA,lgZ,lgS,Act.put,lsA,lsZ,lsS]
 refine wpAnyG.tA 9 (v:=.bool false) (by decide) 10 (by as_aux_lemma=>kernel_rfl) (by rfl) ?y9 (HBX _ hc1) ?_
 case y9 =>
  rintro w' ⟨q0,q1⟩
  simp only [lgA,lgZ,lgS]
  go_simp
 simp only [lgA,lgZ,lgS,Act.put,lsA,lsZ,lsS]
 refine wpAnyG.tA 10 (v:=.bool false) (by decide) 21 (by as_aux_lemma=>kernel_rfl) (by rfl) ?y10 (HBX _ hc1) ?_
 case y10 =>
  rintro w' ⟨q0,q1⟩
  simp only [lgA,lgZ,lgS]
  go_simp
 simp only [lgA,lgZ,lgS,Act.put,lsA,lsZ,lsS]
 refine wpAnyG.tA 11 (v:=.pointer (some ⟨bb,0,none⟩)) (by decide) 12 (by as_aux_lemma=>kernel_rfl) (by rfl) ?y11 (HBX _ hc1) ?_
 case y11 =>
  rintro w' ⟨q0,q1⟩
  simp only [lgA,lgZ,lgS]
  go_simp
 simp only [lgA,lgZ,lgS,Act.put,lsA,lsZ,lsS]
 refine wpAnyG.tA 13 (v:=.pointer (some ⟨w.heap.size,2,none⟩)) (by decide) 14 (by as_aux_lemma=>kernel_rfl) (by rfl) ?y13 (HBX _ hc1) ?_
 case y13 =>
  rintro w' ⟨q0,q1⟩
  simp only [lgA,lgZ,lgS]
  go_simp
 simp only [lgA,lgZ,lgS,Act.put,lsA,lsZ,lsS]
 refine wpAnyG.tA 14 (v:=.slice s.ca s.cn s.cc) (by decide) 15 (by as_aux_lemma=>kernel_rfl) (by rfl) ?y14 (HBX _ hc1) ?_
 case y14 =>
  rintro w' ⟨q0,q1⟩
  simp only [lgA,lgZ,lgS]
  go_simp
 simp only [lgA,lgZ,lgS,Act.put,lsA,lsZ,lsS]
 refine wpAnyG.tA 15 (v:=.int .i64 (s.cn:Nat)) (by decide) 19 (by as_aux_lemma=>kernel_rfl) (by rfl) ?y15 (HBX _ hc1) ?_
 case y15 =>
  rintro w' ⟨q0,q1⟩
  simp only [lgA,lgZ,lgS]
  go_simp
 simp only [lgA,lgZ,lgS,Act.put,lsA,lsZ,lsS]
 refine wpAnyG.tA 16 (v:=.pointer (some ⟨w.heap.size,1,none⟩)) (by decide) 17 (by as_aux_lemma=>kernel_rfl) (by rfl) ?y16 (HBX _ hc1) ?_
 case y16 =>
  rintro w' ⟨q0,q1⟩
  simp only [lgA,lgZ,lgS]
  go_simp
 simp only [lgA,lgZ,lgS,Act.put,lsA,lsZ,lsS]
 refine wpAnyG.tA 17 (v:=.slice s.ba s.bn s.bc) (by decide) 18 (by as_aux_lemma=>kernel_rfl) (by rfl) ?y17 (HBX _ hc1) ?_
 case y17 =>
  rintro w' ⟨q0,q1⟩
  simp only [lgA,lgZ,lgS]
  go_simp
 simp only [lgA,lgZ,lgS,Act.put,lsA,lsZ,lsS]
 refine wpAnyG.tA 18 (v:=.int .i64 (s.bn:Nat)) (by decide) 19 (by as_aux_lemma=>kernel_rfl) (by rfl) ?y18 (HBX _ hc1) ?_
 case y18 =>
  rintro w' ⟨q0,q1⟩
  simp only [lgA,lgZ,lgS]
  go_simp
 simp only [lgA,lgZ,lgS,Act.put,lsA,lsZ,lsS]
 refine wpAnyG.tA 19 (v:=.int .i64 (NN:Nat)) (by decide) 20 (by as_aux_lemma=>kernel_rfl) (by rfl) ?y19 (HBX _ hc1) ?_
 case y19 =>
  rintro w' ⟨q0,q1⟩
  simp only [lgA,lgZ,lgS]
  go_simp
 simp only [lgA,lgZ,lgS,Act.put,lsA,lsZ,lsS]
 refine wpAnyG.one 12 (by as_aux_lemma=>kernel_rfl) (by decide) (by rfl) (fun K hK=>?_)
 simp only [lgA,lgZ,lgS]
 go_simp
 refine (HCols z1 hc1).mono ?_
 rintro e z2 ⟨rfl,hk2⟩
 have hc2:Below w1.heap.size w1 z2:=bel_tr hc1 hk2
 dsimp only
 refine hK _ _ (HBX _ hc2) ?_
 clear hK K
 refine wpAnyG.tA 20 (v:=.bool false) (by decide) 21 (by as_aux_lemma=>kernel_rfl) (by rfl) ?y20 (HBX _ hc2) ?_
 case y20 =>
  rintro w' ⟨q0,q1⟩
  simp only [lgA,lgZ,lgS]
  go_simp
 simp only [lgA,lgZ,lgS,Act.put,lsA,lsZ,lsS]
 refine wpAnyG.one 21 (by as_aux_lemma=>kernel_rfl) (by decide) (by rfl) (fun K hK=>?_)
 simp only [lgA,lgZ,lgS]
 go_simp
 refine hK _ _ (HBX _ hc2) ?_
 clear hK K
 refine wpAnyG.done (by as_aux_lemma=>kernel_rfl) (NoPanic.normal ?_)
 have G1:Gam z2 W0.heap.size f0 s X0 (fun i=>s.cn + i) [] K KC:=⟨G0.bd.below hc2,hm0,G0.p,G0.c⟩
 have hbz:=bel_tr hb1 hc2
 clear HBX HRows HCols G0 B0 hc0 hc1 hc2 hk2 hb1 h8 h20
 go_wp2
 go_loopw [6] (fun sq wr=>∃ (i:Nat) (f:Bf) (X:Nat→RoD) (b:Nat→Nat) (lc:List (Nat × Rat)),i≤sn∧sq = .int .i64 i∧Hid (f.b = bb)∧Gam wr W0.heap.size f s X b lc K KC∧Below W0.heap.size W0 wr) (fun x _=>sn - (intOf x).toNat)
 case atStart=>exact ⟨0,f0,X0,_,[],Nat.zero_le _,rfl,HBB,G1,hbz⟩
 case round =>
  clear G1 hbz
  obtain ⟨i,f,X,b,lc,hi,rfl,HFB,G,hbw⟩:=hrel
  by_cases hlt:i < sn
  ·have hiI:(i:Int) < (sn:Int):=by omega
   have hi0:¬ (i:Int) < 0:=by omega
   have hi5:(i:Int) * 5 = ((i * 5:Nat):Int):=by omega
   rcases (hO.below hb0).below hbw with h0 | ⟨ob,oo,esa,hel⟩
   ·omega
   obtain ⟨c0,c1,c2,c3,c4,_⟩:=hel i hlt
   subst esa
   obtain ⟨o1,o2,o3⟩:=HOK.out i hlt
   have hnf:=G.bd.noU
   have hlf:=G.bd.lt
   have hsW:=hbw.size
   have hL:∀ C' w',KF f.has C' wr w'→LQ w' (O i).ca (O i).cn (O i).Y (fun _=>KC):=fun C' w' hk=>by
    have hb':Below W0.heap.size W0 w':=hbw.trans (hk.below (fun k hk=>(hlf k hk).1) hsW)
    rcases (hO.below hb0).below hb' with h0 | ⟨ob',oo',_,hel'⟩
    ·omega
    ·exact (hel' i hlt).2.2.2.2.2
   have hT0:=(hT.below hb0).below hbw
   have hTF:4 < W0.heap.size:=(hT.below hb0).2
   have hcall:=doesB (kd:=(O i).kd) (oi:=(O i).oi) (oj:=(O i).oj) (rw:=(O i).rw) wr G Z hL o1 o2 o3 hT0 hTF hsW ((E0.below hb0).below hbw) ((E1.below hb0).below hbw) ((E2.below hb0).below hbw)
   rw [HFB.out] at hcall
   clear hel hL hT0 o3
   go_wp2_with fail
   clear c0 c1 c2 c3 c4
   refine hcall.mono ?_
   rintro e w' ⟨rfl,f',X',b',lc',h1,G',K'⟩
   have hb':Below W0.heap.size W0 w':=hbw.trans (K'.below (fun k hk=>(hlf k hk).1) hsW)
   have HFB':Hid (f'.b = bb):=h1.trans HFB.out
   clear K' hcall hnf hlf G
   go_wp2
   go_roundw
   case rel=>first | exact ⟨i + 1,f',X',b',lc',by omega,by go_num,HFB',G',hb'⟩ | ((repeat apply Exists.intro);refine ⟨?_,rfl⟩;exact ⟨i + 1,f',X',b',lc',by omega,by go_num,HFB',G',hb'⟩)
   case measure=>simp [intOf];omega
  ·have hiI:¬ (i:Int) < (sn:Int):=by omega
   have HP:PlaP w s K KC (.returned (.pointer (some ⟨bb,0,none⟩))) wr:=⟨W0.heap.size,f,X,b,lc,by rw [HFB.out],by omega,hbw.size,G,bel_tr hb0 hbw⟩
   clear G hbw
   go_wp2
   go_ret
   exact HP
end Go.Proofs.YtjiodidemimgmaaGreatDoor

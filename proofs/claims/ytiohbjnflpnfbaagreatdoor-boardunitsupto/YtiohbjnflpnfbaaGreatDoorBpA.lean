import Derived.Test.YtiohbjnflpnfbaaGreatDoorBoZ
namespace Go.Proofs.YtiohbjnflpnfbaaGreatDoor
open Go.RowKit
def CsZ (lc:List (Nat × Rat)) (N KC:Nat):Prop:=∃ zc:Nat→Nat,(∀ c,c < N→lat lc c = 0∧zc c = 0∨1≤zc c∧SzR (lat lc c) (zc c - 1))∧totB zc N≤KC
structure Gam (w:World) (F:Nat) (f:Bf) (s:StD) (X:Nat→RoD) (b:Nat→Nat) (lc:List (Nat × Rat)) (K KC:Nat):Prop where
 bd:BD w F f s.cn X lc K KC
 m:f.m = s.bn
 p:Ply s X b
 c:CsZ lc (s.cn + s.bn) KC
structure GmZ (s:StD) (K KC:Nat):Prop where
 z:∃ z,StZ s z∧stK s z≤K
 k:1≤K∧K + K + (K + K)≤6000000
 kc:1≤KC∧K + KC + 1 + (KC + K)≤6000000
 n:s.cn + s.bn≤3000000
theorem PivZ.le {X:Nat→RoD} {m S S' i c:Nat} (h:PivZ X m S i c) (hS:S≤S'):PivZ X m S' i c:=fun h0 =>
 ⟨fun k=>((h h0).1 k).le hS,(h h0).2.1.le hS,fun q hq hqi=>⟨fun k=>(((h h0).2.2 q hq hqi).1 k).le hS,((h h0).2.2 q hq hqi).2.le hS⟩⟩
theorem Gam.piv {w:World} {F:Nat} {f:Bf} {s:StD} {X:Nat→RoD} {b:Nat→Nat} {lc:List (Nat × Rat)} {K KC:Nat} {w':World} {i j:Int} {ev0 ev1:Value} {e:Ending} (G:Gam w F f s X b lc K KC) (hP:PivP w F f s.cn X lc K KC i j ev0 ev1 e w'):∃ f' X' b',f'.b = f.b∧Gam w' F f' s X' b' lc K KC∧KF f.has f'.has w w':=by
 rcases hP with ⟨_,_,hb⟩ | ⟨_,_,_,_,hb⟩ | ⟨ht,hj,h0,_,f',X',e1,e2,e3,e4,B',K',R'⟩
 ·exact ⟨f,X,b,rfl,⟨G.bd.below hb,G.m,G.p,G.c⟩,(KF.refl _ _).bel hb⟩
 ·exact ⟨f,X,b,rfl,⟨G.bd.below hb,G.m,G.p,G.c⟩,(KF.refl _ _).bel hb⟩
 ·have hi:i.toNat < s.bn:=by
   unfold thr at ht
   simp only [Bool.and_eq_true,decide_eq_true_eq] at ht
   have:=G.m
   omega
  have hc:j.toNat < s.cn + s.bn:=by have:=G.m;omega
  rw [G.m] at R'
  exact ⟨f',X',_,e1,⟨B',e3.trans G.m,G.p.pivot R' hi hc h0,G.c⟩,K'⟩
theorem Gam.pz {w:World} {F:Nat} {f:Bf} {s:StD} {X:Nat→RoD} {b:Nat→Nat} {lc:List (Nat × Rat)} {K KC:Nat} (G:Gam w F f s X b lc K KC) (Z:GmZ s K KC):∀ a c,a < f.m→(X a).bas ≠ -1→c < s.cn + f.m→PivZ X f.m K a c:=fun a c ha _ hc=>by
 obtain ⟨z,hz,hk⟩:=Z.z
 have hkk:=G.bd.k
 rw [G.m] at ha hc hkk ⊢
 exact (G.p.pivZ hz hkk ha hc).le hk
theorem Gam.rz {w:World} {F:Nat} {f:Bf} {s:StD} {X:Nat→RoD} {b:Nat→Nat} {lc:List (Nat × Rat)} {K KC:Nat} (G:Gam w F f s X b lc K KC) (Z:GmZ s K KC):∀ a:Nat,a < s.cn + f.m→RdZ X lc f.m (K + KC + 1) (a:Int):=fun a ha=>by
 obtain ⟨z,hz,hk⟩:=Z.z
 obtain ⟨zc,h1,h2⟩:=G.c
 rw [G.m] at ha ⊢
 have h:=G.p.rdZ hz h1 ha
 exact ⟨fun k hk'=>(h.1 k hk').le (by omega),h.2.le (by omega)⟩
def DoeP (w:World) (F:Nat) (f:Bf) (s:StD) (K KC:Nat) (e:Ending) (w':World):Prop:=e = .returned (.tuple #[])∧∃ f' X' b' lc',f'.b = f.b∧Gam w' F f' s X' b' lc' K KC∧KF f.has f'.has w w'
theorem DoeP.of {w w' W0:World} {F:Nat} {f:Bf} {s:StD} {K KC:Nat} (hb:Below w.heap.size w W0) (h:∃ f' X' b' lc',f'.b = f.b∧Gam w' F f' s X' b' lc' K KC∧KF f.has f'.has W0 w'):DoeP w F f s K KC (.returned (.tuple #[])) w':=by
 obtain ⟨f',X',b',lc',h1,h2,h3⟩:=h
 exact ⟨rfl,f',X',b',lc',h1,h2,((KF.refl _ _).bel hb).trans h3⟩
set_option maxRecDepth 100000 in
set_option maxHeartbeats 8000000 in
theorem doesB {F:Nat} {f:Bf} {s:StD} {X:Nat→RoD} {b:Nat→Nat} {lc:List (Nat × Rat)} {K KC:Nat} {kd oi oj:Int} {rw:Bool} {ca:Option Addr} {cn cc:Nat} {Y:Nat→Rat} {ev0 ev1 ev2:Value} (w:World) (G:Gam w F f s X b lc K KC) (Z:GmZ s K KC) (hL:∀ C' w',KF f.has C' w w'→LQ w' ca cn Y (fun _=>KC)) (hcc:cn≤cc) (hcn:cn≤3000000) (hCs:∀ k,k≤cn→CsZ (lco Y k) (s.cn + s.bn) KC) (hT:TB w) (hTF:4 < F) (hF:F≤w.heap.size) (E0:Errs w 0 ev0) (E1:Errs w 1 ev1) (E2:Errs w 2 ev2) :
  Calls Tryz.prog 33 #[.pointer (some ⟨f.b,0,none⟩),.agg #[.int .i64 kd,.int .i64 oi,.int .i64 oj,.bool rw,.slice ca cn cc]] w fun e w'=>DoeP w F f s K KC e w':=by
 have BX:=box_new w #[.int .i64 kd,.int .i64 oi,.int .i64 oj,.bool rw,.slice ca cn cc] 46
 have hb0:=bel_d0 w (.cells #[.int .i64 kd,.int .i64 oi,.int .i64 oj,.bool rw,.slice ca cn cc] 46)
 have hNN:s.cn + f.m≤3000000:=by rw [G.m];exact Z.n
 have G0:Gam (w.alloc (.cells #[.int .i64 kd,.int .i64 oi,.int .i64 oj,.bool rw,.slice ca cn cc] 46)) F f s X b lc K KC:=⟨G.bd.below hb0,G.m,G.p,G.c⟩
 have HL:Hid (∀ C' w',KF f.has C' w w'→LQ w' ca cn Y (fun _=>KC)):=hL
 have HCS:Hid (∀ k,k≤cn→CsZ (lco Y k) (s.cn + s.bn) KC):=hCs
 clear hL hCs
 go_enter Tryz.func33,Tryz.ntmps33
 go_wp2_with fail
 generalize w.alloc (.cells #[.int .i64 kd,.int .i64 oi,.int .i64 oj,.bool rw,.slice ca cn cc] 46) = W0 at *
 have HBX:∀ w',Below W0.heap.size W0 w'→(w'.cell? ⟨w.heap.size,0,none⟩ = some (.int .i64 kd)∧w'.cell? ⟨w.heap.size,1,none⟩ = some (.int .i64 oi)∧w'.cell? ⟨w.heap.size,2,none⟩ = some (.int .i64 oj)∧w'.cell? ⟨w.heap.size,3,none⟩ = some (.bool rw)∧w'.cell? ⟨w.heap.size,4,none⟩ = some (.slice ca cn cc)):=fun w' h=>⟨kept_c h (BX 0 _ rfl),kept_c h (BX 1 _ rfl),kept_c h (BX 2 _ rfl),kept_c h (BX 3 _ rfl),kept_c h (BX 4 _ rfl)⟩
 refine wp_region_noPanic (wp_region_guardB HBX (by as_aux_lemma=>kernel_rfl) ?_)
 have hc0:Below W0.heap.size W0 W0.drew:=bel_d1 _
 generalize W0.drew = z0 at *
 refine wpAnyG.tA 0 (v:=.agg #[.int .i64 kd,.int .i64 oi,.int .i64 oj,.bool rw,.slice ca cn cc]) (by decide) 10 (by as_aux_lemma=>kernel_rfl) (by rfl) ?y0 (HBX _ hc0) ?_
 case y0 =>
  rintro w' ⟨q0,q1,q2,q3,q4⟩
  simp only [lgA,lgZ]
  go_simp
 simp only [lgA,lgZ,Act.put,lsA,lsZ,lsS]
 refine wpAnyG.tA 1 (v:=.pointer (some ⟨f.b,0,none⟩)) (by decide) 10 (by as_aux_lemma=>kernel_rfl) (by rfl) ?y1 (HBX _ hc0) ?_
 case y1 =>
  rintro w' ⟨q0,q1,q2,q3,q4⟩
  simp only [lgA,lgZ,lgS]
  go_simp
 simp only [lgA,lgZ,lgS,Act.put,lsA,lsZ,lsS]
 refine wpAnyG.tA 3 (v:=.pointer (some ⟨f.b,0,none⟩)) (by decide) 10 (by as_aux_lemma=>kernel_rfl) (by rfl) ?y3 (HBX _ hc0) ?_
 case y3 =>
  rintro w' ⟨q0,q1,q2,q3,q4⟩
  simp only [lgA,lgZ,lgS]
  go_simp
 simp only [lgA,lgZ,lgS,Act.put,lsA,lsZ,lsS]
 refine wpAnyG.one 2 (by as_aux_lemma=>kernel_rfl) (by decide) (by rfl) (fun K hK=>?_)
 simp only [lgA,lgZ,lgS]
 go_simp
 refine (rowsB z0 (G0.bd.below hc0)).mono ?_
 rintro e z1 ⟨rfl,rfl⟩
 have hc1:=hc0
 dsimp only
 refine hK _ _ (HBX _ hc1) ?_
 clear hK K
 refine wpAnyG.one 4 (by as_aux_lemma=>kernel_rfl) (by decide) (by rfl) (fun K hK=>?_)
 simp only [lgA,lgZ,lgS]
 go_simp
 refine (colsB z1 (G0.bd.below hc1) hNN).mono ?_
 rintro e z2 ⟨rfl,hk2⟩
 have hc2:Below W0.heap.size W0 z2:=bel_tr hc1 hk2
 dsimp only
 refine hK _ _ (HBX _ hc2) ?_
 clear hK K
 refine wpAnyG.one 5 (by as_aux_lemma=>kernel_rfl) (by decide) (by rfl) (fun K hK=>?_)
 simp only [lgA,lgZ,lgS]
 go_simp
 refine (placesB (f.m:Nat) ((s.cn + f.m:Nat):Int) z2).mono ?_
 rintro e z3 ⟨x,y,rfl,hk3⟩
 have hc3:Below W0.heap.size W0 z3:=bel_tr hc2 hk3
 dsimp only
 refine hK _ _ (HBX _ hc3) ?_
 clear hK K
 refine wpAnyG.tA 6 (v:=.tuple #[.int .i64 x,.int .i64 y]) (by decide) 10 (by as_aux_lemma=>kernel_rfl) (by rfl) ?y6 (HBX _ hc3) ?_
 case y6 =>
  rintro w' ⟨q0,q1,q2,q3,q4⟩
  simp only [lgA,lgZ,lgS]
  go_simp
 simp only [lgA,lgZ,lgS,Act.put,lsA,lsZ,lsS]
 refine wpAnyG.tA 7 (v:=.int .i64 x) (by decide) 10 (by as_aux_lemma=>kernel_rfl) (by rfl) ?y7 (HBX _ hc3) ?_
 case y7 =>
  rintro w' ⟨q0,q1,q2,q3,q4⟩
  simp only [lgA,lgZ,lgS]
  go_simp
 simp only [lgA,lgZ,lgS,Act.put,lsA,lsZ,lsS]
 refine wpAnyG.tA 8 (v:=.int .i64 y) (by decide) 10 (by as_aux_lemma=>kernel_rfl) (by rfl) ?y8 (HBX _ hc3) ?_
 case y8 =>
  rintro w' ⟨q0,q1,q2,q3,q4⟩
  simp only [lgA,lgZ,lgS]
  go_simp
 simp only [lgA,lgZ,lgS,Act.put,lsA,lsZ,lsS]
 refine wpAnyG.tA 9 (v:=.int .i64 x) (by decide) 10 (by as_aux_lemma=>kernel_rfl) (by rfl) ?y9 (HBX _ hc3) ?_
 case y9 =>
  rintro w' ⟨q0,q1,q2,q3,q4⟩
  simp only [lgA,lgZ,lgS]
  go_simp
 simp only [lgA,lgZ,lgS,Act.put,lsA,lsZ,lsS]
 refine wpAnyG.one 10 (by as_aux_lemma=>kernel_rfl) (by decide) (by rfl) (fun K hK=>?_)
 simp only [lgA,lgZ,lgS]
 go_simp
 refine hK _ _ (HBX _ hc3) ?_
 clear hK K
 refine wpAnyG.done (by as_aux_lemma=>kernel_rfl) (NoPanic.normal ?_)
 have hb3:=bel_tr hb0 hc3
 have G3:Gam z3 F f s X b lc K KC:=⟨G.bd.below hb3,G.m,G.p,G.c⟩
 have k0:=(HBX _ hc3).1
 have k4:=(HBX _ hc3).2.2.2.2
 have hT3:=hT.below hb3
 have hF3:F≤z3.heap.size:=by have:=hb3.size;omega
 have E03:=E0.below hb3
 have E13:=E1.below hb3
 have E23:=E2.below hb3
 have hS3:1≤K∧K + K + K≤6000000:=⟨Z.k.1,by have:=Z.k.2;omega⟩
 clear HBX BX G0 hc0 hc1 hc2 hc3 hk2 hk3
 by_cases e1:kd = 1
 ·subst e1
  go_wp2_with fail
  refine (pivotB x y z3 G3.bd (G3.pz Z) hS3 hNN hT3 hTF hF3 E03 E13 E23).mono ?_
  intro e w' hP
  obtain ⟨v,rfl⟩:∃ v,e = .returned v:=by rcases hP with ⟨_,h,_⟩ | ⟨_,_,_,h,_⟩ | ⟨_,_,_,h,_⟩ <;> exact ⟨_,h⟩
  obtain ⟨f',X',b',h1,h2,h3⟩:=G3.piv hP
  have HP:=DoeP.of hb3 ⟨f',X',b',lc,h1,h2,h3⟩
  clear hP h2 h3 k0 k4
  go_wp2
  go_end0
  exact HP
 have n1:(kd == 1) = false:=by simpa using e1
 by_cases e2:kd = 2
 ·subst e2
  go_wp2_with fail
  refine (dropB x z3 G3.bd E03).mono ?_
  intro e w' hP
  obtain ⟨v,rfl⟩:∃ v,e = .returned v:=by rcases hP with ⟨_,h,_⟩ | ⟨_,h,_⟩ <;> exact ⟨_,h⟩
  have HP:DoeP w F f s K KC (.returned (.tuple #[])) w':=by
   rcases hP with ⟨_,_,rfl⟩ | ⟨_,_,B',K'⟩
   ·exact DoeP.of hb3 ⟨f,X,b,lc,rfl,G3,KF.refl _ _⟩
   ·exact DoeP.of hb3 ⟨f,_,b,lc,rfl,⟨B',G.m,G.p.drop _,G.c⟩,K'⟩
  clear hP k0 k4
  go_wp2
  go_end0
  exact HP
 have n2:(kd == 2) = false:=by simpa using e2
 by_cases e3:kd = 3
 ·subst e3
  go_wp2_with fail
  refine (costB (Sc':=KC) z3 G3.bd (fun C' w' hk=>HL.out C' w' (((KF.refl _ _).bel hb3).trans hk)) hcc ⟨Z.kc.1,by have:=Z.kc.2;omega⟩ hNN hcn hT3 hTF hF3).mono ?_
  rintro e w' ⟨rfl,cv,B',K'⟩
  have HP:DoeP w F f s K KC (.returned (.tuple #[])) w':=DoeP.of hb3 ⟨{ f with cv:=cv },X,b,lco Y (min cn (s.cn + f.m)),rfl,⟨B',G.m,G.p,HCS.out _ (by omega)⟩,K'⟩
  clear B' K' k0 k4
  go_wp2
  go_end0
  exact HP
 have n3:(kd == 3) = false:=by simpa using e3
 by_cases e6:kd = 6
 ·subst e6
  go_wp2_with fail
  refine (colsB z3 G3.bd hNN).mono ?_
  rintro e w4 ⟨rfl,h4⟩
  have hb4:=bel_tr hb3 h4
  have G4:Gam w4 F f s X b lc K KC:=⟨G3.bd.below h4,G.m,G.p,G.c⟩
  go_wp2_with fail
  refine (enterB (T:=K + KC + 1) (s.cn + f.m) w4 G4.bd Z.k.1 Z.kc.1 ⟨by omega,Z.kc.2⟩ (G4.rz Z) hNN (hT.below hb4)).mono ?_
  rintro e w5 ⟨jj,rfl,_,h5⟩
  have hb5:=bel_tr hb4 h5
  have G5:Gam w5 F f s X b lc K KC:=⟨G4.bd.below h5,G.m,G.p,G.c⟩
  go_wp2_with fail
  refine (leaveB jj w5 G5.bd Z.k hNN (hT.below hb5)).mono ?_
  rintro e w6 ⟨rfl,h6⟩
  have hb6:=bel_tr hb5 h6
  have G6:Gam w6 F f s X b lc K KC:=⟨G5.bd.below h6,G.m,G.p,G.c⟩
  generalize (lvf X jj f.m).1 = rr
  go_wp2_with fail
  refine (pivotB rr jj w6 G6.bd (G6.pz Z) hS3 hNN (hT.below hb6) hTF (by have:=hb6.size;omega) (E0.below hb6) (E1.below hb6) (E2.below hb6)).mono ?_
  intro e w' hP
  obtain ⟨v,rfl⟩:∃ v,e = .returned v:=by rcases hP with ⟨_,h,_⟩ | ⟨_,_,_,h,_⟩ | ⟨_,_,_,h,_⟩ <;> exact ⟨_,h⟩
  obtain ⟨f',X',b',h1,h2,h3⟩:=G6.piv hP
  have HP:=DoeP.of hb6 ⟨f',X',b',lc,h1,h2,h3⟩
  clear hP h2 h3 k0 k4
  go_wp2
  go_end0
  exact HP
 have n6:(kd == 6) = false:=by simpa using e6
 by_cases e5:kd = 5
 ·subst e5
  go_wp2_with fail
  refine (leaveB y z3 G3.bd Z.k hNN hT3).mono ?_
  rintro e w6 ⟨rfl,h6⟩
  have hb6:=bel_tr hb3 h6
  have G6:Gam w6 F f s X b lc K KC:=⟨G3.bd.below h6,G.m,G.p,G.c⟩
  generalize (lvf X y f.m).1 = rr
  go_wp2_with fail
  refine (pivotB rr y w6 G6.bd (G6.pz Z) hS3 hNN (hT.below hb6) hTF (by have:=hb6.size;omega) (E0.below hb6) (E1.below hb6) (E2.below hb6)).mono ?_
  intro e w' hP
  obtain ⟨v,rfl⟩:∃ v,e = .returned v:=by rcases hP with ⟨_,h,_⟩ | ⟨_,_,_,h,_⟩ | ⟨_,_,_,h,_⟩ <;> exact ⟨_,h⟩
  obtain ⟨f',X',b',h1,h2,h3⟩:=G6.piv hP
  have HP:=DoeP.of hb6 ⟨f',X',b',lc,h1,h2,h3⟩
  clear hP h2 h3 k0 k4
  go_wp2
  go_end0
  exact HP
 have n5:(kd == 5) = false:=by simpa using e5
 have HP:DoeP w F f s K KC (.returned (.tuple #[])) z3:=DoeP.of hb3 ⟨f,X,b,lc,rfl,G3,KF.refl _ _⟩
 go_wp2
 go_end0
 exact HP
end Go.Proofs.YtiohbjnflpnfbaaGreatDoor

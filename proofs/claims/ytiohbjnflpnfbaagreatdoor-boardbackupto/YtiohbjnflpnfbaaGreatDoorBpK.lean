import Derived.Test.YtiohbjnflpnfbaaGreatDoorBpFAll
namespace Go.Proofs.YtiohbjnflpnfbaaGreatDoor
open Go.RowKit
def CoRP (w:World) (l:List (Nat × Rat)) (S:Nat) (p:Bool) (a:Option Addr) (na ca:Nat) (d:Option Addr) (nd cd:Nat) (bas:Int) (tu:Bool) (e:Ending) (w':World):Prop:=∃ g,e = .returned (.agg #[.slice (some ⟨g,0,none⟩) l.length l.length,.bool p,.slice a na ca,.slice d nd cd,.int .i64 bas,.bool tu])∧LnE w' w.heap.size (.slice (some ⟨g,0,none⟩) l.length l.length) l S∧Below w.heap.size w w'
set_option maxRecDepth 100000 in
set_option maxHeartbeats 8000000 in
theorem copRB {B S:Nat} {va:Option Addr} {vn vc:Nat} {l:List (Nat × Rat)} {p:Bool} {a:Option Addr} {na ca:Nat} {d:Option Addr} {nd cd:Nat} {bas:Int} {tu:Bool} (w:World) (hL:LnE w B (.slice va vn vc) l S) (hn:l.length≤100000000):Calls Tryz.prog 43 #[.agg #[.slice va vn vc,.bool p,.slice a na ca,.slice d nd cd,.int .i64 bas,.bool tu]] w fun e w'=>CoRP w l S p a na ca d nd cd bas tu e w':=by
 have R0:=Rw.new 74 w #[.slice va vn vc,.bool p,.slice a na ca,.slice d nd cd,.int .i64 bas,.bool tu]
 have hb0:=bel_d0 w (.cells #[.slice va vn vc,.bool p,.slice a na ca,.slice d nd cd,.int .i64 bas,.bool tu] 74)
 have hs0:(w.alloc (.cells #[.slice va vn vc,.bool p,.slice a na ca,.slice d nd cd,.int .i64 bas,.bool tu] 74)).heap.size = w.heap.size + 1:=by simp
 have RZ:=Rw.new 74 (w.alloc (.cells #[.slice va vn vc,.bool p,.slice a na ca,.slice d nd cd,.int .i64 bas,.bool tu] 74)) #[.slice none 0 0,.bool false,.slice none 0 0,.slice none 0 0,.int .i64 0,.bool false]
 rw [hs0] at RZ
 have hb1:=bel_d0 (w.alloc (.cells #[.slice va vn vc,.bool p,.slice a na ca,.slice d nd cd,.int .i64 bas,.bool tu] 74)) (.cells #[.slice none 0 0,.bool false,.slice none 0 0,.slice none 0 0,.int .i64 0,.bool false] 74)
 have hs1:((w.alloc (.cells #[.slice va vn vc,.bool p,.slice a na ca,.slice d nd cd,.int .i64 bas,.bool tu] 74)).alloc (.cells #[.slice none 0 0,.bool false,.slice none 0 0,.slice none 0 0,.int .i64 0,.bool false] 74)).heap.size = w.heap.size + 2:=by simp
 have R1:=R0.below hb1
 have hb:=bel_tr hb0 hb1
 have x0:=(R1.cell 0).trans (show _ = some (.slice va vn vc) from rfl)
 obtain ⟨m,em⟩:∃ m,m = l.length:=⟨_,rfl⟩
 have HM:Hid (m = l.length):=em
 clear R0 hb0 hb1 hs0 em
 go_enter Tryz.func43,Tryz.ntmps43
 go_wp2_with fail
 clear x0
 generalize (w.alloc (.cells #[.slice va vn vc,.bool p,.slice a na ca,.slice d nd cd,.int .i64 bas,.bool tu] 74)).alloc (.cells #[.slice none 0 0,.bool false,.slice none 0 0,.slice none 0 0,.int .i64 0,.bool false] 74) = W0 at *
 refine (copLB W0 (hL.below hb) hn).mono ?_
 rintro e w1 ⟨g,rfl,L1,h1⟩
 rw [← HM.out] at L1 ⊢
 have RA:=R1.below h1
 have RB:=RZ.below h1
 obtain ⟨RA2,O1⟩:=RA.setK 0 (.slice (some ⟨g,0,none⟩) m m)
 have RB2:=RB.off O1 (by omega)
 obtain ⟨RN,O⟩:=RB2.set6 (.slice (some ⟨g,0,none⟩) m m) (.bool p) (.slice a na ca) (.slice d nd cd) (.int .i64 bas) (.bool tu)
 have hnw1:NoW w1 (some w.heap.size):=RA.noW (by decide)
 have hnw2:NoW (w1.setCell ⟨w.heap.size,0,none⟩ (.slice (some ⟨g,0,none⟩) m m)) (some (w.heap.size + 1)):=RB2.noW (by decide)
 have LN:LnE (((((((w1.setCell ⟨w.heap.size,0,none⟩ (.slice (some ⟨g,0,none⟩) m m)).setCell ⟨w.heap.size + 1,0,none⟩ (.slice (some ⟨g,0,none⟩) m m)).setCell ⟨w.heap.size + 1,1,none⟩ (.bool p)).setCell ⟨w.heap.size + 1,2,none⟩ (.slice a na ca)).setCell ⟨w.heap.size + 1,3,none⟩ (.slice d nd cd)).setCell ⟨w.heap.size + 1,4,none⟩ (.int .i64 bas)).setCell ⟨w.heap.size + 1,5,none⟩ (.bool tu)) w.heap.size (.slice (some ⟨g,0,none⟩) m m) l S:=by
  obtain ⟨D,s1,s2⟩:=L1
  have s3:=s1.kept O1.grown (fun k e e2=>by cases e2;have:=(s1.lt _ e).1;omega)
  exact ⟨D,(s3.kept O.grown (fun k e e2=>by cases e2;have:=(s1.lt _ e).1;omega)).mono (by omega),fun i e he=>((s2 i e he).keep hnw1 O1.grown).keep hnw2 O.grown⟩
 have hbn:Below w.heap.size w (((((((w1.setCell ⟨w.heap.size,0,none⟩ (.slice (some ⟨g,0,none⟩) m m)).setCell ⟨w.heap.size + 1,0,none⟩ (.slice (some ⟨g,0,none⟩) m m)).setCell ⟨w.heap.size + 1,1,none⟩ (.bool p)).setCell ⟨w.heap.size + 1,2,none⟩ (.slice a na ca)).setCell ⟨w.heap.size + 1,3,none⟩ (.slice d nd cd)).setCell ⟨w.heap.size + 1,4,none⟩ (.int .i64 bas)).setCell ⟨w.heap.size + 1,5,none⟩ (.bool tu)):=((bel_tr hb h1).trans (O1.below (Nat.le_refl _))).trans (O.below (by omega))
 have HP:CoRP w l S p a na ca d nd cd bas tu (.returned (.agg #[.slice (some ⟨g,0,none⟩) m m,.bool p,.slice a na ca,.slice d nd cd,.int .i64 bas,.bool tu])) (((((((w1.setCell ⟨w.heap.size,0,none⟩ (.slice (some ⟨g,0,none⟩) m m)).setCell ⟨w.heap.size + 1,0,none⟩ (.slice (some ⟨g,0,none⟩) m m)).setCell ⟨w.heap.size + 1,1,none⟩ (.bool p)).setCell ⟨w.heap.size + 1,2,none⟩ (.slice a na ca)).setCell ⟨w.heap.size + 1,3,none⟩ (.slice d nd cd)).setCell ⟨w.heap.size + 1,4,none⟩ (.int .i64 bas)).setCell ⟨w.heap.size + 1,5,none⟩ (.bool tu)):=by
  rw [HM.out] at LN hbn ⊢
  exact ⟨g,rfl,LN,hbn⟩
 have k1:=(RA.cell 1).trans (show _ = some (.bool p) from rfl)
 have k2:=(RA.cell 2).trans (show _ = some (.slice a na ca) from rfl)
 have k3:=(RA.cell 3).trans (show _ = some (.slice d nd cd) from rfl)
 have k4:=(RA.cell 4).trans (show _ = some (.int .i64 bas) from rfl)
 have k5:=(RA.cell 5).trans (show _ = some (.bool tu) from rfl)
 have k0:=(RA.cell 0).trans (show _ = some (.slice va vn vc) from rfl)
 have f0:=RA.frozen 0
 have z0:=(RB.cell 0).trans (show _ = some (.slice none 0 0) from rfl)
 have z1:=(RB.cell 1).trans (show _ = some (.bool false) from rfl)
 have z2:=(RB.cell 2).trans (show _ = some (.slice none 0 0) from rfl)
 have z3:=(RB.cell 3).trans (show _ = some (.slice none 0 0) from rfl)
 have z4:=(RB.cell 4).trans (show _ = some (.int .i64 0) from rfl)
 have z5:=(RB.cell 5).trans (show _ = some (.bool false) from rfl)
 have g0:=RB.frozen 0
 have g1:=RB.frozen 1
 have g2:=RB.frozen 2
 have g3:=RB.frozen 3
 have g4:=RB.frozen 4
 have g5:=RB.frozen 5
 have j0:=(RN.cell 0).trans (show _ = some (.slice (some ⟨g,0,none⟩) m m) from rfl)
 have j1:=(RN.cell 1).trans (show _ = some (.bool p) from rfl)
 have j2:=(RN.cell 2).trans (show _ = some (.slice a na ca) from rfl)
 have j3:=(RN.cell 3).trans (show _ = some (.slice d nd cd) from rfl)
 have j4:=(RN.cell 4).trans (show _ = some (.int .i64 bas) from rfl)
 have j5:=(RN.cell 5).trans (show _ = some (.bool tu) from rfl)
 clear LN hbn O O1 hnw1 hnw2 RN RA RB RA2 RB2 R1 RZ L1 h1 hb hs1
 go_wp2
 exact bodyPost_ret (v:=.agg #[.slice (some ⟨g,0,none⟩) m m,.bool p,.slice a na ca,.slice d nd cd,.int .i64 bas,.bool tu]) (by simp [results,Tryz.results43,go_sem,j0,j1,j2,j3,j4,j5]) rfl HP
structure BB (w:World) (F:Nat) (f:Bf) (n:Nat) (X:Nat→RoD) (lc:List (Nat × Rat)) (S Sc:Nat):Prop where
 rw:Rw 72 w f.b #[.int .i64 (n:Nat),f.rv,f.cv]
 r:∃ E,SL w F 74 6 f.rv f.m E∧∀ q,q < f.m→RoC w (E q) (f.V q) (X q) S
 t:∀ q,q < f.m→LnE w F (f.V q) (X q).l S
 c:LnE w F f.cv lc Sc
 ne:∀ i j,i < f.m→j < f.m→i ≠ j→∀ g,(f.V i).ownBlock = some g→(f.V j).ownBlock ≠ some g
 nc:∀ i,i < f.m→∀ g,(f.V i).ownBlock = some g→f.cv.ownBlock ≠ some g
 lo:F≤f.b
theorem BB.lt {w:World} {F:Nat} {f:Bf} {n:Nat} {X:Nat→RoD} {lc:List (Nat × Rat)} {S Sc:Nat} (h:BB w F f n X lc S Sc):∀ k,f.has k→F≤k∧k < w.heap.size:=by
 rintro k (rfl | e | e | ⟨j,hj,e⟩)
 ·exact ⟨h.lo,h.rw.lt⟩
 ·obtain ⟨E,h1,_⟩:=h.r
  exact h1.lt k e
 ·exact h.c.lt k e
 ·exact (h.t j hj).lt k e
theorem BB.below {w w':World} {F:Nat} {f:Bf} {n:Nat} {X:Nat→RoD} {lc:List (Nat × Rat)} {S Sc:Nat} (h:BB w F f n X lc S Sc) (hb:Below w.heap.size w w'):BB w' F f n X lc S Sc:=by
 obtain ⟨E,h1,h2⟩:=h.r
 exact ⟨h.rw.below hb,⟨E,h1.below hb,fun q hq=>(h2 q hq).below hb⟩,fun q hq=>(h.t q hq).below hb,h.c.below hb,h.ne,h.nc,h.lo⟩
theorem BB.addRow {w w6:World} {F:Nat} {f:Bf} {n:Nat} {X:Nat→RoD} {lc:List (Nat × Rat)} {S Sc:Nat} (h:BB w F f n X lc S Sc) {E:Nat→List Value} (hE:SL w F 74 6 f.rv f.m E) (hEE:∀ q,q < f.m→RoC w (E q) (f.V q) (X q) S) {g cap:Nat} {cs:List Value} {v:Value} (hS:SL w6 F 74 6 (.slice (some ⟨g,0,none⟩) (f.m + 1) cap) (f.m + 1) (fun i=>if i < f.m then E i else cs)) (hg:w.grownBy w6 f.rv.ownBlock) (hc:RoC w cs v (X f.m) S) (hl:LnE w F v (X f.m).l S) (hv:∀ k,v.ownBlock = some k→¬ f.has k) :
  BB (w6.setCell ⟨f.b,1,none⟩ (.slice (some ⟨g,0,none⟩) (f.m + 1) cap)) F { f with rv:=.slice (some ⟨g,0,none⟩) (f.m + 1) cap,m:=f.m + 1,V:=fun q=>if q < f.m then f.V q else v } n X lc S Sc∧Off f.b w6 (w6.setCell ⟨f.b,1,none⟩ (.slice (some ⟨g,0,none⟩) (f.m + 1) cap)):=by
 have hn:=hE.noW (show 74 ≠ 100 by decide)
 have hb':Rw 72 w6 f.b #[.int .i64 (n:Nat),f.rv,f.cv]:=h.rw.kept hg (hE.neR h.rw (by decide))
 obtain ⟨hb2,O⟩:=hb'.setK 1 (.slice (some ⟨g,0,none⟩) (f.m + 1) cap)
 have hnb:NoW w6 (some f.b):=hb'.noW (by decide)
 have keepL:∀ (u:Value) (l:List (Nat × Rat)) (T:Nat),LnE w F u l T→LnE (w6.setCell ⟨f.b,1,none⟩ (.slice (some ⟨g,0,none⟩) (f.m + 1) cap)) F u l T:=fun u l T hu=>by
  obtain ⟨D,t1,t2⟩:=hu
  have t3:=t1.kept hg (fun g e e2=>hE.ne2 t1 (by decide) g e2 e)
  exact ⟨D,t3.kept O.grown (fun g e e2=>by cases e2;exact t3.neR hb' (by decide) e),fun i e he=>((t2 i e he).keep hn hg).keep hnb O.grown⟩
 have last:∀ q,q < f.m + 1→¬ q < f.m→q = f.m:=fun q h1 h2=>by omega
 refine ⟨⟨hb2,⟨_,hS.kept O.grown (fun g' e e2=>by cases e2;exact hS.neR hb' (by decide) e),fun q hq=>?_⟩,fun q hq=>?_,keepL _ _ _ h.c,fun a b ha hb hab k=>?_,fun a ha k=>?_,h.lo⟩,O⟩
 ·by_cases e:q < f.m
  ·simp only [e,if_true];exact ((hEE q e).keep hn hg).keep hnb O.grown
  ·rw [last q hq e]
   simp only [Nat.lt_irrefl,if_false];exact (hc.keep hn hg).keep hnb O.grown
 ·by_cases e:q < f.m
  ·simp only [e,if_true];exact keepL _ _ _ (h.t q e)
  ·rw [last q hq e]
   simp only [Nat.lt_irrefl,if_false];exact keepL _ _ _ hl
 ·have ha':a < f.m + 1:=ha
  have hb1:b < f.m + 1:=hb
  by_cases e:a < f.m
  ·by_cases e2:b < f.m
   ·simp only [e,e2,if_true];exact h.ne a b e e2 hab k
   ·simp only [e,e2,if_true,if_false]
    intro e3 e4
    exact hv k e4 (.inr (.inr (.inr ⟨a,e,e3⟩)))
  ·by_cases e2:b < f.m
   ·simp only [e,e2,if_true,if_false]
    intro e3 e4
    exact hv k e3 (.inr (.inr (.inr ⟨b,e2,e4⟩)))
   ·omega
 ·by_cases e:a < f.m
  ·simp only [e,if_true];exact h.nc a e k
  ·simp only [e,if_false]
   intro e3 e4
   exact hv k e3 (.inr (.inr (.inl e4)))
def ClnP (w:World) (m n:Nat) (X:Nat→RoD) (lc:List (Nat × Rat)) (S Sc:Nat) (e:Ending) (w':World):Prop:=∃ f:Bf,e = .returned (.pointer (some ⟨f.b,0,none⟩))∧f.m = m∧BD w' w.heap.size f n X lc S Sc∧Below w.heap.size w w'
set_option maxRecDepth 100000 in
set_option maxHeartbeats 8000000 in
theorem cloneB {F:Nat} {f:Bf} {n:Nat} {X:Nat→RoD} {lc:List (Nat × Rat)} {S Sc:Nat} (w:World) (h:BD w F f n X lc S Sc) (hN:n + f.m≤3000000):Calls Tryz.prog 12 #[.pointer (some ⟨f.b,0,none⟩)] w fun e w'=>ClnP w f.m n X lc S Sc e w':=by
 obtain ⟨ra,rc,erv,hrc⟩:=h.rlen
 obtain ⟨m,em⟩:∃ m,m = f.m:=⟨_,rfl⟩
 have HM:Hid (m = f.m):=em
 obtain ⟨xa,xc,ecv,hcc⟩:=h.c.form
 obtain ⟨xn,ecn⟩:∃ xn,xn = lc.length:=⟨_,rfl⟩
 have HCN:Hid (xn = lc.length):=ecn
 rw [← ecn] at ecv
 have x0:=(h.rw.cell 0).trans (show _ = some (.int .i64 (n:Nat)) from rfl)
 have x2:=(h.rw.cell 2).trans (show _ = some f.cv from rfl)
 have x1:=(h.rw.cell 1).trans (show _ = some f.rv from rfl)
 rw [ecv] at x2
 rw [erv,← em] at x1
 have hcl:lc.length≤100000000:=by
  have:=h.kc.1.len _ h.kc.2
  omega
 have hc':=h.c
 rw [ecv] at hc'
 have hmN:m≤3000000:=by omega
 have HRV:Hid (f.rv = .slice ra m rc):=by show f.rv = _;rw [em];exact erv
 rw [← em]
 have HB1:∀ w',Below w.heap.size w w'→(w'.cell? ⟨f.b,0,none⟩ = some (.int .i64 (n:Nat))∧w'.cell? ⟨f.b,2,none⟩ = some (.slice xa xn xc)):=fun w' h=>⟨kept_c h x0,kept_c h x2⟩
 clear em ecn ecv erv
 go_enter Tryz.func12,Tryz.ntmps12
 go_wp2_with fail
 refine wp_region_noPanic (wp_region_guardB HB1 (by as_aux_lemma=>kernel_rfl) ?_)
 have hc0:Below w.heap.size w w.drew:=bel_d1 _
 generalize w.drew = z0 at *
 refine wpAnyG.tA 0 (v:=.pointer (some ⟨f.b,0,none⟩)) (by decide) 11 (by as_aux_lemma=>kernel_rfl) (by rfl) ?y0 (HB1 _ hc0) ?_
 case y0 =>
  rintro w' ⟨q0,q1⟩
  simp only [lgA,lgZ]
  go_simp
 simp only [lgA,lgZ,Act.put,lsA,lsZ,lsS]
 refine wpAnyG.tA 1 (v:=.pointer (some ⟨f.b,0,none⟩)) (by decide) 11 (by as_aux_lemma=>kernel_rfl) (by rfl) ?y1 (HB1 _ hc0) ?_
 case y1 =>
  rintro w' ⟨q0,q1⟩
  simp only [lgA,lgZ,lgS]
  go_simp
 simp only [lgA,lgZ,lgS,Act.put,lsA,lsZ,lsS]
 refine wpAnyG.tA 2 (v:=.pointer (some ⟨f.b,0,none⟩)) (by decide) 11 (by as_aux_lemma=>kernel_rfl) (by rfl) ?y2 (HB1 _ hc0) ?_
 case y2 =>
  rintro w' ⟨q0,q1⟩
  simp only [lgA,lgZ,lgS]
  go_simp
 simp only [lgA,lgZ,lgS,Act.put,lsA,lsZ,lsS]
 refine wpAnyG.tA 3 (v:=.int .i64 (n:Nat)) (by decide) 11 (by as_aux_lemma=>kernel_rfl) (by rfl) ?y3 (HB1 _ hc0) ?_
 case y3 =>
  rintro w' ⟨q0,q1⟩
  simp only [lgA,lgZ,lgS]
  go_simp
 simp only [lgA,lgZ,lgS,Act.put,lsA,lsZ,lsS]
 refine wpAnyG.tA 4 (v:=.pointer (some ⟨f.b,0,none⟩)) (by decide) 11 (by as_aux_lemma=>kernel_rfl) (by rfl) ?y4 (HB1 _ hc0) ?_
 case y4 =>
  rintro w' ⟨q0,q1⟩
  simp only [lgA,lgZ,lgS]
  go_simp
 simp only [lgA,lgZ,lgS,Act.put,lsA,lsZ,lsS]
 refine wpAnyG.tA 5 (v:=.pointer (some ⟨f.b,0,none⟩)) (by decide) 11 (by as_aux_lemma=>kernel_rfl) (by rfl) ?y5 (HB1 _ hc0) ?_
 case y5 =>
  rintro w' ⟨q0,q1⟩
  simp only [lgA,lgZ,lgS]
  go_simp
 simp only [lgA,lgZ,lgS,Act.put,lsA,lsZ,lsS]
 refine wpAnyG.tA 6 (v:=.pointer (some ⟨f.b,2,none⟩)) (by decide) 11 (by as_aux_lemma=>kernel_rfl) (by rfl) ?y6 (HB1 _ hc0) ?_
 case y6 =>
  rintro w' ⟨q0,q1⟩
  simp only [lgA,lgZ,lgS]
  go_simp
 simp only [lgA,lgZ,lgS,Act.put,lsA,lsZ,lsS]
 refine wpAnyG.tA 7 (v:=.slice xa xn xc) (by decide) 11 (by as_aux_lemma=>kernel_rfl) (by rfl) ?y7 (HB1 _ hc0) ?_
 case y7 =>
  rintro w' ⟨q0,q1⟩
  simp only [lgA,lgZ,lgS]
  go_simp
 simp only [lgA,lgZ,lgS,Act.put,lsA,lsZ,lsS]
 refine wpAnyG.one 8 (by as_aux_lemma=>kernel_rfl) (by decide) (by rfl) (fun K hK=>?_)
 simp only [lgA,lgZ,lgS]
 go_simp
 refine (copLB z0 (hc'.below hc0) hcl).mono ?_
 rintro e z1 ⟨g8,rfl,L8,hk1⟩
 have hc1:Below w.heap.size w z1:=bel_tr hc0 hk1
 dsimp only
 refine hK _ _ (HB1 _ hc1) ?_
 clear hK K
 refine wpAnyG.tA 9 (v:=.agg #[.int .i64 (n:Nat),.slice none 0 0,.slice (some ⟨g8,0,none⟩) lc.length lc.length]) (by decide) 11 (by as_aux_lemma=>kernel_rfl) (by rfl) ?y9 (HB1 _ hc1) ?_
 case y9 =>
  rintro w' ⟨q0,q1⟩
  simp only [lgA,lgZ,lgS]
  go_simp
 simp only [lgA,lgZ,lgS,Act.put,lsA,lsZ,lsS]
 refine wpAnyG.one 10 (by as_aux_lemma=>kernel_rfl) (by decide) (by rfl) (fun K hK=>?_)
 simp only [lgA,lgZ,lgS]
 go_simp
 have RB:=Rw.new 72 z1 #[.int .i64 (n:Nat),.slice none 0 0,.slice (some ⟨g8,0,none⟩) lc.length lc.length]
 have hy:=bel_d0 z1 (.cells #[.int .i64 (n:Nat),.slice none 0 0,.slice (some ⟨g8,0,none⟩) lc.length lc.length] 72)
 generalize z1.alloc (.cells #[.int .i64 (n:Nat),.slice none 0 0,.slice (some ⟨g8,0,none⟩) lc.length lc.length] 72) = z5 at *
 have hc5:=bel_tr hc1 hy
 refine hK _ _ (HB1 _ hc5) ?_
 clear hK K
 refine wpAnyG.one 11 (by as_aux_lemma=>kernel_rfl) (by decide) (by rfl) (fun K hK=>?_)
 simp only [lgA,lgZ,lgS]
 go_simp
 refine hK _ _ (HB1 _ hc5) ?_
 clear hK K
 refine wpAnyG.done (by as_aux_lemma=>kernel_rfl) (NoPanic.normal ?_)
 have hbb:w.heap.size≤z1.heap.size:=hc1.size
 obtain ⟨bb,ebb⟩:∃ bb,bb = z1.heap.size:=⟨_,rfl⟩
 rw [← ebb] at RB
 try rw [← ebb]
 have hbb2:w.heap.size≤bb:=by omega
 have B0:BB z5 w.heap.size (⟨bb,.slice none 0 0,0,fun _=>.slice none 0 0,.slice (some ⟨g8,0,none⟩) lc.length lc.length⟩:Bf) n X lc S Sc:=⟨RB,⟨fun _=>[],SL.nil _ _ _ _ _,fun q hq=>absurd hq (by show ¬ q < 0;omega)⟩,fun q hq=>absurd hq (by show ¬ q < 0;omega),(L8.mono (by have:=hc0.size;omega)).below hy,fun a b ha=>absurd ha (by show ¬ a < 0;omega),fun a ha=>absurd ha (by show ¬ a < 0;omega),hbb2⟩
 have y1:=kept_c hc5 x1
 clear ebb RB hy L8 hc0 hc1 hk1 HB1 x0 x1 x2 hc' hbb
 go_wp2
 clear y1
 go_loopw [22] (fun sq wr=>∃ (i:Nat) (rv:Value) (V:Nat→Value) (cv:Value),i≤m∧sq = .int .i64 i∧BB wr w.heap.size (⟨bb,rv,i,V,cv⟩:Bf) n X lc S Sc∧Below w.heap.size w wr) (fun x _=>m - (intOf x).toNat)
 case atStart=>exact ⟨0,_,_,_,Nat.zero_le _,rfl,B0,hc5⟩
 case round =>
  clear B0 hc5
  obtain ⟨i,rv,V,cv,hi,rfl,BQ,hbw⟩:=hrel
  have hwr:=hbw.size
  obtain ⟨EQ,SLQ0,_⟩:=id BQ.r
  obtain ⟨ua,uc,erv,_⟩:=SLQ0.form
  have erv:rv = .slice ua i uc:=erv
  subst erv
  have SLQ:SL wr w.heap.size 74 6 (.slice ua i uc) i EQ:=SLQ0
  by_cases hlt:i < m
  ·have hiI:(i:Int) < (m:Int):=by omega
   have hi0:¬ (i:Int) < 0:=by omega
   have hi6:(i:Int) * 6 = ((i * 6:Nat):Int):=by omega
   have hif:i < f.m:=by rw [← HM.out];exact hlt
   have hD:=h.below hbw
   obtain ⟨rg,rc',p,a,na,ca,d,nd,cd,er,c0,c1,c2,c3,c4,c5,GX⟩:=hD.get hif
   have HV:Hid (∃ va vc,f.V i = .slice va (X i).l.length vc):=by
    obtain ⟨q1,q2,e,_⟩:=(hD.t i hif).form
    exact ⟨_,_,e⟩
   obtain ⟨va,vc,ev⟩:=HV.out
   obtain ⟨vn,evn⟩:∃ vn,vn = (X i).l.length:=⟨_,rfl⟩
   have HLN:Hid (vn = (X i).l.length):=evn
   have LV0:=hD.t i hif
   rw [ev,← evn] at c0 LV0
   have hll:(X i).l.length≤100000000:=by
    have:=(h.k i hif).1.len _ (h.k i hif).2.1
    omega
   obtain ⟨rfl,rfl⟩:ra = some ⟨rg,0,none⟩∧rc = rc':=by
    have e:=HRV.out
    rw [er] at e
    simp only [Value.slice.injEq] at e
    exact ⟨e.1.symm,e.2.2.symm⟩
   obtain ⟨bas,ebas⟩:∃ bas,bas = (X i).bas:=⟨_,rfl⟩
   obtain ⟨tu,etu⟩:∃ tu,tu = (X i).tu:=⟨_,rfl⟩
   rw [← ebas] at c4
   rw [← etu] at c5
   have HBT:Hid (bas = (X i).bas∧tu = (X i).tu):=⟨ebas,etu⟩
   have hz:=bel_d0 wr (.cells #[.slice va vn vc,.bool p,.slice a na ca,.slice d nd cd,.int .i64 bas,.bool tu] 74)
   have BX0:=box_new wr #[.slice va vn vc,.bool p,.slice a na ca,.slice d nd cd,.int .i64 bas,.bool tu] 74
   have hsW:(wr.alloc (.cells #[.slice va vn vc,.bool p,.slice a na ca,.slice d nd cd,.int .i64 bas,.bool tu] 74)).heap.size = wr.heap.size + 1:=by simp
   have BW:=BQ.below hz
   have hbU:=bel_tr hbw hz
   have LV:=LV0.below hz
   have GX2:=GX.below hz
   have xb1:=(BW.rw.cell 1).trans (show _ = some (.slice ua i uc) from rfl)
   clear ev evn er ebas etu hD GX LV0 HV
   go_wp2_with fail
   clear c0 c1 c2 c3 c4 c5
   generalize wr.alloc (.cells #[.slice va vn vc,.bool p,.slice a na ca,.slice d nd cd,.int .i64 bas,.bool tu] 74) = W2 at *
   have HB5:∀ w',Below W2.heap.size W2 w'→(w'.cell? ⟨bb,1,none⟩ = some (.slice ua i uc)∧w'.cell? ⟨wr.heap.size,0,none⟩ = some (.slice va vn vc)∧w'.cell? ⟨wr.heap.size,1,none⟩ = some (.bool p)∧w'.cell? ⟨wr.heap.size,2,none⟩ = some (.slice a na ca)∧w'.cell? ⟨wr.heap.size,3,none⟩ = some (.slice d nd cd)∧w'.cell? ⟨wr.heap.size,4,none⟩ = some (.int .i64 bas)∧w'.cell? ⟨wr.heap.size,5,none⟩ = some (.bool tu)):=fun w' h=>⟨kept_c h xb1,kept_c h (BX0 0 _ rfl),kept_c h (BX0 1 _ rfl),kept_c h (BX0 2 _ rfl),kept_c h (BX0 3 _ rfl),kept_c h (BX0 4 _ rfl),kept_c h (BX0 5 _ rfl)⟩
   clear hz
   refine wp_region_noPanic (wp_region_guardT 11 HB5 (by as_aux_lemma=>kernel_rfl) ?_)
   have hc0:Below W2.heap.size W2 W2.drew:=bel_d1 _
   generalize W2.drew = z0 at *
   refine wpAnyG.tT 0 (v:=.pointer (some ⟨bb,0,none⟩)) (by decide) 11 (by as_aux_lemma=>kernel_rfl) (by rfl) ?y0 (HB5 _ hc0) ?_
   case y0 =>
    rintro w' ⟨q0,q1,q2,q3,q4,q5,q6⟩
    simp only [lgA,lgZ]
    go_simp
   simp only [lgA,lgZ,Act.put,lsA,lsZ,lsS]
   refine wpAnyG.tT 1 (v:=.pointer (some ⟨bb,0,none⟩)) (by decide) 11 (by as_aux_lemma=>kernel_rfl) (by rfl) ?y1 (HB5 _ hc0) ?_
   case y1 =>
    rintro w' ⟨q0,q1,q2,q3,q4,q5,q6⟩
    simp only [lgA,lgZ,lgS]
    go_simp
   simp only [lgA,lgZ,lgS,Act.put,lsA,lsZ,lsS]
   refine wpAnyG.tT 2 (v:=.pointer (some ⟨bb,0,none⟩)) (by decide) 11 (by as_aux_lemma=>kernel_rfl) (by rfl) ?y2 (HB5 _ hc0) ?_
   case y2 =>
    rintro w' ⟨q0,q1,q2,q3,q4,q5,q6⟩
    simp only [lgA,lgZ,lgS]
    go_simp
   simp only [lgA,lgZ,lgS,Act.put,lsA,lsZ,lsS]
   refine wpAnyG.tT 3 (v:=.pointer (some ⟨bb,1,none⟩)) (by decide) 11 (by as_aux_lemma=>kernel_rfl) (by rfl) ?y3 (HB5 _ hc0) ?_
   case y3 =>
    rintro w' ⟨q0,q1,q2,q3,q4,q5,q6⟩
    simp only [lgA,lgZ,lgS]
    go_simp
   simp only [lgA,lgZ,lgS,Act.put,lsA,lsZ,lsS]
   refine wpAnyG.tT 4 (v:=.slice ua i uc) (by decide) 11 (by as_aux_lemma=>kernel_rfl) (by rfl) ?y4 (HB5 _ hc0) ?_
   case y4 =>
    rintro w' ⟨q0,q1,q2,q3,q4,q5,q6⟩
    simp only [lgA,lgZ,lgS]
    go_simp
   simp only [lgA,lgZ,lgS,Act.put,lsA,lsZ,lsS]
   refine wpAnyG.tT 5 (v:=.agg #[.slice va vn vc,.bool p,.slice a na ca,.slice d nd cd,.int .i64 bas,.bool tu]) (by decide) 11 (by as_aux_lemma=>kernel_rfl) (by rfl) ?y5 (HB5 _ hc0) ?_
   case y5 =>
    rintro w' ⟨q0,q1,q2,q3,q4,q5,q6⟩
    simp only [lgA,lgZ,lgS]
    go_simp
   simp only [lgA,lgZ,lgS,Act.put,lsA,lsZ,lsS]
   refine wpAnyG.one 6 (by as_aux_lemma=>kernel_rfl) (by decide) (by rfl) (fun K hK=>?_)
   simp only [lgA,lgZ,lgS]
   go_simp
   refine (copRB z0 (LV.below hc0) hll).mono ?_
   rintro e z1 ⟨g6',rfl,L6,hk1⟩
   have hc1:Below W2.heap.size W2 z1:=bel_tr hc0 hk1
   rw [← HLN.out] at L6 ⊢
   dsimp only
   refine hK _ _ ⟨fun _=>HB5 _ hc1,fun _=>trivial⟩ ?_
   clear hK K
   refine wpAnyG.one 7 (by as_aux_lemma=>kernel_rfl) (by decide) (by rfl) (fun K hK=>?_)
   simp only [lgA,lgZ,lgS]
   go_simp
   have hy:=bel_d0 z1 (.cells #[.slice (some ⟨g6',0,none⟩) vn vn,.bool p,.slice a na ca,.slice d nd cd,.int .i64 bas,.bool tu] 74)
   have BX:=box_new z1 #[.slice (some ⟨g6',0,none⟩) vn vn,.bool p,.slice a na ca,.slice d nd cd,.int .i64 bas,.bool tu] 74
   have hs4:(z1.alloc (.cells #[.slice (some ⟨g6',0,none⟩) vn vn,.bool p,.slice a na ca,.slice d nd cd,.int .i64 bas,.bool tu] 74)).heap.size = z1.heap.size + 1:=by simp
   generalize z1.alloc (.cells #[.slice (some ⟨g6',0,none⟩) vn vn,.bool p,.slice a na ca,.slice d nd cd,.int .i64 bas,.bool tu] 74) = z5 at *
   have hc5:=bel_tr hc1 hy
   refine hK _ _ ⟨fun _=>HB5 _ hc5,fun _=>trivial⟩ ?_
   clear hK K
   refine wpAnyG.one 8 (by as_aux_lemma=>kernel_rfl) (by decide) (by rfl) (fun K hK=>?_)
   simp only [lgA,lgZ,lgS]
   have BZ:=BW.below hc5
   obtain ⟨E,SLZ0,TE⟩:=id BZ.r
   have hsy:=hc5.size
   have SLZ:SL z5 w.heap.size 74 6 (.slice ua i uc) i E:=SLZ0
   refine wp_appendS z5 _ _ 68 74 6 96 rfl Tryz.underlying68 infRow6 (by decide) (by decide) w.heap.size (.slice ua i uc) i E rfl SLZ z1.heap.size 1 rfl [.slice (some ⟨g6',0,none⟩) vn vn,.bool p,.slice a na ca,.slice d nd cd,.int .i64 bas,.bool tu] rfl (fun u hu=>by simp only [List.mem_cons,List.not_mem_nil,or_false] at hu;rcases hu with rfl | rfl | rfl | rfl | rfl | rfl <;> rfl) BX (by omega) (by omega) _ rfl ?_
   intro g6 cap6 w6 SN hg hat hgl
   have RZ7:Rw 72 w6 bb #[.int .i64 (n:Nat),.slice ua i uc,cv]:=BZ.rw.kept hg (SLZ.neR BZ.rw (by decide))
   have hlt6:wr.heap.size < z5.heap.size:=by omega
   have hbw6:(Value.slice ua i uc).ownBlock ≠ some wr.heap.size:=fun e=>by have:=(SLQ.lt _ e).2;omega
   have eb6:=hg.block wr.heap.size hlt6 (fun e=>hbw6 e.symm)
   refine hK _ _ ⟨fun _=>⟨(RZ7.cell 1).trans rfl,(World.cell?_of_block (w:=z5) eb6).trans (HB5 _ hc5).2.1,(World.cell?_of_block (w:=z5) eb6).trans (HB5 _ hc5).2.2.1,(World.cell?_of_block (w:=z5) eb6).trans (HB5 _ hc5).2.2.2.1,(World.cell?_of_block (w:=z5) eb6).trans (HB5 _ hc5).2.2.2.2.1,(World.cell?_of_block (w:=z5) eb6).trans (HB5 _ hc5).2.2.2.2.2.1,(World.cell?_of_block (w:=z5) eb6).trans (HB5 _ hc5).2.2.2.2.2.2⟩,fun _=>trivial⟩ ?_
   clear hK K
   refine wpAnyG.one 9 (by as_aux_lemma=>kernel_rfl) (by decide) (by rfl) (fun K hK=>?_)
   simp only [lgA,lgZ,lgS]
   go_simp
   refine hK _ _ ⟨fun _=>⟨(RZ7.cell 1).trans rfl,(World.cell?_of_block (w:=z5) eb6).trans (HB5 _ hc5).2.1,(World.cell?_of_block (w:=z5) eb6).trans (HB5 _ hc5).2.2.1,(World.cell?_of_block (w:=z5) eb6).trans (HB5 _ hc5).2.2.2.1,(World.cell?_of_block (w:=z5) eb6).trans (HB5 _ hc5).2.2.2.2.1,(World.cell?_of_block (w:=z5) eb6).trans (HB5 _ hc5).2.2.2.2.2.1,(World.cell?_of_block (w:=z5) eb6).trans (HB5 _ hc5).2.2.2.2.2.2⟩,fun _=>trivial⟩ ?_
   clear hK K
   refine wpAnyG.one 10 (by as_aux_lemma=>kernel_rfl) (by decide) (by rfl) (fun K hK=>?_)
   simp only [lgA,lgZ,lgS]
   go_simp
   refine hK _ _ ⟨fun _=>⟨(RZ7.cell 1).trans rfl,(World.cell?_of_block (w:=z5) eb6).trans (HB5 _ hc5).2.1,(World.cell?_of_block (w:=z5) eb6).trans (HB5 _ hc5).2.2.1,(World.cell?_of_block (w:=z5) eb6).trans (HB5 _ hc5).2.2.2.1,(World.cell?_of_block (w:=z5) eb6).trans (HB5 _ hc5).2.2.2.2.1,(World.cell?_of_block (w:=z5) eb6).trans (HB5 _ hc5).2.2.2.2.2.1,(World.cell?_of_block (w:=z5) eb6).trans (HB5 _ hc5).2.2.2.2.2.2⟩,fun _=>trivial⟩ ?_
   clear hK K
   refine wpAnyG.one 11 (by as_aux_lemma=>kernel_rfl) (by decide) (by rfl) (fun K hK=>?_)
   simp only [lgA,lgZ,lgS]
   have k1:=(RZ7.cell 1).trans (show _ = some (.slice ua i uc) from rfl)
   have f1:=RZ7.frozen 1
   go_simp
   refine hK _ _ ⟨fun h=>absurd h (by decide),fun _=>trivial⟩ ?_
   clear hK K
   refine wpAnyG.done (by as_aux_lemma=>kernel_rfl) (NoPanic.normal ?_)
   obtain ⟨B9,O⟩:=BZ.addRow (g:=g6) (cap:=cap6) (cs:=[.slice (some ⟨g6',0,none⟩) vn vn,.bool p,.slice a na ca,.slice d nd cd,.int .i64 bas,.bool tu]) (v:=.slice (some ⟨g6',0,none⟩) vn vn) SLZ0 TE SN hg ⟨p,a,na,ca,d,nd,cd,by rw [HBT.out.1,HBT.out.2],(GX2.below hc5)⟩ ((L6.below hy).mono (by have:=hc0.size;have:=hbU.size;omega)) (fun k e hk=>by have:=(L6.lt k e).1;have:=(BW.lt k hk).2;have:=hc0.size;omega)
   have hbn:Below w.heap.size w (w6.setCell ⟨bb,1,none⟩ (.slice (some ⟨g6,0,none⟩) (i + 1) cap6)):=((bel_tr hbU hc5).grown hg (bel_tr hbU hc5).size (fun k hk=>(SLZ.lt k hk).1)).trans (O.below hbb2)
   clear HB5 BZ SLZ0 SLZ TE SN hg hat hgl RZ7 eb6 hlt6 hbw6 BX BX0 L6 hy hc5 hc0 hc1 hk1 BW O SLQ SLQ0 hbU hbw GX2 k1 f1 LV BQ xb1
   go_wp2
   go_roundw
   case rel=>first | exact ⟨i + 1,_,_,_,by omega,by go_num,B9,hbn⟩ | ((repeat apply Exists.intro);refine ⟨?_,rfl⟩;exact ⟨i + 1,_,_,_,by omega,by go_num,B9,hbn⟩)
   case measure=>simp [intOf];omega
  ·have hiI:¬ (i:Int) < (m:Int):=by omega
   have ei:i = m:=by omega
   have HP:ClnP w m n X lc S Sc (.returned (.pointer (some ⟨bb,0,none⟩))) wr:=⟨(⟨bb,.slice ua i uc,i,V,cv⟩:Bf),rfl,ei,⟨BQ.rw,BQ.r,BQ.t,BQ.c,BQ.ne,BQ.nc,BQ.lo,fun q hq=>(by
     have e:n + i = n + f.m:=by rw [ei,HM.out]
     show RoK (X q) (n + i)
     rw [e]
     exact h.k q (by rw [← HM.out,← ei];exact hq)),(by
     have e:n + i = n + f.m:=by rw [ei,HM.out]
     show Rise lc∧Blw lc (n + i)
     rw [e]
     exact h.kc)⟩,hbw⟩
   clear ei BQ hbw SLQ SLQ0
   go_wp2
   go_ret
   exact HP
end Go.Proofs.YtiohbjnflpnfbaaGreatDoor

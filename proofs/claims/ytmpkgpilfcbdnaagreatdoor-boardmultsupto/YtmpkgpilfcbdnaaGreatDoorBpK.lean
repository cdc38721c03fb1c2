import Derived.Test.YtmpkgpilfcbdnaaGreatDoorBpJ
namespace Go.Proofs.YtmpkgpilfcbdnaaGreatDoor
open Go.RowKit
def CoRP (w:World) (l:List (Nat × Rat)) (S:Nat) (p:Bool) (a:Option Addr) (na ca:Nat) (d:Option Addr) (nd cd:Nat) (bas:Int) (tu:Bool) (e:Ending) (w':World):Prop:=∃ g,e = .returned (.agg #[.slice (some ⟨g,0,none⟩) l.length l.length,.bool p,.slice a na ca,.slice d nd cd,.int .i64 bas,.bool tu])∧LnE w' w.heap.size (.slice (some ⟨g,0,none⟩) l.length l.length) l S∧Below w.heap.size w w'
set_option maxRecDepth 100000 in
set_option maxHeartbeats 8000000 in
theorem copRB {B S:Nat} {va:Option Addr} {vn vc:Nat} {l:List (Nat × Rat)} {p:Bool} {a:Option Addr} {na ca:Nat} {d:Option Addr} {nd cd:Nat} {bas:Int} {tu:Bool} (w:World) (hL:LnE w B (.slice va vn vc) l S) (hn:l.length≤100000000):Calls Tryz.prog 162 #[.agg #[.slice va vn vc,.bool p,.slice a na ca,.slice d nd cd,.int .i64 bas,.bool tu]] w fun e w'=>CoRP w l S p a na ca d nd cd bas tu e w':=by
 have R0:=Rw.new 72 w #[.slice va vn vc,.bool p,.slice a na ca,.slice d nd cd,.int .i64 bas,.bool tu]
 have hb0:=bel_d0 w (.cells #[.slice va vn vc,.bool p,.slice a na ca,.slice d nd cd,.int .i64 bas,.bool tu] 72)
 have hs0:(w.alloc (.cells #[.slice va vn vc,.bool p,.slice a na ca,.slice d nd cd,.int .i64 bas,.bool tu] 72)).heap.size = w.heap.size + 1:=by simp
 have RZ:=Rw.new 72 (w.alloc (.cells #[.slice va vn vc,.bool p,.slice a na ca,.slice d nd cd,.int .i64 bas,.bool tu] 72)) #[.slice none 0 0,.bool false,.slice none 0 0,.slice none 0 0,.int .i64 0,.bool false]
 rw [hs0] at RZ
 have hb1:=bel_d0 (w.alloc (.cells #[.slice va vn vc,.bool p,.slice a na ca,.slice d nd cd,.int .i64 bas,.bool tu] 72)) (.cells #[.slice none 0 0,.bool false,.slice none 0 0,.slice none 0 0,.int .i64 0,.bool false] 72)
 have hs1:((w.alloc (.cells #[.slice va vn vc,.bool p,.slice a na ca,.slice d nd cd,.int .i64 bas,.bool tu] 72)).alloc (.cells #[.slice none 0 0,.bool false,.slice none 0 0,.slice none 0 0,.int .i64 0,.bool false] 72)).heap.size = w.heap.size + 2:=by simp
 have R1:=R0.below hb1
 have hb:=bel_tr hb0 hb1
 have x0:=(R1.cell 0).trans (show _ = some (.slice va vn vc) from rfl)
 obtain ⟨m,em⟩:∃ m,m = l.length:=⟨_,rfl⟩
 have HM:Hid (m = l.length):=em
 clear R0 hb0 hb1 hs0 em
 go_enter Tryz.func162,Tryz.ntmps162
 go_wp2_with fail
 clear x0
 generalize (w.alloc (.cells #[.slice va vn vc,.bool p,.slice a na ca,.slice d nd cd,.int .i64 bas,.bool tu] 72)).alloc (.cells #[.slice none 0 0,.bool false,.slice none 0 0,.slice none 0 0,.int .i64 0,.bool false] 72) = W0 at *
 refine (copLB W0 (hL.below hb) hn).mono ?_
 rintro e w1 ⟨g,rfl,L1,h1⟩
 rw [← HM.out] at L1 ⊢
 have RA:=R1.below h1
 have RB:=RZ.below h1
 obtain ⟨RA2,O1⟩:=RA.setK 0 (.slice (some ⟨g,0,none⟩) m m)
 have RB2:=RB.off O1 (by omega)
 obtain ⟨RN,O⟩:=RB2.set6 (.slice (some ⟨g,0,none⟩) m m) (.bool p) (.slice a na ca) (.slice d nd cd) (.int .i64 bas) (.bool tu)
 have hnw1:NoW w1 (some w.heap.size):=RA.noW (by decide)
 have hnw2:NoW (w1.setCell ⟨w.heap.size,0,none⟩ (.slice (some ⟨g,0,none⟩) m m)) (some (w.heap.size + 1)):=RB2.noW (by decide)
 have LN:LnE (((((((w1.setCell ⟨w.heap.size,0,none⟩ (.slice (some ⟨g,0,none⟩) m m)).setCell ⟨w.heap.size + 1,0,none⟩ (.slice (some ⟨g,0,none⟩) m m)).setCell ⟨w.heap.size + 1,1,none⟩ (.bool p)).setCell ⟨w.heap.size + 1,2,none⟩ (.slice a na ca)).setCell ⟨w.heap.size + 1,3,none⟩ (.slice d nd cd)).setCell ⟨w.heap.size + 1,4,none⟩ (.int .i64 bas)).setCell ⟨w.heap.size + 1,5,none⟩ (.bool tu)) w.heap.size (.slice (some ⟨g,0,none⟩) m m) l S:=by
  obtain ⟨D,s1,s2⟩:=L1
  have s3:=s1.kept O1.grown (fun k e e2=>by cases e2;have:=(s1.lt _ e).1;omega)
  exact ⟨D,(s3.kept O.grown (fun k e e2=>by cases e2;have:=(s1.lt _ e).1;omega)).mono (by omega),fun i e he=>((s2 i e he).keep hnw1 O1.grown).keep hnw2 O.grown⟩
 have hbn:Below w.heap.size w (((((((w1.setCell ⟨w.heap.size,0,none⟩ (.slice (some ⟨g,0,none⟩) m m)).setCell ⟨w.heap.size + 1,0,none⟩ (.slice (some ⟨g,0,none⟩) m m)).setCell ⟨w.heap.size + 1,1,none⟩ (.bool p)).setCell ⟨w.heap.size + 1,2,none⟩ (.slice a na ca)).setCell ⟨w.heap.size + 1,3,none⟩ (.slice d nd cd)).setCell ⟨w.heap.size + 1,4,none⟩ (.int .i64 bas)).setCell ⟨w.heap.size + 1,5,none⟩ (.bool tu)):=((bel_tr hb h1).trans (O1.below (Nat.le_refl _))).trans (O.below (by omega))
 have HP:CoRP w l S p a na ca d nd cd bas tu (.returned (.agg #[.slice (some ⟨g,0,none⟩) m m,.bool p,.slice a na ca,.slice d nd cd,.int .i64 bas,.bool tu])) (((((((w1.setCell ⟨w.heap.size,0,none⟩ (.slice (some ⟨g,0,none⟩) m m)).setCell ⟨w.heap.size + 1,0,none⟩ (.slice (some ⟨g,0,none⟩) m m)).setCell ⟨w.heap.size + 1,1,none⟩ (.bool p)).setCell ⟨w.heap.size + 1,2,none⟩ (.slice a na ca)).setCell ⟨w.heap.size + 1,3,none⟩ (.slice d nd cd)).setCell ⟨w.heap.size + 1,4,none⟩ (.int .i64 bas)).setCell ⟨w.heap.size + 1,5,none⟩ (.bool tu)):=by
  rw [HM.out] at LN hbn ⊢
  exact ⟨g,rfl,LN,hbn⟩
 have k1:=(RA.cell 1).trans (show _ = some (.bool p) from rfl)
 have k2:=(RA.cell 2).trans (show _ = some (.slice a na ca) from rfl)
 have k3:=(RA.cell 3).trans (show _ = some (.slice d nd cd) from rfl)
 have k4:=(RA.cell 4).trans (show _ = some (.int .i64 bas) from rfl)
 have k5:=(RA.cell 5).trans (show _ = some (.bool tu) from rfl)
 have k0:=(RA.cell 0).trans (show _ = some (.slice va vn vc) from rfl)
 have f0:=RA.frozen 0
 have z0:=(RB.cell 0).trans (show _ = some (.slice none 0 0) from rfl)
 have z1:=(RB.cell 1).trans (show _ = some (.bool false) from rfl)
 have z2:=(RB.cell 2).trans (show _ = some (.slice none 0 0) from rfl)
 have z3:=(RB.cell 3).trans (show _ = some (.slice none 0 0) from rfl)
 have z4:=(RB.cell 4).trans (show _ = some (.int .i64 0) from rfl)
 have z5:=(RB.cell 5).trans (show _ = some (.bool false) from rfl)
 have g0:=RB.frozen 0
 have g1:=RB.frozen 1
 have g2:=RB.frozen 2
 have g3:=RB.frozen 3
 have g4:=RB.frozen 4
 have g5:=RB.frozen 5
 have j0:=(RN.cell 0).trans (show _ = some (.slice (some ⟨g,0,none⟩) m m) from rfl)
 have j1:=(RN.cell 1).trans (show _ = some (.bool p) from rfl)
 have j2:=(RN.cell 2).trans (show _ = some (.slice a na ca) from rfl)
 have j3:=(RN.cell 3).trans (show _ = some (.slice d nd cd) from rfl)
 have j4:=(RN.cell 4).trans (show _ = some (.int .i64 bas) from rfl)
 have j5:=(RN.cell 5).trans (show _ = some (.bool tu) from rfl)
 clear LN hbn O O1 hnw1 hnw2 RN RA RB RA2 RB2 R1 RZ L1 h1 hb hs1
 go_wp2
 exact bodyPost_ret (v:=.agg #[.slice (some ⟨g,0,none⟩) m m,.bool p,.slice a na ca,.slice d nd cd,.int .i64 bas,.bool tu]) (by simp [results,Tryz.results162,go_sem,j0,j1,j2,j3,j4,j5]) rfl HP
structure BB (w:World) (F:Nat) (f:Bf) (n:Nat) (X:Nat→RoD) (lc:List (Nat × Rat)) (S Sc:Nat):Prop where
 rw:Rw 66 w f.b #[.int .i64 (n:Nat),f.rv,f.cv]
 r:∃ E,SL w F 72 6 f.rv f.m E∧∀ q,q < f.m→RoC w (E q) (f.V q) (X q) S
 t:∀ q,q < f.m→LnE w F (f.V q) (X q).l S
 c:LnE w F f.cv lc Sc
 ne:∀ i j,i < f.m→j < f.m→i ≠ j→∀ g,(f.V i).ownBlock = some g→(f.V j).ownBlock ≠ some g
 nc:∀ i,i < f.m→∀ g,(f.V i).ownBlock = some g→f.cv.ownBlock ≠ some g
 lo:F≤f.b
theorem BB.lt {w:World} {F:Nat} {f:Bf} {n:Nat} {X:Nat→RoD} {lc:List (Nat × Rat)} {S Sc:Nat} (h:BB w F f n X lc S Sc):∀ k,f.has k→F≤k∧k < w.heap.size:=by
 rintro k (rfl | e | e | ⟨j,hj,e⟩)
 ·exact ⟨h.lo,h.rw.lt⟩
 ·obtain ⟨E,h1,_⟩:=h.r
  exact h1.lt k e
 ·exact h.c.lt k e
 ·exact (h.t j hj).lt k e
theorem BB.below {w w':World} {F:Nat} {f:Bf} {n:Nat} {X:Nat→RoD} {lc:List (Nat × Rat)} {S Sc:Nat} (h:BB w F f n X lc S Sc) (hb:Below w.heap.size w w'):BB w' F f n X lc S Sc:=by
 obtain ⟨E,h1,h2⟩:=h.r
 exact ⟨h.rw.below hb,⟨E,h1.below hb,fun q hq=>(h2 q hq).below hb⟩,fun q hq=>(h.t q hq).below hb,h.c.below hb,h.ne,h.nc,h.lo⟩
theorem BB.addRow {w w6:World} {F:Nat} {f:Bf} {n:Nat} {X:Nat→RoD} {lc:List (Nat × Rat)} {S Sc:Nat} (h:BB w F f n X lc S Sc) {E:Nat→List Value} (hE:SL w F 72 6 f.rv f.m E) (hEE:∀ q,q < f.m→RoC w (E q) (f.V q) (X q) S) {g cap:Nat} {cs:List Value} {v:Value} (hS:SL w6 F 72 6 (.slice (some ⟨g,0,none⟩) (f.m + 1) cap) (f.m + 1) (fun i=>if i < f.m then E i else cs)) (hg:w.grownBy w6 f.rv.ownBlock) (hc:RoC w cs v (X f.m) S) (hl:LnE w F v (X f.m).l S) (hv:∀ k,v.ownBlock = some k→¬ f.has k) :
  BB (w6.setCell ⟨f.b,1,none⟩ (.slice (some ⟨g,0,none⟩) (f.m + 1) cap)) F { f with rv:=.slice (some ⟨g,0,none⟩) (f.m + 1) cap,m:=f.m + 1,V:=fun q=>if q < f.m then f.V q else v } n X lc S Sc∧Off f.b w6 (w6.setCell ⟨f.b,1,none⟩ (.slice (some ⟨g,0,none⟩) (f.m + 1) cap)):=by
 have hn:=hE.noW (show 72 ≠ 93 by decide)
 have hb':Rw 66 w6 f.b #[.int .i64 (n:Nat),f.rv,f.cv]:=h.rw.kept hg (hE.neR h.rw (by decide))
 obtain ⟨hb2,O⟩:=hb'.setK 1 (.slice (some ⟨g,0,none⟩) (f.m + 1) cap)
 have hnb:NoW w6 (some f.b):=hb'.noW (by decide)
 have keepL:∀ (u:Value) (l:List (Nat × Rat)) (T:Nat),LnE w F u l T→LnE (w6.setCell ⟨f.b,1,none⟩ (.slice (some ⟨g,0,none⟩) (f.m + 1) cap)) F u l T:=fun u l T hu=>by
  obtain ⟨D,t1,t2⟩:=hu
  have t3:=t1.kept hg (fun g e e2=>hE.ne2 t1 (by decide) g e2 e)
  exact ⟨D,t3.kept O.grown (fun g e e2=>by cases e2;exact t3.neR hb' (by decide) e),fun i e he=>((t2 i e he).keep hn hg).keep hnb O.grown⟩
 have last:∀ q,q < f.m + 1→¬ q < f.m→q = f.m:=fun q h1 h2=>by omega
 refine ⟨⟨hb2,⟨_,hS.kept O.grown (fun g' e e2=>by cases e2;exact hS.neR hb' (by decide) e),fun q hq=>?_⟩,fun q hq=>?_,keepL _ _ _ h.c,fun a b ha hb hab k=>?_,fun a ha k=>?_,h.lo⟩,O⟩
 ·by_cases e:q < f.m
  ·simp only [e,if_true];exact ((hEE q e).keep hn hg).keep hnb O.grown
  ·rw [last q hq e]
   simp only [Nat.lt_irrefl,if_false];exact (hc.keep hn hg).keep hnb O.grown
 ·by_cases e:q < f.m
  ·simp only [e,if_true];exact keepL _ _ _ (h.t q e)
  ·rw [last q hq e]
   simp only [Nat.lt_irrefl,if_false];exact keepL _ _ _ hl
 ·have ha':a < f.m + 1:=ha
  have hb1:b < f.m + 1:=hb
  by_cases e:a < f.m
  ·by_cases e2:b < f.m
   ·simp only [e,e2,if_true];exact h.ne a b e e2 hab k
   ·simp only [e,e2,if_true,if_false]
    intro e3 e4
    exact hv k e4 (.inr (.inr (.inr ⟨a,e,e3⟩)))
  ·by_cases e2:b < f.m
   ·simp only [e,e2,if_true,if_false]
    intro e3 e4
    exact hv k e3 (.inr (.inr (.inr ⟨b,e2,e4⟩)))
   ·omega
 ·by_cases e:a < f.m
  ·simp only [e,if_true];exact h.nc a e k
  ·simp only [e,if_false]
   intro e3 e4
   exact hv k e3 (.inr (.inr (.inl e4)))
def ClnP (w:World) (m n:Nat) (X:Nat→RoD) (lc:List (Nat × Rat)) (S Sc:Nat) (e:Ending) (w':World):Prop:=∃ f:Bf,e = .returned (.pointer (some ⟨f.b,0,none⟩))∧f.m = m∧BD w' w.heap.size f n X lc S Sc∧Below w.heap.size w w'
end Go.Proofs.YtmpkgpilfcbdnaaGreatDoor

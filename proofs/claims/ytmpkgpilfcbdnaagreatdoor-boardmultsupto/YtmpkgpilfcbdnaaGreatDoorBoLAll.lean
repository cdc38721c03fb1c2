import Derived.Test.YtmpkgpilfcbdnaaGreatDoorBoK
namespace Go.Proofs.YtmpkgpilfcbdnaaGreatDoor
open Go.RowKit
structure RoD where
 l:List (Nat × Rat)
 r:Rat
 bas:Int
 tu:Bool
structure Bf where
 b:Nat
 rv:Value
 m:Nat
 V:Nat→Value
 cv:Value
def Bf.has (f:Bf) (k:Nat):Prop:=k = f.b∨f.rv.ownBlock = some k∨f.cv.ownBlock = some k∨∃ j,j < f.m∧(f.V j).ownBlock = some k
def RoC (w:World) (cs:List Value) (v:Value) (x:RoD) (S:Nat):Prop:=∃ p a na ca d nd cd,cs = [v,.bool p,.slice a na ca,.slice d nd cd,.int .i64 x.bas,.bool x.tu]∧GR w 0 p a na ca d nd cd x.r S
theorem RoC.below {w w':World} {cs:List Value} {v:Value} {x:RoD} {S:Nat} (h:RoC w cs v x S) (hb:Below w.heap.size w w'):RoC w' cs v x S:=by
 obtain ⟨p,a,na,ca,d,nd,cd,e,g⟩:=h
 exact ⟨p,a,na,ca,d,nd,cd,e,g.below hb⟩
theorem RoC.kf {C C':Nat→Prop} {w w':World} {cs:List Value} {v:Value} {x:RoD} {S:Nat} (h:RoC w cs v x S) (hk:KF C C' w w') (hn:NoU w C):RoC w' cs v x S:=by
 obtain ⟨p,a,na,ca,d,nd,cd,e,g⟩:=h
 exact ⟨p,a,na,ca,d,nd,cd,e,g.kf hk hn⟩
theorem RoC.keep {w w':World} {cs:List Value} {v:Value} {x:RoD} {S:Nat} (h:RoC w cs v x S) {row:Option Nat} (hn:NoW w row) (hg:w.grownBy w' row):RoC w' cs v x S:=by
 obtain ⟨p,a,na,ca,d,nd,cd,e,g⟩:=h
 exact ⟨p,a,na,ca,d,nd,cd,e,g.keep hn hg⟩
def RoK (x:RoD) (N:Nat):Prop:=Rise x.l∧Blw x.l N∧-1≤x.bas∧x.bas < (N:Int)
structure BD (w:World) (F:Nat) (f:Bf) (n:Nat) (X:Nat→RoD) (lc:List (Nat × Rat)) (S Sc:Nat):Prop where
 rw:Rw 66 w f.b #[.int .i64 (n:Nat),f.rv,f.cv]
 r:∃ E,SL w F 72 6 f.rv f.m E∧∀ q,q < f.m→RoC w (E q) (f.V q) (X q) S
 t:∀ q,q < f.m→LnE w F (f.V q) (X q).l S
 c:LnE w F f.cv lc Sc
 ne:∀ i j,i < f.m→j < f.m→i ≠ j→∀ g,(f.V i).ownBlock = some g→(f.V j).ownBlock ≠ some g
 nc:∀ i,i < f.m→∀ g,(f.V i).ownBlock = some g→f.cv.ownBlock ≠ some g
 lo:F≤f.b
 k:∀ q,q < f.m→RoK (X q) (n + f.m)
 kc:Rise lc∧Blw lc (n + f.m)
section
variable {w w':World} {F:Nat} {f:Bf} {n:Nat} {X:Nat→RoD} {lc:List (Nat × Rat)} {S Sc:Nat}
theorem BD.lt (h:BD w F f n X lc S Sc):∀ k,f.has k→F≤k∧k < w.heap.size:=by
 rintro k (rfl | e | e | ⟨j,hj,e⟩)
 ·exact ⟨h.lo,h.rw.lt⟩
 ·obtain ⟨E,h1,_⟩:=h.r
  exact h1.lt k e
 ·exact h.c.lt k e
 ·exact (h.t j hj).lt k e
theorem BD.noU (h:BD w F f n X lc S Sc):NoU w f.has:=by
 rintro k (rfl | e | e | ⟨j,hj,e⟩)
 ·exact ⟨_,_,h.rw,by decide⟩
 ·obtain ⟨E,h1,_⟩:=h.r
  obtain ⟨cur,h2⟩:=h1.typ e
  exact ⟨cur,_,h2,by decide⟩
 ·obtain ⟨cur,h2⟩:=h.c.typ e
  exact ⟨cur,_,h2,by decide⟩
 ·obtain ⟨cur,h2⟩:=(h.t j hj).typ e
  exact ⟨cur,_,h2,by decide⟩
theorem BD.below (h:BD w F f n X lc S Sc) (hb:Below w.heap.size w w'):BD w' F f n X lc S Sc:=by
 obtain ⟨E,h1,h2⟩:=h.r
 exact ⟨h.rw.below hb,⟨E,h1.below hb,fun q hq=>(h2 q hq).below hb⟩,fun q hq=>(h.t q hq).below hb,h.c.below hb,h.ne,h.nc,h.lo,h.k,h.kc⟩
theorem BD.kf {C C':Nat→Prop} (h:BD w F f n X lc S Sc) (hk:KF C C' w w') (hn:NoU w C) (hd:∀ k,f.has k→¬ C k):BD w' F f n X lc S Sc:=by
 obtain ⟨E,h1,h2⟩:=h.r
 exact ⟨h.rw.kf hk (hd _ (.inl rfl)),⟨E,h1.kf hk fun g hg=>hd g (.inr (.inl hg)),fun q hq=>(h2 q hq).kf hk hn⟩,fun q hq=>(h.t q hq).kf hk hn fun g hg=>hd g (.inr (.inr (.inr ⟨q,hq,hg⟩))),h.c.kf hk hn fun g hg=>hd g (.inr (.inr (.inl hg))),h.ne,h.nc,h.lo,h.k,h.kc⟩
theorem BD.rlen (h:BD w F f n X lc S Sc):∃ ra rc,f.rv = .slice ra f.m rc∧f.m≤rc:=by
 obtain ⟨E,h1,_⟩:=h.r
 exact h1.form
theorem BD.get (h:BD w F f n X lc S Sc) {i:Nat} (hi:i < f.m):∃ rg rc p a na ca d nd cd,f.rv = .slice (some ⟨rg,0,none⟩) f.m rc∧w.cell? ⟨rg,i * 6,none⟩ = some (f.V i)∧w.cell? ⟨rg,i * 6 + 1,none⟩ = some (.bool p)∧w.cell? ⟨rg,i * 6 + 1 + 1,none⟩ = some (.slice a na ca)∧w.cell? ⟨rg,i * 6 + 1 + 2,none⟩ = some (.slice d nd cd)∧w.cell? ⟨rg,i * 6 + 4,none⟩ = some (.int .i64 (X i).bas)∧w.cell? ⟨rg,i * 6 + 5,none⟩ = some (.bool (X i).tu)∧GR w 0 p a na ca d nd cd (X i).r S:=by
 obtain ⟨ra,rc,e,_⟩:=h.rlen
 obtain ⟨E,h1,h2⟩:=h.r
 rw [e] at h1
 rcases h1.cell with h0 | ⟨rg,rfl,hc⟩
 ·omega
 ·obtain ⟨p,a,na,ca,d,nd,cd,e1,g⟩:=h2 i hi
  have hk:=hc i hi
  rw [e1] at hk
  exact ⟨rg,rc,p,a,na,ca,d,nd,cd,e,hk 0 _ rfl,hk 1 _ rfl,hk 2 _ rfl,hk 3 _ rfl,hk 4 _ rfl,hk 5 _ rfl,g⟩
end
theorem SL.set1 {w:World} {B:Nat} {T:TypeId} {c n cap g:Nat} {E:Nat→List Value} (h:SL w B T c (.slice (some ⟨g,0,none⟩) n cap) n E) {i o:Nat} (hi:i < n) (ho:o < c) (v:Value):SL (w.setCell ⟨g,i * c + o,none⟩ v) B T c (.slice (some ⟨g,0,none⟩) n cap) n (fun q=>if q = i then (E i).set o v else E q) :=
 h.put hi ho (fun q _ hq=>if_neg hq) (fun j u hu=>by
  simp only [if_true] at hu
  rw [List.getElem?_set] at hu
  split at hu
  ·rename_i hj
   split at hu
   ·cases hu;exact .inl ⟨hj.symm,rfl⟩
   ·cases hu
  ·rename_i hj
   exact .inr ⟨fun e=>hj e.symm,hu⟩)
theorem BD.upd {w w':World} {F:Nat} {f:Bf} {n:Nat} {X:Nat→RoD} {lc:List (Nat × Rat)} {S Sc:Nat} (h:BD w F f n X lc S Sc) {rg rc:Nat} (hrv:f.rv = .slice (some ⟨rg,0,none⟩) f.m rc) {i:Nat} (hi:i < f.m) (O:Off rg w w') {E':Nat→List Value} (hE:SL w' F 72 6 f.rv f.m E') {v':Value} {x':RoD} (ho:∀ q,q < f.m→q ≠ i→RoC w (E' q) (f.V q) (X q) S) (hx:RoC w (E' i) v' x' S) (hl:LnE w F v' x'.l S) (hk:RoK x' (n + f.m))
  (hv:∀ g,v'.ownBlock = some g→(∀ j,j < f.m→j ≠ i→(f.V j).ownBlock ≠ some g)∧f.cv.ownBlock ≠ some g):BD w' F { f with V:=fun q=>if q = i then v' else f.V q } n (fun q=>if q = i then x' else X q) lc S Sc:=by
 obtain ⟨E,h1,h2⟩:=h.r
 have hrb:f.rv.ownBlock = some rg:=by rw [hrv];rfl
 obtain ⟨cur,hcur⟩:=h1.typ hrb
 have hn:NoW w (some rg):=fun g e=>by cases e;exact ⟨cur,_,hcur,by decide⟩
 have hg:=O.grown
 have neL:∀ (u:Value) (l:List (Nat × Rat)) (T:Nat),LnE w F u l T→∀ g,u.ownBlock = some g→some rg ≠ some g:=fun u l T hu g e e2=>by
  cases e2
  obtain ⟨cur',h'⟩:=hu.typ e
  rw [hcur] at h'
  simp only [Option.some.injEq,Obj.cells.injEq] at h'
  exact absurd h'.2.1 (by decide)
 have keepL:∀ (u:Value) (l:List (Nat × Rat)) (T:Nat),LnE w F u l T→LnE w' F u l T:=fun u l T hu=>by
  have hne:=neL u l T hu
  obtain ⟨D,s1,s2⟩:=hu
  exact ⟨D,s1.kept hg (fun g e e2=>hne g e e2),fun i e he=>(s2 i e he).keep hn hg⟩
 have hbn:f.b ≠ rg:=fun e=>by
  have h3:=h.rw
  unfold Rw at h3
  rw [e,hcur] at h3
  simp only [Option.some.injEq,Obj.cells.injEq] at h3
  exact absurd h3.2.1 (by decide)
 refine ⟨?_,⟨E',hE,fun q hq=>?_⟩,fun q hq=>?_,keepL _ _ _ h.c,fun a b ha hb hab g=>?_,fun a ha g=>?_,h.lo,fun q hq=>?_,h.kc⟩
 ·exact (O.block f.b hbn).trans h.rw
 ·by_cases e:q = i
  ·subst e;simp only [if_true];exact hx.keep hn hg
  ·simp only [if_neg e];exact (ho q hq e).keep hn hg
 ·by_cases e:q = i
  ·subst e;simp only [if_true];exact keepL _ _ _ hl
  ·simp only [if_neg e];exact keepL _ _ _ (h.t q hq)
 ·by_cases e:a = i
  ·subst e
   simp only [if_true]
   rw [if_neg (Ne.symm hab)]
   intro e1
   exact (hv g e1).1 b hb (Ne.symm hab)
  ·simp only [if_neg e]
   by_cases e2:b = i
   ·subst e2
    simp only [if_true]
    intro e1 e3
    exact (hv g e3).1 a ha hab e1
   ·rw [if_neg e2]
    exact h.ne a b ha hb hab g
 ·by_cases e:a = i
  ·subst e
   simp only [if_true]
   intro e1
   exact (hv g e1).2
  ·simp only [if_neg e]
   exact h.nc a ha g
 ·by_cases e:q = i
  ·subst e;simp only [if_true];exact hk
  ·simp only [if_neg e];exact h.k q hq
theorem upd_self (V:Nat→Value) (i:Nat):(fun q=>if q = i then V i else V q) = V:=by
 funext q
 by_cases e:q = i
 ·subst e;rw [if_pos rfl]
 ·rw [if_neg e]
section
variable {w:World} {F:Nat} {f:Bf} {n:Nat} {X:Nat→RoD} {lc:List (Nat × Rat)} {S Sc:Nat}
theorem BD.putR (h:BD w F f n X lc S Sc) {rg rc:Nat} (hrv:f.rv = .slice (some ⟨rg,0,none⟩) f.m rc) {i:Nat} (hi:i < f.m) {p:Bool} {a:Option Addr} {na ca:Nat} {d:Option Addr} {nd cd:Nat} {r:Rat} (G:GR w 0 p a na ca d nd cd r S) :
  BD (((w.setCell ⟨rg,i * 6 + 1,none⟩ (.bool p)).setCell ⟨rg,i * 6 + 1 + 1,none⟩ (.slice a na ca)).setCell ⟨rg,i * 6 + 1 + 2,none⟩ (.slice d nd cd)) F f n (fun q=>if q = i then { X i with r:=r } else X q) lc S Sc∧Off rg w (((w.setCell ⟨rg,i * 6 + 1,none⟩ (.bool p)).setCell ⟨rg,i * 6 + 1 + 1,none⟩ (.slice a na ca)).setCell ⟨rg,i * 6 + 1 + 2,none⟩ (.slice d nd cd)):=by
 have hO:Off rg w (((w.setCell ⟨rg,i * 6 + 1,none⟩ (.bool p)).setCell ⟨rg,i * 6 + 1 + 1,none⟩ (.slice a na ca)).setCell ⟨rg,i * 6 + 1 + 2,none⟩ (.slice d nd cd)):=(((Off.refl _ _).set _ _).set _ _).set _ _
 refine ⟨?_,hO⟩
 obtain ⟨E,h1,h2⟩:=h.r
 have h1':=h1
 rw [hrv] at h1'
 have s:=((h1'.set1 hi (o:=1) (by decide) (.bool p)).set1 hi (o:=2) (by decide) (.slice a na ca)).set1 hi (o:=3) (by decide) (.slice d nd cd)
 rw [← hrv] at s
 obtain ⟨p0,a0,n0,c0,d0,m0,e0,ecs,_⟩:=h2 i hi
 have hu:=h.upd hrv hi hO s (v':=f.V i) (x':={ X i with r:=r }) (fun q hq hqi=>by simp only [hqi,if_false];exact h2 q hq) (by simp only [if_true];rw [ecs];exact ⟨p,a,na,ca,d,nd,cd,rfl,G⟩) (h.t i hi) (h.k i hi) (fun g hg=>⟨fun j hj hji e=>h.ne i j hi hj (Ne.symm hji) g hg e,h.nc i hi g hg⟩)
 rw [upd_self] at hu
 exact hu
theorem BD.putB (h:BD w F f n X lc S Sc) {rg rc:Nat} (hrv:f.rv = .slice (some ⟨rg,0,none⟩) f.m rc) {i:Nat} (hi:i < f.m) (v:Int) (hv:-1≤v∧v < ((n + f.m:Nat):Int)) :
  BD (w.setCell ⟨rg,i * 6 + 4,none⟩ (.int .i64 v)) F f n (fun q=>if q = i then { X i with bas:=v } else X q) lc S Sc∧Off rg w (w.setCell ⟨rg,i * 6 + 4,none⟩ (.int .i64 v)):=by
 have hO:Off rg w (w.setCell ⟨rg,i * 6 + 4,none⟩ (.int .i64 v)):=(Off.refl _ _).set _ _
 refine ⟨?_,hO⟩
 obtain ⟨E,h1,h2⟩:=h.r
 have h1':=h1
 rw [hrv] at h1'
 have s:=h1'.set1 hi (o:=4) (by decide) (.int .i64 v)
 rw [← hrv] at s
 obtain ⟨p0,a0,n0,c0,d0,m0,e0,ecs,G⟩:=h2 i hi
 have hk:=h.k i hi
 have hu:=h.upd hrv hi hO s (v':=f.V i) (x':={ X i with bas:=v }) (fun q hq hqi=>by simp only [hqi,if_false];exact h2 q hq) (by simp only [if_true];rw [ecs];exact ⟨p0,a0,n0,c0,d0,m0,e0,rfl,G⟩) (h.t i hi) ⟨hk.1,hk.2.1,hv.1,hv.2⟩ (fun g hg=>⟨fun j hj hji e=>h.ne i j hi hj (Ne.symm hji) g hg e,h.nc i hi g hg⟩)
 rw [upd_self] at hu
 exact hu
theorem BD.putN (h:BD w F f n X lc S Sc) {rg rc:Nat} (hrv:f.rv = .slice (some ⟨rg,0,none⟩) f.m rc) {i:Nat} (hi:i < f.m) {v':Value} {l':List (Nat × Rat)} (hl:LnE w F v' l' S) (hr:Rise l'∧Blw l' (n + f.m)) (hv:∀ g,v'.ownBlock = some g→¬ f.has g) :
  BD (w.setCell ⟨rg,i * 6,none⟩ v') F { f with V:=fun q=>if q = i then v' else f.V q } n (fun q=>if q = i then { X i with l:=l' } else X q) lc S Sc∧Off rg w (w.setCell ⟨rg,i * 6,none⟩ v'):=by
 have hO:Off rg w (w.setCell ⟨rg,i * 6,none⟩ v'):=(Off.refl _ _).set _ _
 refine ⟨?_,hO⟩
 obtain ⟨E,h1,h2⟩:=h.r
 have h1':=h1
 rw [hrv] at h1'
 have s:=h1'.set1 hi (o:=0) (by decide) v'
 rw [← hrv] at s
 obtain ⟨p0,a0,n0,c0,d0,m0,e0,ecs,G⟩:=h2 i hi
 have hk:=h.k i hi
 exact h.upd hrv hi hO s (v':=v') (x':={ X i with l:=l' }) (fun q hq hqi=>by simp only [hqi,if_false];exact h2 q hq) (by simp only [if_true];rw [ecs];exact ⟨p0,a0,n0,c0,d0,m0,e0,rfl,G⟩) hl ⟨hr.1,hr.2,hk.2.2.1,hk.2.2.2⟩ (fun g hg=>⟨fun j hj hji e=>hv g hg (.inr (.inr (.inr ⟨j,hj,e⟩))),fun e=>hv g hg (.inr (.inr (.inl e)))⟩)
theorem BD.grow {w':World} (h:BD w F f n X lc S Sc) {i:Nat} (hi:i < f.m) (hg:w.grownBy w' (f.V i).ownBlock) {l':List (Nat × Rat)} (hl:LnE w' F (f.V i) l' S) (hr:Rise l'∧Blw l' (n + f.m)):BD w' F f n (fun q=>if q = i then { X i with l:=l' } else X q) lc S Sc:=by
 obtain ⟨E,h1,h2⟩:=h.r
 obtain ⟨D,s1,_⟩:=h.t i hi
 have hn:=s1.noW (show 88 ≠ 93 by decide)
 refine ⟨h.rw.kept hg (s1.neR h.rw (by decide)),⟨E,h1.kept hg (fun g e e2=>h1.ne2 s1 (by decide) g e e2),fun q hq=>?_⟩,fun q hq=>?_,?_,h.ne,h.nc,h.lo,fun q hq=>?_,h.kc⟩
 ·by_cases e:q = i
  ·subst e;simp only [if_true];exact (h2 q hq).keep hn hg
  ·simp only [if_neg e];exact (h2 q hq).keep hn hg
 ·by_cases e:q = i
  ·subst e;simp only [if_true];exact hl
  ·simp only [if_neg e]
   obtain ⟨D',t1,t2⟩:=h.t q hq
   exact ⟨D',t1.kept hg (fun g e1 e2=>h.ne i q hi hq (Ne.symm e) g e2 e1),fun j x hx=>(t2 j x hx).keep hn hg⟩
 ·obtain ⟨D',t1,t2⟩:=h.c
  exact ⟨D',t1.kept hg (fun g e1 e2=>h.nc i hi g e2 e1),fun j x hx=>(t2 j x hx).keep hn hg⟩
 ·by_cases e:q = i
  ·subst e;simp only [if_true];have hk:=h.k q hq;exact ⟨hr.1,hr.2,hk.2.2.1,hk.2.2.2⟩
  ·simp only [if_neg e];exact h.k q hq
end
theorem off_kf {C C':Nat→Prop} {a b c:World} {g:Nat} (hb:Below a.heap.size a b) (O:Off g b c) (hC:C g) (hs:∀ k,C' k→C k∨a.heap.size≤k):KF C C' a c :=
 ⟨O.os.trans hb.os,O.tape.trans hb.tape,O.output.trans hb.output,Nat.le_trans hb.size (Nat.le_of_eq O.size.symm),fun k hk hn=>(O.block k fun e=>hn (e ▸ hC)).trans (hb.block k hk),hs⟩
end Go.Proofs.YtmpkgpilfcbdnaaGreatDoor
namespace Go.Proofs.YtmpkgpilfcbdnaaGreatDoor
open Go.RowKit
set_option maxRecDepth 100000 in
set_option maxHeartbeats 4000000 in
theorem goneB (g o:Nat) (v:Int) (w:World) (h:w.cell? ⟨g,o + 4,none⟩ = some (.int .i64 v)):Calls Tryz.prog 53 #[.pointer (some ⟨g,o,none⟩)] w fun e w'=>e = .returned (.bool (decide (v = -1)))∧w' = w:=by
 by_cases hv:v = -1
 ·subst hv
  go_enter Tryz.func53,Tryz.ntmps53
  go_wp2
  go_ret
  exact ⟨rfl,rfl⟩
 ·have hv2:(v == -1) = false:=by simpa using hv
  rw [decide_eq_false hv]
  go_enter Tryz.func53,Tryz.ntmps53
  go_wp2
  go_ret
  exact ⟨rfl,rfl⟩
set_option maxRecDepth 100000 in
set_option maxHeartbeats 4000000 in
theorem rowsB {F:Nat} {f:Bf} {n:Nat} {X:Nat→RoD} {lc:List (Nat × Rat)} {S Sc:Nat} (w:World) (h:BD w F f n X lc S Sc):Calls Tryz.prog 19 #[.pointer (some ⟨f.b,0,none⟩)] w fun e w'=>e = .returned (.int .i64 (f.m:Nat))∧w' = w:=by
 obtain ⟨ra,rc,erv,hrc⟩:=h.rlen
 have x0:=(h.rw.cell 0).trans (show _ = some (.int .i64 (n:Nat)) from rfl)
 have x1:=(h.rw.cell 1).trans (show _ = some f.rv from rfl)
 rw [erv] at x1
 go_enter Tryz.func19,Tryz.ntmps19
 go_wp2
 go_ret
 exact ⟨rfl,rfl⟩
set_option maxRecDepth 100000 in
set_option maxHeartbeats 4000000 in
theorem colsB {F:Nat} {f:Bf} {n:Nat} {X:Nat→RoD} {lc:List (Nat × Rat)} {S Sc:Nat} (w:World) (h:BD w F f n X lc S Sc) (hN:n + f.m≤3000000):Calls Tryz.prog 20 #[.pointer (some ⟨f.b,0,none⟩)] w fun e w'=>e = .returned (.int .i64 ((n + f.m:Nat):Int))∧Below w.heap.size w w':=by
 obtain ⟨ra,rc,erv,hrc⟩:=h.rlen
 have x0:=(h.rw.cell 0).trans (show _ = some (.int .i64 (n:Nat)) from rfl)
 have x1:=(h.rw.cell 1).trans (show _ = some f.rv from rfl)
 rw [erv] at x1
 obtain ⟨c,ec⟩:∃ c,c = n + f.m:=⟨_,rfl⟩
 have hcI:(n:Int) + (f.m:Int) = (c:Int):=by omega
 have hcw:IntKind.i64.wrap (c:Int) = (c:Int):=wrap_id c (by omega)
 rw [← ec]
 clear ec hN
 have HBX:∀ w',Below w.heap.size w w'→(w'.cell? ⟨f.b,0,none⟩ = some (.int .i64 (n:Nat))∧w'.cell? ⟨f.b,1,none⟩ = some (.slice ra f.m rc)):=fun w' h=>⟨kept_c h x0,kept_c h x1⟩
 go_enter Tryz.func20,Tryz.ntmps20
 go_wp2_with fail
 refine wp_region_noPanic (wp_region_guardB HBX (by as_aux_lemma=>kernel_rfl) ?_)
 have hc0:Below w.heap.size w w.drew:=bel_d1 _
 generalize w.drew = z0 at *
 refine wpAnyG.tA 0 (v:=.pointer (some ⟨f.b,0,none⟩)) (by decide) 10 (by as_aux_lemma=>kernel_rfl) (by rfl) ?y0 (HBX _ hc0) ?_
 case y0 =>
  rintro w' ⟨q0,q1⟩
  simp only [lgA,lgZ]
  go_simp
 simp only [lgA,lgZ,Act.put,lsA,lsZ,lsS]
 refine wpAnyG.tA 1 (v:=.pointer (some ⟨f.b,0,none⟩)) (by decide) 10 (by as_aux_lemma=>kernel_rfl) (by rfl) ?y1 (HBX _ hc0) ?_
 case y1 =>
  rintro w' ⟨q0,q1⟩
  simp only [lgA,lgZ,lgS]
  go_simp
 simp only [lgA,lgZ,lgS,Act.put,lsA,lsZ,lsS]
 refine wpAnyG.tA 2 (v:=.pointer (some ⟨f.b,0,none⟩)) (by decide) 10 (by as_aux_lemma=>kernel_rfl) (by rfl) ?y2 (HBX _ hc0) ?_
 case y2 =>
  rintro w' ⟨q0,q1⟩
  simp only [lgA,lgZ,lgS]
  go_simp
 simp only [lgA,lgZ,lgS,Act.put,lsA,lsZ,lsS]
 refine wpAnyG.tA 3 (v:=.int .i64 (n:Nat)) (by decide) 10 (by as_aux_lemma=>kernel_rfl) (by rfl) ?y3 (HBX _ hc0) ?_
 case y3 =>
  rintro w' ⟨q0,q1⟩
  simp only [lgA,lgZ,lgS]
  go_simp
 simp only [lgA,lgZ,lgS,Act.put,lsA,lsZ,lsS]
 refine wpAnyG.tA 4 (v:=.pointer (some ⟨f.b,0,none⟩)) (by decide) 10 (by as_aux_lemma=>kernel_rfl) (by rfl) ?y4 (HBX _ hc0) ?_
 case y4 =>
  rintro w' ⟨q0,q1⟩
  simp only [lgA,lgZ,lgS]
  go_simp
 simp only [lgA,lgZ,lgS,Act.put,lsA,lsZ,lsS]
 refine wpAnyG.tA 5 (v:=.pointer (some ⟨f.b,0,none⟩)) (by decide) 10 (by as_aux_lemma=>kernel_rfl) (by rfl) ?y5 (HBX _ hc0) ?_
 case y5 =>
  rintro w' ⟨q0,q1⟩
  simp only [lgA,lgZ,lgS]
  go_simp
 simp only [lgA,lgZ,lgS,Act.put,lsA,lsZ,lsS]
 refine wpAnyG.tA 6 (v:=.pointer (some ⟨f.b,1,none⟩)) (by decide) 10 (by as_aux_lemma=>kernel_rfl) (by rfl) ?y6 (HBX _ hc0) ?_
 case y6 =>
  rintro w' ⟨q0,q1⟩
  simp only [lgA,lgZ,lgS]
  go_simp
 simp only [lgA,lgZ,lgS,Act.put,lsA,lsZ,lsS]
 refine wpAnyG.tA 7 (v:=.slice ra f.m rc) (by decide) 10 (by as_aux_lemma=>kernel_rfl) (by rfl) ?y7 (HBX _ hc0) ?_
 case y7 =>
  rintro w' ⟨q0,q1⟩
  simp only [lgA,lgZ,lgS]
  go_simp
 simp only [lgA,lgZ,lgS,Act.put,lsA,lsZ,lsS]
 refine wpAnyG.tA 8 (v:=.int .i64 (f.m:Nat)) (by decide) 10 (by as_aux_lemma=>kernel_rfl) (by rfl) ?y8 (HBX _ hc0) ?_
 case y8 =>
  rintro w' ⟨q0,q1⟩
  simp only [lgA,lgZ,lgS]
  go_simp
 simp only [lgA,lgZ,lgS,Act.put,lsA,lsZ,lsS]
 refine wpAnyG.tA 9 (v:=.int .i64 (c:Nat)) (by decide) 10 (by as_aux_lemma=>kernel_rfl) (by rfl) ?y9 (HBX _ hc0) ?_
 case y9 =>
  rintro w' ⟨q0,q1⟩
  simp only [lgA,lgZ,lgS]
  go_simp
 simp only [lgA,lgZ,lgS,Act.put,lsA,lsZ,lsS]
 refine wpAnyG.one 10 (by as_aux_lemma=>kernel_rfl) (by decide) (by rfl) (fun K hK=>?_)
 simp only [lgA,lgZ,lgS]
 go_simp
 refine hK _ _ (HBX _ hc0) ?_
 clear hK K
 refine wpAnyG.done (by as_aux_lemma=>kernel_rfl) (NoPanic.normal ?_)
 go_wp2
 go_ret
 exact ⟨rfl,hc0⟩
set_option maxRecDepth 100000 in
set_option maxHeartbeats 4000000 in
theorem isRowB {F:Nat} {f:Bf} {n:Nat} {X:Nat→RoD} {lc:List (Nat × Rat)} {S Sc:Nat} (i:Int) (w:World) (h:BD w F f n X lc S Sc):Calls Tryz.prog 36 #[.pointer (some ⟨f.b,0,none⟩),.int .i64 i] w fun e w'=>e = .returned (.bool (decide (0≤i∧i < (f.m:Int))))∧w' = w:=by
 obtain ⟨ra,rc,erv,hrc⟩:=h.rlen
 have x0:=(h.rw.cell 0).trans (show _ = some (.int .i64 (n:Nat)) from rfl)
 have x1:=(h.rw.cell 1).trans (show _ = some f.rv from rfl)
 rw [erv] at x1
 by_cases h0:0≤i
 ·by_cases h1:i < (f.m:Int)
  ·have hd:decide (0≤i∧i < (f.m:Int)) = true:=decide_eq_true ⟨h0,h1⟩
   rw [hd]
   go_enter Tryz.func36,Tryz.ntmps36
   go_wp2
   go_ret
   exact ⟨rfl,rfl⟩
  ·have hd:decide (0≤i∧i < (f.m:Int)) = false:=decide_eq_false fun h=>h1 h.2
   rw [hd]
   have h1':(f.m:Int)≤i:=by omega
   go_enter Tryz.func36,Tryz.ntmps36
   go_wp2
   go_ret
   exact ⟨rfl,rfl⟩
 ·have hd:decide (0≤i∧i < (f.m:Int)) = false:=decide_eq_false fun h=>h0 h.1
  rw [hd]
  have h1':i < 0:=by omega
  go_enter Tryz.func36,Tryz.ntmps36
  go_wp2
  go_ret
  exact ⟨rfl,rfl⟩
set_option maxRecDepth 100000 in
set_option maxHeartbeats 4000000 in
theorem isColB {F:Nat} {f:Bf} {n:Nat} {X:Nat→RoD} {lc:List (Nat × Rat)} {S Sc:Nat} (j:Int) (w:World) (h:BD w F f n X lc S Sc) (hN:n + f.m≤3000000):Calls Tryz.prog 57 #[.pointer (some ⟨f.b,0,none⟩),.int .i64 j] w fun e w'=>e = .returned (.bool (decide (0≤j∧j < ((n + f.m:Nat):Int))))∧Below w.heap.size w w':=by
 obtain ⟨c,ec⟩:∃ c,c = n + f.m:=⟨_,rfl⟩
 have HC:Hid (c = n + f.m):=ec
 rw [← ec]
 clear ec
 by_cases h0:0≤j
 ·by_cases hj:j < (c:Int)
  ·rw [show decide (0≤j∧j < (c:Int)) = true from decide_eq_true ⟨h0,hj⟩]
   go_enter Tryz.func57,Tryz.ntmps57
   go_wp2_with fail
   refine (colsB w h hN).mono ?_
   rintro e w1 ⟨rfl,h1⟩
   rw [← HC.out]
   go_wp2
   go_ret
   exact ⟨rfl,h1⟩
  ·rw [show decide (0≤j∧j < (c:Int)) = false from decide_eq_false fun h=>hj h.2]
   have hj':(c:Int)≤j:=by omega
   go_enter Tryz.func57,Tryz.ntmps57
   go_wp2_with fail
   refine (colsB w h hN).mono ?_
   rintro e w1 ⟨rfl,h1⟩
   rw [← HC.out]
   go_wp2
   go_ret
   exact ⟨by rw [show decide (j < (c:Int)) = false from decide_eq_false (by omega)];rfl,h1⟩
 ·rw [show decide (0≤j∧j < (c:Int)) = false from decide_eq_false fun h=>h0 h.1]
  have h0':j < 0:=by omega
  go_enter Tryz.func57,Tryz.ntmps57
  go_wp2
  go_ret
  exact ⟨rfl,Below.refl _ _⟩
def thr (X:Nat→RoD) (m:Nat) (i:Int):Bool:=decide (0≤i∧i < (m:Int)) && !decide ((X i.toNat).bas = -1)
set_option maxRecDepth 100000 in
set_option maxHeartbeats 4000000 in
theorem isThereB {F:Nat} {f:Bf} {n:Nat} {X:Nat→RoD} {lc:List (Nat × Rat)} {S Sc:Nat} (i:Int) (w:World) (h:BD w F f n X lc S Sc):Calls Tryz.prog 56 #[.pointer (some ⟨f.b,0,none⟩),.int .i64 i] w fun e w'=>e = .returned (.bool (thr X f.m i))∧w' = w:=by
 by_cases hr:0≤i∧i < (f.m:Int)
 ·obtain ⟨k,rfl⟩:=Int.eq_ofNat_of_zero_le hr.1
  have hk:k < f.m:=by omega
  obtain ⟨rg,rc,p,a,na,ca,d,nd,cd,erv,_,_,_,_,c4,_,_⟩:=h.get hk
  have x1:=(h.rw.cell 1).trans (show _ = some f.rv from rfl)
  rw [erv] at x1
  have hkI:(k:Int) < (f.m:Int):=by omega
  have hk6:(k:Int) * 6 = ((k * 6:Nat):Int):=by omega
  have hd:decide (0≤(k:Int)∧(k:Int) < (f.m:Int)) = true:=decide_eq_true hr
  have ht:thr X f.m (k:Int) = !decide ((X k).bas = -1):=by unfold thr;rw [hd,Int.toNat_natCast];rfl
  rw [ht]
  clear ht
  go_enter Tryz.func56,Tryz.ntmps56
  go_wp2_with fail
  refine (isRowB (k:Int) w h).mono ?_
  rintro e w1 ⟨rfl,rfl⟩
  rw [hd]
  go_wp2_with fail
  refine (goneB rg (k * 6) (X k).bas w1 c4).mono ?_
  rintro e w2 ⟨rfl,rfl⟩
  go_wp2
  go_ret
  exact ⟨rfl,rfl⟩
 ·have hd:decide (0≤i∧i < (f.m:Int)) = false:=decide_eq_false hr
  have ht:thr X f.m i = false:=by unfold thr;rw [hd];rfl
  rw [ht]
  go_enter Tryz.func56,Tryz.ntmps56
  go_wp2_with fail
  refine (isRowB i w h).mono ?_
  rintro e w1 ⟨rfl,rfl⟩
  rw [hd]
  go_wp2
  go_ret
  exact ⟨rfl,rfl⟩
def bat (X:Nat→RoD) (m:Nat) (i j:Int):Rat:=if 0≤i∧i < (m:Int) then latI (X i.toNat).l j else 0
def brt (X:Nat→RoD) (m:Nat) (i:Int):Rat:=if 0≤i∧i < (m:Int) then (X i.toNat).r else 0
def btu (X:Nat→RoD) (m:Nat) (i:Int):Bool:=if 0≤i∧i < (m:Int) then (X i.toNat).tu else false
set_option maxRecDepth 100000 in
set_option maxHeartbeats 4000000 in
theorem atBB {F:Nat} {f:Bf} {n:Nat} {X:Nat→RoD} {lc:List (Nat × Rat)} {S Sc:Nat} (i j:Int) (w:World) (h:BD w F f n X lc S Sc) (hN:n + f.m≤3000000) (hS:1≤S∧S≤7000000) (hT:TB w):Calls Tryz.prog 27 #[.pointer (some ⟨f.b,0,none⟩),.int .i64 i,.int .i64 j] w fun e w'=>∃ f1 c1 n1 k1 c2 n2 k2,e = .returned (.agg #[.bool f1,.slice c1 n1 k1,.slice c2 n2 k2])∧GR w' w.heap.size f1 c1 n1 k1 c2 n2 k2 (bat X f.m i j) S∧Below w.heap.size w w':=by
 have R0:=var3_new w (.bool false) (.slice none 0 0) (.slice none 0 0) 29
 have hb0:=bel_d0 w (.cells #[.bool false,.slice none 0 0,.slice none 0 0] 29)
 have hsz:w.heap.size + 1≤(w.alloc (.cells #[.bool false,.slice none 0 0,.slice none 0 0] 29)).heap.size:=by simp
 have h0:=h.below hb0
 by_cases hr:0≤i∧i < (f.m:Int)
 ·obtain ⟨k,rfl⟩:=Int.eq_ofNat_of_zero_le hr.1
  have hk:k < f.m:=by omega
  obtain ⟨rg,rc,p,a,na,ca,d,nd,cd,erv,y0,y1,y2,y3,_,_,G⟩:=h0.get hk
  have x1:=(h0.rw.cell 1).trans (show _ = some f.rv from rfl)
  rw [erv] at x1
  have hkI:(k:Int) < (f.m:Int):=by omega
  have hk6:(k:Int) * 6 = ((k * 6:Nat):Int):=by omega
  have hd:decide (0≤(k:Int)∧(k:Int) < (f.m:Int)) = true:=decide_eq_true hr
  have ht:bat X f.m (k:Int) j = latI (X k).l j:=by unfold bat;rw [if_pos hr,Int.toNat_natCast]
  rw [ht]
  have hT0:=hT.below hb0
  clear ht
  have LK:=h0.t k hk
  obtain ⟨va,vc,eva,_⟩:=LK.form
  have hkk:=h0.k k hk
  have hlen:=hkk.1.len _ hkk.2.1
  rw [eva] at LK y0
  go_enter Tryz.func27,Tryz.ntmps27
  go_wp2_with fail
  generalize w.alloc (.cells #[.bool false,.slice none 0 0,.slice none 0 0] 29) = W0 at *
  refine (isRowB (k:Int) W0 h0).mono ?_
  rintro e w1 ⟨rfl,rfl⟩
  rw [hd]
  go_wp2_with fail
  refine (atB j w1 LK hkk.1 (by omega)).mono ?_
  rintro e w2 ⟨q,u,nu,cu,v,nv,cv,rfl,Z,hb2⟩
  go_wp2_with fail
  refine (normR w2 Z.tr hS.2 hS.1 (hT0.below hb2)).mono ?_
  rintro e w3 ⟨f5,c5,n5,k5,d5,m5,l5,rfl,G5,hx⟩
  have hb3:=bel_tr hb2 hx
  have hs2:=hb2.size
  replace R0:=R0.below hb3
  replace hb0:=bel_tr hb0 hb3
  obtain ⟨r0c0,r0c1,r0c2,r0c3,r0c4,r0c5⟩:=id R0
  obtain ⟨RN,O⟩:=R0.set (.bool f5) (.slice c5 n5 k5) (.slice d5 m5 l5)
  have GN:=((G5.mono (B':=w.heap.size + 1) (by omega)).off O (by omega)).mono (B':=w.heap.size) (by omega)
  have BN:=hb0.trans (O.below (Nat.le_refl _))
  clear h0 h y0 y1 y2 y3 x1 G hT0 hT
  go_wp2
  exact bodyPost_ret (v:=.agg #[.bool f5,.slice c5 n5 k5,.slice d5 m5 l5]) (by simp [results,Tryz.results27,go_sem,RN.c0,RN.c1,RN.c2]) rfl ⟨_,_,_,_,_,_,_,rfl,GN,BN⟩
 ·have hd:decide (0≤i∧i < (f.m:Int)) = false:=decide_eq_false hr
  have ht:bat X f.m i j = ((0:Int):Rat):=by unfold bat;rw [if_neg hr];rfl
  rw [ht]
  go_enter Tryz.func27,Tryz.ntmps27
  go_wp2_with fail
  generalize w.alloc (.cells #[.bool false,.slice none 0 0,.slice none 0 0] 29) = W0 at *
  refine (isRowB i W0 h0).mono ?_
  rintro e w1 ⟨rfl,rfl⟩
  rw [hd]
  go_wp2_with fail
  refine (ofQ 0 w1 (by decide) (by decide)).mono ?_
  rintro e w3 ⟨f5,c5,n5,k5,d5,m5,l5,rfl,G5,hx⟩
  replace G5:=(G5.mono (B':=w.heap.size + 1) hsz).le hS.1
  replace R0:=R0.below hx
  replace hb0:=bel_tr hb0 hx
  obtain ⟨r0c0,r0c1,r0c2,r0c3,r0c4,r0c5⟩:=id R0
  obtain ⟨RN,O⟩:=R0.set (.bool f5) (.slice c5 n5 k5) (.slice d5 m5 l5)
  have GN:=(G5.off O (by omega)).mono (B':=w.heap.size) (by omega)
  have BN:=hb0.trans (O.below (Nat.le_refl _))
  clear hx h0 h
  go_wp2
  exact bodyPost_ret (v:=.agg #[.bool f5,.slice c5 n5 k5,.slice d5 m5 l5]) (by simp [results,Tryz.results27,go_sem,RN.c0,RN.c1,RN.c2]) rfl ⟨_,_,_,_,_,_,_,rfl,GN,BN⟩
set_option maxRecDepth 100000 in
set_option maxHeartbeats 4000000 in
theorem rightB {F:Nat} {f:Bf} {n:Nat} {X:Nat→RoD} {lc:List (Nat × Rat)} {S Sc:Nat} (i:Int) (w:World) (h:BD w F f n X lc S Sc) (hS:1≤S∧S≤7000000) (hT:TB w):Calls Tryz.prog 26 #[.pointer (some ⟨f.b,0,none⟩),.int .i64 i] w fun e w'=>∃ f1 c1 n1 k1 c2 n2 k2,e = .returned (.agg #[.bool f1,.slice c1 n1 k1,.slice c2 n2 k2])∧GR w' w.heap.size f1 c1 n1 k1 c2 n2 k2 (brt X f.m i) S∧Below w.heap.size w w':=by
 have R0:=var3_new w (.bool false) (.slice none 0 0) (.slice none 0 0) 29
 have hb0:=bel_d0 w (.cells #[.bool false,.slice none 0 0,.slice none 0 0] 29)
 have hsz:w.heap.size + 1≤(w.alloc (.cells #[.bool false,.slice none 0 0,.slice none 0 0] 29)).heap.size:=by simp
 have h0:=h.below hb0
 by_cases hr:0≤i∧i < (f.m:Int)
 ·obtain ⟨k,rfl⟩:=Int.eq_ofNat_of_zero_le hr.1
  have hk:k < f.m:=by omega
  obtain ⟨rg,rc,p,a,na,ca,d,nd,cd,erv,y0,y1,y2,y3,_,_,G⟩:=h0.get hk
  have x1:=(h0.rw.cell 1).trans (show _ = some f.rv from rfl)
  rw [erv] at x1
  have hkI:(k:Int) < (f.m:Int):=by omega
  have hk6:(k:Int) * 6 = ((k * 6:Nat):Int):=by omega
  have hd:decide (0≤(k:Int)∧(k:Int) < (f.m:Int)) = true:=decide_eq_true hr
  have ht:brt X f.m (k:Int) = (X k).r:=by unfold brt;rw [if_pos hr,Int.toNat_natCast]
  rw [ht]
  have hT0:=hT.below hb0
  clear ht
  go_enter Tryz.func26,Tryz.ntmps26
  go_wp2_with fail
  generalize w.alloc (.cells #[.bool false,.slice none 0 0,.slice none 0 0] 29) = W0 at *
  refine (isRowB (k:Int) W0 h0).mono ?_
  rintro e w1 ⟨rfl,rfl⟩
  rw [hd]
  go_wp2_with fail
  refine (normR w1 G.tr hS.2 hS.1 hT0).mono ?_
  rintro e w3 ⟨f5,c5,n5,k5,d5,m5,l5,rfl,G5,hb3⟩
  replace R0:=R0.below hb3
  replace hb0:=bel_tr hb0 hb3
  obtain ⟨r0c0,r0c1,r0c2,r0c3,r0c4,r0c5⟩:=id R0
  obtain ⟨RN,O⟩:=R0.set (.bool f5) (.slice c5 n5 k5) (.slice d5 m5 l5)
  have GN:=((G5.mono (B':=w.heap.size + 1) (by omega)).off O (by omega)).mono (B':=w.heap.size) (by omega)
  have BN:=hb0.trans (O.below (Nat.le_refl _))
  clear h0 h y0 y1 y2 y3 x1 G hT0 hT
  go_wp2
  exact bodyPost_ret (v:=.agg #[.bool f5,.slice c5 n5 k5,.slice d5 m5 l5]) (by simp [results,Tryz.results26,go_sem,RN.c0,RN.c1,RN.c2]) rfl ⟨_,_,_,_,_,_,_,rfl,GN,BN⟩
 ·have hd:decide (0≤i∧i < (f.m:Int)) = false:=decide_eq_false hr
  have ht:brt X f.m i = ((0:Int):Rat):=by unfold brt;rw [if_neg hr];rfl
  rw [ht]
  go_enter Tryz.func26,Tryz.ntmps26
  go_wp2_with fail
  generalize w.alloc (.cells #[.bool false,.slice none 0 0,.slice none 0 0] 29) = W0 at *
  refine (isRowB i W0 h0).mono ?_
  rintro e w1 ⟨rfl,rfl⟩
  rw [hd]
  go_wp2_with fail
  refine (ofQ 0 w1 (by decide) (by decide)).mono ?_
  rintro e w3 ⟨f5,c5,n5,k5,d5,m5,l5,rfl,G5,hx⟩
  replace G5:=(G5.mono (B':=w.heap.size + 1) hsz).le hS.1
  replace R0:=R0.below hx
  replace hb0:=bel_tr hb0 hx
  obtain ⟨r0c0,r0c1,r0c2,r0c3,r0c4,r0c5⟩:=id R0
  obtain ⟨RN,O⟩:=R0.set (.bool f5) (.slice c5 n5 k5) (.slice d5 m5 l5)
  have GN:=(G5.off O (by omega)).mono (B':=w.heap.size) (by omega)
  have BN:=hb0.trans (O.below (Nat.le_refl _))
  clear hx h0 h
  go_wp2
  exact bodyPost_ret (v:=.agg #[.bool f5,.slice c5 n5 k5,.slice d5 m5 l5]) (by simp [results,Tryz.results26,go_sem,RN.c0,RN.c1,RN.c2]) rfl ⟨_,_,_,_,_,_,_,rfl,GN,BN⟩
set_option maxRecDepth 100000 in
set_option maxHeartbeats 4000000 in
theorem turnedB {F:Nat} {f:Bf} {n:Nat} {X:Nat→RoD} {lc:List (Nat × Rat)} {S Sc:Nat} (i:Int) (w:World) (h:BD w F f n X lc S Sc):Calls Tryz.prog 21 #[.pointer (some ⟨f.b,0,none⟩),.int .i64 i] w fun e w'=>e = .returned (.bool (btu X f.m i))∧w' = w:=by
 by_cases hr:0≤i∧i < (f.m:Int)
 ·obtain ⟨k,rfl⟩:=Int.eq_ofNat_of_zero_le hr.1
  have hk:k < f.m:=by omega
  obtain ⟨rg,rc,p,a,na,ca,d,nd,cd,erv,_,_,_,_,_,c5,_⟩:=h.get hk
  have x1:=(h.rw.cell 1).trans (show _ = some f.rv from rfl)
  rw [erv] at x1
  have hkI:(k:Int) < (f.m:Int):=by omega
  have hk6:(k:Int) * 6 = ((k * 6:Nat):Int):=by omega
  have hd:decide (0≤(k:Int)∧(k:Int) < (f.m:Int)) = true:=decide_eq_true hr
  have ht:btu X f.m (k:Int) = (X k).tu:=by unfold btu;rw [if_pos hr,Int.toNat_natCast]
  rw [ht]
  clear ht
  go_enter Tryz.func21,Tryz.ntmps21
  go_wp2_with fail
  refine (isRowB (k:Int) w h).mono ?_
  rintro e w1 ⟨rfl,rfl⟩
  rw [hd]
  go_wp2
  go_ret
  exact ⟨rfl,rfl⟩
 ·have hd:decide (0≤i∧i < (f.m:Int)) = false:=decide_eq_false hr
  have ht:btu X f.m i = false:=by unfold btu;rw [if_neg hr]
  rw [ht]
  go_enter Tryz.func21,Tryz.ntmps21
  go_wp2_with fail
  refine (isRowB i w h).mono ?_
  rintro e w1 ⟨rfl,rfl⟩
  rw [hd]
  go_wp2
  go_ret
  exact ⟨rfl,rfl⟩
end Go.Proofs.YtmpkgpilfcbdnaaGreatDoor

import Derived.Test.YtjiodidemimgmaaGreatDoorBoK
namespace Go.Proofs.YtjiodidemimgmaaGreatDoor
open Go.RowKit
structure RoD where
 l:List (Nat × Rat)
 r:Rat
 bas:Int
 tu:Bool
structure Bf where
 b:Nat
 rv:Value
 m:Nat
 V:Nat→Value
 cv:Value
def Bf.has (f:Bf) (k:Nat):Prop:=k = f.b∨f.rv.ownBlock = some k∨f.cv.ownBlock = some k∨∃ j,j < f.m∧(f.V j).ownBlock = some k
def RoC (w:World) (cs:List Value) (v:Value) (x:RoD) (S:Nat):Prop:=∃ p a na ca d nd cd,cs = [v,.bool p,.slice a na ca,.slice d nd cd,.int .i64 x.bas,.bool x.tu]∧GR w 0 p a na ca d nd cd x.r S
theorem RoC.below {w w':World} {cs:List Value} {v:Value} {x:RoD} {S:Nat} (h:RoC w cs v x S) (hb:Below w.heap.size w w'):RoC w' cs v x S:=by
 obtain ⟨p,a,na,ca,d,nd,cd,e,g⟩:=h
 exact ⟨p,a,na,ca,d,nd,cd,e,g.below hb⟩
theorem RoC.keep {w w':World} {cs:List Value} {v:Value} {x:RoD} {S:Nat} (h:RoC w cs v x S) {row:Option Nat} (hn:NoW w row) (hg:w.grownBy w' row):RoC w' cs v x S:=by
 obtain ⟨p,a,na,ca,d,nd,cd,e,g⟩:=h
 exact ⟨p,a,na,ca,d,nd,cd,e,g.keep hn hg⟩
def RoK (x:RoD) (N:Nat):Prop:=Rise x.l∧Blw x.l N∧-1≤x.bas∧x.bas < (N:Int)
structure BD (w:World) (F:Nat) (f:Bf) (n:Nat) (X:Nat→RoD) (lc:List (Nat × Rat)) (S Sc:Nat):Prop where
 rw:Rw 70 w f.b #[.int .i64 (n:Nat),f.rv,f.cv]
 r:∃ E,SL w F 67 6 f.rv f.m E∧∀ q,q < f.m→RoC w (E q) (f.V q) (X q) S
 t:∀ q,q < f.m→LnE w F (f.V q) (X q).l S
 c:LnE w F f.cv lc Sc
 ne:∀ i j,i < f.m→j < f.m→i ≠ j→∀ g,(f.V i).ownBlock = some g→(f.V j).ownBlock ≠ some g
 nc:∀ i,i < f.m→∀ g,(f.V i).ownBlock = some g→f.cv.ownBlock ≠ some g
 lo:F≤f.b
 k:∀ q,q < f.m→RoK (X q) (n + f.m)
 kc:Rise lc∧Blw lc (n + f.m)
section
variable {w w':World} {F:Nat} {f:Bf} {n:Nat} {X:Nat→RoD} {lc:List (Nat × Rat)} {S Sc:Nat}
theorem BD.lt (h:BD w F f n X lc S Sc):∀ k,f.has k→F≤k∧k < w.heap.size:=by
 rintro k (rfl | e | e | ⟨j,hj,e⟩)
 ·exact ⟨h.lo,h.rw.lt⟩
 ·obtain ⟨E,h1,_⟩:=h.r
  exact h1.lt k e
 ·exact h.c.lt k e
 ·exact (h.t j hj).lt k e
theorem BD.noU (h:BD w F f n X lc S Sc):NoU w f.has:=by
 rintro k (rfl | e | e | ⟨j,hj,e⟩)
 ·exact ⟨_,_,h.rw,by decide⟩
 ·obtain ⟨E,h1,_⟩:=h.r
  obtain ⟨cur,h2⟩:=h1.typ e
  exact ⟨cur,_,h2,by decide⟩
 ·obtain ⟨cur,h2⟩:=h.c.typ e
  exact ⟨cur,_,h2,by decide⟩
 ·obtain ⟨cur,h2⟩:=(h.t j hj).typ e
  exact ⟨cur,_,h2,by decide⟩
theorem BD.below (h:BD w F f n X lc S Sc) (hb:Below w.heap.size w w'):BD w' F f n X lc S Sc:=by
 obtain ⟨E,h1,h2⟩:=h.r
 exact ⟨h.rw.below hb,⟨E,h1.below hb,fun q hq=>(h2 q hq).below hb⟩,fun q hq=>(h.t q hq).below hb,h.c.below hb,h.ne,h.nc,h.lo,h.k,h.kc⟩
theorem BD.rlen (h:BD w F f n X lc S Sc):∃ ra rc,f.rv = .slice ra f.m rc∧f.m≤rc:=by
 obtain ⟨E,h1,_⟩:=h.r
 exact h1.form
theorem BD.get (h:BD w F f n X lc S Sc) {i:Nat} (hi:i < f.m):∃ rg rc p a na ca d nd cd,f.rv = .slice (some ⟨rg,0,none⟩) f.m rc∧w.cell? ⟨rg,i * 6,none⟩ = some (f.V i)∧w.cell? ⟨rg,i * 6 + 1,none⟩ = some (.bool p)∧w.cell? ⟨rg,i * 6 + 1 + 1,none⟩ = some (.slice a na ca)∧w.cell? ⟨rg,i * 6 + 1 + 2,none⟩ = some (.slice d nd cd)∧w.cell? ⟨rg,i * 6 + 4,none⟩ = some (.int .i64 (X i).bas)∧w.cell? ⟨rg,i * 6 + 5,none⟩ = some (.bool (X i).tu)∧GR w 0 p a na ca d nd cd (X i).r S:=by
 obtain ⟨ra,rc,e,_⟩:=h.rlen
 obtain ⟨E,h1,h2⟩:=h.r
 rw [e] at h1
 rcases h1.cell with h0 | ⟨rg,rfl,hc⟩
 ·omega
 ·obtain ⟨p,a,na,ca,d,nd,cd,e1,g⟩:=h2 i hi
  have hk:=hc i hi
  rw [e1] at hk
  exact ⟨rg,rc,p,a,na,ca,d,nd,cd,e,hk 0 _ rfl,hk 1 _ rfl,hk 2 _ rfl,hk 3 _ rfl,hk 4 _ rfl,hk 5 _ rfl,g⟩
end
theorem SL.set1 {w:World} {B:Nat} {T:TypeId} {c n cap g:Nat} {E:Nat→List Value} (h:SL w B T c (.slice (some ⟨g,0,none⟩) n cap) n E) {i o:Nat} (hi:i < n) (ho:o < c) (v:Value):SL (w.setCell ⟨g,i * c + o,none⟩ v) B T c (.slice (some ⟨g,0,none⟩) n cap) n (fun q=>if q = i then (E i).set o v else E q) :=
 h.put hi ho (fun q _ hq=>if_neg hq) (fun j u hu=>by
  simp only [if_true] at hu
  rw [List.getElem?_set] at hu
  split at hu
  ·rename_i hj
   split at hu
   ·cases hu;exact .inl ⟨hj.symm,rfl⟩
   ·cases hu
  ·rename_i hj
   exact .inr ⟨fun e=>hj e.symm,hu⟩)
theorem BD.upd {w w':World} {F:Nat} {f:Bf} {n:Nat} {X:Nat→RoD} {lc:List (Nat × Rat)} {S Sc:Nat} (h:BD w F f n X lc S Sc) {rg rc:Nat} (hrv:f.rv = .slice (some ⟨rg,0,none⟩) f.m rc) {i:Nat} (hi:i < f.m) (O:Off rg w w') {E':Nat→List Value} (hE:SL w' F 67 6 f.rv f.m E') {v':Value} {x':RoD} (ho:∀ q,q < f.m→q ≠ i→RoC w (E' q) (f.V q) (X q) S) (hx:RoC w (E' i) v' x' S) (hl:LnE w F v' x'.l S) (hk:RoK x' (n + f.m))
  (hv:∀ g,v'.ownBlock = some g→(∀ j,j < f.m→j ≠ i→(f.V j).ownBlock ≠ some g)∧f.cv.ownBlock ≠ some g):BD w' F { f with V:=fun q=>if q = i then v' else f.V q } n (fun q=>if q = i then x' else X q) lc S Sc:=by
 obtain ⟨E,h1,h2⟩:=h.r
 have hrb:f.rv.ownBlock = some rg:=by rw [hrv];rfl
 obtain ⟨cur,hcur⟩:=h1.typ hrb
 have hn:NoW w (some rg):=fun g e=>by cases e;exact ⟨cur,_,hcur,by decide⟩
 have hg:=O.grown
 have neL:∀ (u:Value) (l:List (Nat × Rat)) (T:Nat),LnE w F u l T→∀ g,u.ownBlock = some g→some rg ≠ some g:=fun u l T hu g e e2=>by
  cases e2
  obtain ⟨cur',h'⟩:=hu.typ e
  rw [hcur] at h'
  simp only [Option.some.injEq,Obj.cells.injEq] at h'
  exact absurd h'.2.1 (by decide)
 have keepL:∀ (u:Value) (l:List (Nat × Rat)) (T:Nat),LnE w F u l T→LnE w' F u l T:=fun u l T hu=>by
  have hne:=neL u l T hu
  obtain ⟨D,s1,s2⟩:=hu
  exact ⟨D,s1.kept hg (fun g e e2=>hne g e e2),fun i e he=>(s2 i e he).keep hn hg⟩
 have hbn:f.b ≠ rg:=fun e=>by
  have h3:=h.rw
  unfold Rw at h3
  rw [e,hcur] at h3
  simp only [Option.some.injEq,Obj.cells.injEq] at h3
  exact absurd h3.2.1 (by decide)
 refine ⟨?_,⟨E',hE,fun q hq=>?_⟩,fun q hq=>?_,keepL _ _ _ h.c,fun a b ha hb hab g=>?_,fun a ha g=>?_,h.lo,fun q hq=>?_,h.kc⟩
 ·exact (O.block f.b hbn).trans h.rw
 ·by_cases e:q = i
  ·subst e;simp only [if_true];exact hx.keep hn hg
  ·simp only [if_neg e];exact (ho q hq e).keep hn hg
 ·by_cases e:q = i
  ·subst e;simp only [if_true];exact keepL _ _ _ hl
  ·simp only [if_neg e];exact keepL _ _ _ (h.t q hq)
 ·by_cases e:a = i
  ·subst e
   simp only [if_true]
   rw [if_neg (Ne.symm hab)]
   intro e1
   exact (hv g e1).1 b hb (Ne.symm hab)
  ·simp only [if_neg e]
   by_cases e2:b = i
   ·subst e2
    simp only [if_true]
    intro e1 e3
    exact (hv g e3).1 a ha hab e1
   ·rw [if_neg e2]
    exact h.ne a b ha hb hab g
 ·by_cases e:a = i
  ·subst e
   simp only [if_true]
   intro e1
   exact (hv g e1).2
  ·simp only [if_neg e]
   exact h.nc a ha g
 ·by_cases e:q = i
  ·subst e;simp only [if_true];exact hk
  ·simp only [if_neg e];exact h.k q hq
theorem upd_self (V:Nat→Value) (i:Nat):(fun q=>if q = i then V i else V q) = V:=by
 funext q
 by_cases e:q = i
 ·subst e;rw [if_pos rfl]
 ·rw [if_neg e]
section
variable {w:World} {F:Nat} {f:Bf} {n:Nat} {X:Nat→RoD} {lc:List (Nat × Rat)} {S Sc:Nat}
theorem BD.putR (h:BD w F f n X lc S Sc) {rg rc:Nat} (hrv:f.rv = .slice (some ⟨rg,0,none⟩) f.m rc) {i:Nat} (hi:i < f.m) {p:Bool} {a:Option Addr} {na ca:Nat} {d:Option Addr} {nd cd:Nat} {r:Rat} (G:GR w 0 p a na ca d nd cd r S) :
  BD (((w.setCell ⟨rg,i * 6 + 1,none⟩ (.bool p)).setCell ⟨rg,i * 6 + 1 + 1,none⟩ (.slice a na ca)).setCell ⟨rg,i * 6 + 1 + 2,none⟩ (.slice d nd cd)) F f n (fun q=>if q = i then { X i with r:=r } else X q) lc S Sc∧Off rg w (((w.setCell ⟨rg,i * 6 + 1,none⟩ (.bool p)).setCell ⟨rg,i * 6 + 1 + 1,none⟩ (.slice a na ca)).setCell ⟨rg,i * 6 + 1 + 2,none⟩ (.slice d nd cd)):=by
 have hO:Off rg w (((w.setCell ⟨rg,i * 6 + 1,none⟩ (.bool p)).setCell ⟨rg,i * 6 + 1 + 1,none⟩ (.slice a na ca)).setCell ⟨rg,i * 6 + 1 + 2,none⟩ (.slice d nd cd)):=(((Off.refl _ _).set _ _).set _ _).set _ _
 refine ⟨?_,hO⟩
 obtain ⟨E,h1,h2⟩:=h.r
 have h1':=h1
 rw [hrv] at h1'
 have s:=((h1'.set1 hi (o:=1) (by decide) (.bool p)).set1 hi (o:=2) (by decide) (.slice a na ca)).set1 hi (o:=3) (by decide) (.slice d nd cd)
 rw [← hrv] at s
 obtain ⟨p0,a0,n0,c0,d0,m0,e0,ecs,_⟩:=h2 i hi
 have hu:=h.upd hrv hi hO s (v':=f.V i) (x':={ X i with r:=r }) (fun q hq hqi=>by simp only [hqi,if_false];exact h2 q hq) (by simp only [if_true];rw [ecs];exact ⟨p,a,na,ca,d,nd,cd,rfl,G⟩) (h.t i hi) (h.k i hi) (fun g hg=>⟨fun j hj hji e=>h.ne i j hi hj (Ne.symm hji) g hg e,h.nc i hi g hg⟩)
 rw [upd_self] at hu
 exact hu
theorem BD.putB (h:BD w F f n X lc S Sc) {rg rc:Nat} (hrv:f.rv = .slice (some ⟨rg,0,none⟩) f.m rc) {i:Nat} (hi:i < f.m) (v:Int) (hv:-1≤v∧v < ((n + f.m:Nat):Int)) :
  BD (w.setCell ⟨rg,i * 6 + 4,none⟩ (.int .i64 v)) F f n (fun q=>if q = i then { X i with bas:=v } else X q) lc S Sc∧Off rg w (w.setCell ⟨rg,i * 6 + 4,none⟩ (.int .i64 v)):=by
 have hO:Off rg w (w.setCell ⟨rg,i * 6 + 4,none⟩ (.int .i64 v)):=(Off.refl _ _).set _ _
 refine ⟨?_,hO⟩
 obtain ⟨E,h1,h2⟩:=h.r
 have h1':=h1
 rw [hrv] at h1'
 have s:=h1'.set1 hi (o:=4) (by decide) (.int .i64 v)
 rw [← hrv] at s
 obtain ⟨p0,a0,n0,c0,d0,m0,e0,ecs,G⟩:=h2 i hi
 have hk:=h.k i hi
 have hu:=h.upd hrv hi hO s (v':=f.V i) (x':={ X i with bas:=v }) (fun q hq hqi=>by simp only [hqi,if_false];exact h2 q hq) (by simp only [if_true];rw [ecs];exact ⟨p0,a0,n0,c0,d0,m0,e0,rfl,G⟩) (h.t i hi) ⟨hk.1,hk.2.1,hv.1,hv.2⟩ (fun g hg=>⟨fun j hj hji e=>h.ne i j hi hj (Ne.symm hji) g hg e,h.nc i hi g hg⟩)
 rw [upd_self] at hu
 exact hu
theorem BD.putN (h:BD w F f n X lc S Sc) {rg rc:Nat} (hrv:f.rv = .slice (some ⟨rg,0,none⟩) f.m rc) {i:Nat} (hi:i < f.m) {v':Value} {l':List (Nat × Rat)} (hl:LnE w F v' l' S) (hr:Rise l'∧Blw l' (n + f.m)) (hv:∀ g,v'.ownBlock = some g→¬ f.has g) :
  BD (w.setCell ⟨rg,i * 6,none⟩ v') F { f with V:=fun q=>if q = i then v' else f.V q } n (fun q=>if q = i then { X i with l:=l' } else X q) lc S Sc∧Off rg w (w.setCell ⟨rg,i * 6,none⟩ v'):=by
 have hO:Off rg w (w.setCell ⟨rg,i * 6,none⟩ v'):=(Off.refl _ _).set _ _
 refine ⟨?_,hO⟩
 obtain ⟨E,h1,h2⟩:=h.r
 have h1':=h1
 rw [hrv] at h1'
 have s:=h1'.set1 hi (o:=0) (by decide) v'
 rw [← hrv] at s
 obtain ⟨p0,a0,n0,c0,d0,m0,e0,ecs,G⟩:=h2 i hi
 have hk:=h.k i hi
 exact h.upd hrv hi hO s (v':=v') (x':={ X i with l:=l' }) (fun q hq hqi=>by simp only [hqi,if_false];exact h2 q hq) (by simp only [if_true];rw [ecs];exact ⟨p0,a0,n0,c0,d0,m0,e0,rfl,G⟩) hl ⟨hr.1,hr.2,hk.2.2.1,hk.2.2.2⟩ (fun g hg=>⟨fun j hj hji e=>hv g hg (.inr (.inr (.inr ⟨j,hj,e⟩))),fun e=>hv g hg (.inr (.inr (.inl e)))⟩)
theorem BD.grow {w':World} (h:BD w F f n X lc S Sc) {i:Nat} (hi:i < f.m) (hg:w.grownBy w' (f.V i).ownBlock) {l':List (Nat × Rat)} (hl:LnE w' F (f.V i) l' S) (hr:Rise l'∧Blw l' (n + f.m)):BD w' F f n (fun q=>if q = i then { X i with l:=l' } else X q) lc S Sc:=by
 obtain ⟨E,h1,h2⟩:=h.r
 obtain ⟨D,s1,_⟩:=h.t i hi
 have hn:=s1.noW (show 97 ≠ 85 by decide)
 refine ⟨h.rw.kept hg (s1.neR h.rw (by decide)),⟨E,h1.kept hg (fun g e e2=>h1.ne2 s1 (by decide) g e e2),fun q hq=>?_⟩,fun q hq=>?_,?_,h.ne,h.nc,h.lo,fun q hq=>?_,h.kc⟩
 ·by_cases e:q = i
  ·subst e;simp only [if_true];exact (h2 q hq).keep hn hg
  ·simp only [if_neg e];exact (h2 q hq).keep hn hg
 ·by_cases e:q = i
  ·subst e;simp only [if_true];exact hl
  ·simp only [if_neg e]
   obtain ⟨D',t1,t2⟩:=h.t q hq
   exact ⟨D',t1.kept hg (fun g e1 e2=>h.ne i q hi hq (Ne.symm e) g e2 e1),fun j x hx=>(t2 j x hx).keep hn hg⟩
 ·obtain ⟨D',t1,t2⟩:=h.c
  exact ⟨D',t1.kept hg (fun g e1 e2=>h.nc i hi g e2 e1),fun j x hx=>(t2 j x hx).keep hn hg⟩
 ·by_cases e:q = i
  ·subst e;simp only [if_true];have hk:=h.k q hq;exact ⟨hr.1,hr.2,hk.2.2.1,hk.2.2.2⟩
  ·simp only [if_neg e];exact h.k q hq
end
theorem off_kf {C C':Nat→Prop} {a b c:World} {g:Nat} (hb:Below a.heap.size a b) (O:Off g b c) (hC:C g) (hs:∀ k,C' k→C k∨a.heap.size≤k):KF C C' a c :=
 ⟨O.os.trans hb.os,O.tape.trans hb.tape,O.output.trans hb.output,Nat.le_trans hb.size (Nat.le_of_eq O.size.symm),fun k hk hn=>(O.block k fun e=>hn (e ▸ hC)).trans (hb.block k hk),hs⟩
end Go.Proofs.YtjiodidemimgmaaGreatDoor

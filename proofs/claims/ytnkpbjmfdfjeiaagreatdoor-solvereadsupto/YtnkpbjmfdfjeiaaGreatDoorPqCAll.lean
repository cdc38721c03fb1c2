import Derived.Test.YtnkpbjmfdfjeiaaGreatDoorOpRAll
import Derived.Test.YtnkpbjmfdfjeiaaGreatDoorRlAll
import Derived.Test.YtnkpbjmfdfjeiaaGreatDoorRatAll
import Derived.Test.YtnkpbjmfdfjeiaaGreatDoorNumAll
namespace Go.Proofs.YtnkpbjmfdfjeiaaGreatDoor
open Go.RowKit
def BoxC (w:World) (R:Nat) (cs:List Value):Prop:=∀ i u,cs[i]? = some u→w.cell? ⟨R,i,none⟩ = some u
theorem box_new (w:World) (cs:Array Value) (t:TypeId):BoxC (w.alloc (.cells cs t)) w.heap.size cs.toList:=by
 intro i u hu
 have h:(w.alloc (.cells cs t)).heap[w.heap.size]? = some (.cells cs t):=heap_alloc_new _ _
 unfold World.cell?
 rw [h]
 simpa using hu
theorem BoxC.below {w w':World} {R:Nat} {cs:List Value} (h:BoxC w R cs) (hb:Below w.heap.size w w'):BoxC w' R cs:=fun i u hu=>kept_c hb (h i u hu)
theorem boxc3 (w:World) (c0:Array Value) (t0:TypeId) (c1:Array Value) (t1:TypeId) (c2:Array Value) (t2:TypeId):let W:=((w.alloc (.cells c0 t0)).alloc (.cells c1 t1)).alloc (.cells c2 t2);BoxC W w.heap.size c0.toList∧BoxC W (w.heap.size + 1) c1.toList∧BoxC W (w.heap.size + 2) c2.toList∧Below w.heap.size w W∧W.heap.size = w.heap.size + 3:=by
 have e1:(w.alloc (.cells c0 t0)).heap.size = w.heap.size + 1:=by simp
 have e2:((w.alloc (.cells c0 t0)).alloc (.cells c1 t1)).heap.size = w.heap.size + 2:=by simp
 have P1:=box_new (w.alloc (.cells c0 t0)) c1 t1
 have P2:=box_new ((w.alloc (.cells c0 t0)).alloc (.cells c1 t1)) c2 t2
 rw [e1] at P1
 rw [e2] at P2
 exact ⟨((box_new w c0 t0).below (bel_d0 _ _)).below (bel_d0 _ _),P1.below (bel_d0 _ _),P2,bel_a (bel_a (bel_d0 _ _)),by simp⟩
def Inf (T:TypeId) (c y:Nat):Prop:=∃ i z,Tryz.prog.info? T = some i∧i.zero = some z∧i.size = c∧i.bytes = y∧z.cells.size = c
theorem inf_of {T:TypeId} {c y:Nat} (h:(Tryz.prog.info? T).map (fun i=>(i.zero.map (fun z=>z.cells.size),i.size,i.bytes)) = some (some c,c,y)):Inf T c y:=by
 obtain ⟨i,hi,h⟩:=Option.map_eq_some_iff.1 h
 simp only [Prod.mk.injEq] at h
 obtain ⟨h1,h2,h3⟩:=h
 obtain ⟨z,hz,h4⟩:=Option.map_eq_some_iff.1 h1
 exact ⟨i,z,hi,hz,h2,h3,h4⟩
def SL (w:World) (B:Nat) (T:TypeId) (c:Nat) (v:Value) (n:Nat) (E:Nat→List Value):Prop :=
 ∃ vs:List Value,w.ownsRow B T c v n vs∧∀ i,i < n→∀ j u,(E i)[j]? = some u→j < c∧vs[i * c + j]? = some u
theorem SL.nil (w:World) (B:Nat) (T:TypeId) (c:Nat) (E:Nat→List Value):SL w B T c (.slice none 0 0) 0 E:=⟨[],World.ownsRow_nil _ _ _ _,fun i hi=>by omega⟩
theorem SL.below {w w':World} {B:Nat} {T:TypeId} {c:Nat} {v:Value} {n:Nat} {E:Nat→List Value} (h:SL w B T c v n E) (hb:Below w.heap.size w w'):SL w' B T c v n E:=by
 obtain ⟨vs,h1,h2⟩:=h
 refine ⟨vs,⟨h1.1,?_⟩,h2⟩
 rcases h1.2 with hn | ⟨g,cap,cur,e1,e2,hgb,rest⟩
 ·exact .inl hn
 ·exact .inr ⟨g,cap,cur,e1,e2,(hb.block g (Array.getElem?_eq_some_iff.1 hgb).1).trans hgb,rest⟩
theorem SL.form {w:World} {B:Nat} {T:TypeId} {c:Nat} {v:Value} {n:Nat} {E:Nat→List Value} (h:SL w B T c v n E):∃ a cap,v = .slice a n cap∧n≤cap:=by
 obtain ⟨vs,h1,h2⟩:=h
 rcases h1.2 with ⟨rfl,rfl⟩ | ⟨g,cap,cur,e1,_,_,h3,_⟩
 ·exact ⟨_,_,rfl,Nat.le_refl _⟩
 ·exact ⟨_,_,e1,h3⟩
theorem SL.lt {w:World} {B:Nat} {T:TypeId} {c:Nat} {v:Value} {n:Nat} {E:Nat→List Value} (h:SL w B T c v n E):∀ k,v.ownBlock = some k→B≤k∧k < w.heap.size:=by
 obtain ⟨vs,h1,h2⟩:=h
 exact World.ownsRow.lt h1
theorem SL.mono {w:World} {B B':Nat} {T:TypeId} {c:Nat} {v:Value} {n:Nat} {E:Nat→List Value} (h:SL w B T c v n E) (hB:B'≤B):SL w B' T c v n E:=by
 obtain ⟨vs,h1,h2⟩:=h
 refine ⟨vs,⟨h1.1,?_⟩,h2⟩
 rcases h1.2 with hn | ⟨g,cap,cur,e1,e2,rest⟩
 ·exact .inl hn
 ·exact .inr ⟨g,cap,cur,e1,by omega,rest⟩
theorem SL.cell {w:World} {B:Nat} {T:TypeId} {c:Nat} {a:Option Addr} {m n cap:Nat} {E:Nat→List Value} (h:SL w B T c (.slice a m cap) n E):n = 0∨∃ g,a = some ⟨g,0,none⟩∧∀ i,i < n→∀ j u,(E i)[j]? = some u→w.cell? ⟨g,i * c + j,none⟩ = some u:=by
 obtain ⟨vs,h1,h2⟩:=h
 rcases h1.2 with ⟨e1,e2⟩ | ⟨g,cap,cur,e1,_,hg,_,_,_,ht⟩
 ·exact .inl e2
 ·simp only [Value.slice.injEq] at e1
  obtain ⟨rfl,_,_⟩:=e1
  exact .inr ⟨g,rfl,fun i hi j u hu=>row_cell hg ht (h2 i hi j u hu).2⟩
theorem SL.congr {w:World} {B:Nat} {T:TypeId} {c:Nat} {v:Value} {n:Nat} {E F:Nat→List Value} (h:SL w B T c v n E) (e:∀ i,i < n→E i = F i):SL w B T c v n F:=by
 obtain ⟨vs,h1,h2⟩:=h
 exact ⟨vs,h1,fun i hi=>by rw [← e i hi];exact h2 i hi⟩
theorem SL.kept {w w':World} {B:Nat} {T:TypeId} {c:Nat} {v:Value} {n:Nat} {E:Nat→List Value} (h:SL w B T c v n E) {row:Option Nat} (hg:w.grownBy w' row) (hne:∀ g,v.ownBlock = some g→row ≠ some g):SL w' B T c v n E:=by
 obtain ⟨vs,h1,h2⟩:=h
 refine ⟨vs,World.ownsRow.kept h1 hg ?_,h2⟩
 cases e:v.ownBlock with
 | none=>exact .inl rfl
 | some g=>exact .inr fun e2=>hne g e e2.symm
def Rw (t:TypeId) (w:World) (R:Nat) (cs:Array Value):Prop:=w.heap[R]? = some (.cells cs t (0,0))
theorem Rw.lt {t:TypeId} {w:World} {R:Nat} {cs:Array Value} (h:Rw t w R cs):R < w.heap.size:=(Array.getElem?_eq_some_iff.1 h).1
theorem Rw.new (t:TypeId) (w:World) (cs:Array Value):Rw t (w.alloc (.cells cs t)) w.heap.size cs:=heap_alloc_new _ _
theorem Rw.below {t:TypeId} {w w':World} {R:Nat} {cs:Array Value} (h:Rw t w R cs) (hb:Below w.heap.size w w'):Rw t w' R cs:=(hb.block R h.lt).trans h
theorem Rw.off {t:TypeId} {w w':World} {R g:Nat} {cs:Array Value} (h:Rw t w R cs) (o:Off g w w') (hg:R ≠ g):Rw t w' R cs:=(o.block R hg).trans h
theorem Rw.cell {t:TypeId} {w:World} {R:Nat} {cs:Array Value} (h:Rw t w R cs) (j:Nat):w.cell? ⟨R,j,none⟩ = cs[j]?:=cell_of_row w R j cs t _ h
theorem Rw.frozen {t:TypeId} {w:World} {R:Nat} {cs:Array Value} (h:Rw t w R cs) (j:Nat):w.frozen? ⟨R,j,none⟩ = false:=frozen_of_row w R j cs t h
theorem Rw.ret2 {fn:Func} {p q:Tmp} {ty:TypeId} (h:fn.results = #[.cell p ty,.tmp q]) (tmps:Array Value) {w:World} {g:Nat} {cs:Array Value} (hr:Rw ty w g cs)
  (hp:tmps.getD p undef = .pointer (some ⟨g,0,none⟩)) {fs} (hu:Tryz.prog.underlying ty = some (.struct fs)) (hi:(Tryz.prog.info? ty).map (·.size) = some cs.size) :
  (results fn tmps).run Tryz.prog w = .ok (.tuple #[.agg cs,tmps.getD q undef]) w:=by
 have hp':tmps[p]?.getD undef = .pointer (some ⟨g,0,none⟩):=by simpa using hp
 simp [results,h,hp',asAddr,run_loadVar_row w g ty ty cs _ (.struct fs) hr hu rfl hi]
theorem Rw.ret1 {fn:Func} {p:Tmp} {ty:TypeId} (h:fn.results = #[.cell p ty]) (tmps:Array Value) {w:World} {g:Nat} {cs:Array Value} (hr:Rw ty w g cs)
  (hp:tmps.getD p undef = .pointer (some ⟨g,0,none⟩)) {fs} (hu:Tryz.prog.underlying ty = some (.struct fs)) (hi:(Tryz.prog.info? ty).map (·.size) = some cs.size) :
  (results fn tmps).run Tryz.prog w = .ok (.agg cs) w:=results_cell_row h tmps w g ty cs _ (.struct fs) hp hr hu rfl hi
structure Kb (F:Nat) (L:List TypeId) (w w':World):Prop where
 os:w'.os = w.os
 tape:w'.tape = w.tape
 output:w'.output = w.output
 size:w.heap.size≤w'.heap.size
 low:∀ k,k < F→w'.heap[k]? = w.heap[k]?
 high:∀ (k:Nat) (cur:Array Value) (T:TypeId) (f:Nat × Nat),w.heap[k]? = some (Obj.cells cur T f)→T ∉ L→w'.heap[k]? = w.heap[k]?
theorem Kb.refl (F:Nat) (L:List TypeId) (w:World):Kb F L w w:=⟨rfl,rfl,rfl,Nat.le_refl _,fun _ _=>rfl,fun _ _ _ _ _ _=>rfl⟩
theorem Kb.trans {F:Nat} {L:List TypeId} {a b c:World} (h:Kb F L a b) (k:Kb F L b c):Kb F L a c :=
 ⟨k.os.trans h.os,k.tape.trans h.tape,k.output.trans h.output,Nat.le_trans h.size k.size,fun i h1=>(k.low i h1).trans (h.low i h1),fun i cur T f h1 h2=>by
  have e:=h.high i cur T f h1 h2
  exact (k.high i cur T f (e.trans h1) h2).trans e⟩
theorem Kb.up {F:Nat} {L L':List TypeId} {a b:World} (h:Kb F L a b) (hL:∀ T ∈ L,T ∈ L'):Kb F L' a b :=
 ⟨h.os,h.tape,h.output,h.size,h.low,fun i cur T f h1 h2=>h.high i cur T f h1 fun e=>h2 (hL _ e)⟩
theorem Kb.below {F:Nat} {L:List TypeId} {a b:World} (h:Kb F L a b):Below F a b:=⟨h.os,h.tape,h.output,h.size,fun k hk=>h.low k hk⟩
theorem kb_bel {F:Nat} (L:List TypeId) {b c:World} (k:Below b.heap.size b c) (hF:F≤b.heap.size):Kb F L b c :=
 ⟨k.os,k.tape,k.output,k.size,fun i h1=>k.block i (by omega),fun i cur T f h1 _=>k.block i (Array.getElem?_eq_some_iff.1 h1).1⟩
theorem kb_off {F g:Nat} {w w':World} {T:TypeId} {cur:Array Value} {f:Nat × Nat} (hg:w.heap[g]? = some (Obj.cells cur T f)) (hF:F≤g) (o:Off g w w'):Kb F [T] w w' :=
 ⟨o.os,o.tape,o.output,Nat.le_of_eq o.size.symm,fun k hk=>o.block k (by omega),fun k cur' U f' h1 h2=>o.block k fun e=>by
  subst e
  rw [hg] at h1
  simp only [Option.some.injEq,Obj.cells.injEq] at h1
  exact h2 (by rw [← h1.2.1];exact List.mem_singleton.2 rfl)⟩
theorem kb_grown {F:Nat} {b c:World} {B:Nat} {T:TypeId} {d:Nat} {v:Value} {n:Nat} {E:Nat→List Value} (hs:SL b B T d v n E) (hB:F≤B) (hF:F≤b.heap.size) (k:b.grownBy c v.ownBlock):Kb F [T] b c:=by
 have hlt:=hs.lt
 refine ⟨k.os,k.tape,k.output,k.size,fun i h1=>k.block i (by omega) fun e=>by have:=(hlt i e.symm).1;omega,fun i cur U f h1 h2=>?_⟩
 refine k.block i (Array.getElem?_eq_some_iff.1 h1).1 fun e2=>?_
 obtain ⟨vs,g1,_⟩:=hs
 rcases g1.2 with ⟨rfl,_⟩ | ⟨g,cap,cu,e1,_,f1,_⟩
 ·simp [Value.ownBlock] at e2
 ·subst e1
  simp [Value.ownBlock] at e2
  subst e2
  rw [h1] at f1
  simp only [Option.some.injEq,Obj.cells.injEq] at f1
  exact h2 (by rw [f1.2.1];exact List.mem_singleton.2 rfl)
theorem Rw.kb {t:TypeId} {w w':World} {F Q:Nat} {L:List TypeId} {cs:Array Value} (h:Rw t w Q cs) (k:Kb F L w w') (ht:t ∉ L):Rw t w' Q cs:=(k.high Q _ _ _ h ht).trans h
theorem row_kb {w w':World} {F:Nat} {L:List TypeId} {B:Nat} {T:TypeId} {c:Nat} {v:Value} {n:Nat} {vs:List Value} (h:w.ownsRow B T c v n vs) (k:Kb F L w w') (hT:T ∉ L):w'.ownsRow B T c v n vs:=by
 refine ⟨h.1,?_⟩
 rcases h.2 with hn | ⟨g,cap,cur,e1,e2,hgb,rest⟩
 ·exact .inl hn
 ·exact .inr ⟨g,cap,cur,e1,e2,(k.high g _ _ _ hgb hT).trans hgb,rest⟩
theorem SL.kb {w w':World} {F:Nat} {L:List TypeId} {B:Nat} {T:TypeId} {c:Nat} {v:Value} {n:Nat} {E:Nat→List Value} (h:SL w B T c v n E) (k:Kb F L w w') (hT:T ∉ L):SL w' B T c v n E:=by
 obtain ⟨vs,h1,h2⟩:=h
 exact ⟨vs,row_kb h1 k hT,h2⟩
theorem Got.kb {w w':World} {F:Nat} {L:List TypeId} {B:Nat} {v:Value} {x:Int} {S:Nat} (h:Got w B v x S) (k:Kb F L w w') (hL:107 ∉ L):Got w' B v x S:=by
 obtain ⟨xs,h1,h2⟩:=h
 exact ⟨xs,row_kb h1 k hL,h2⟩
theorem GR.kb {w w':World} {F:Nat} {L:List TypeId} {B:Nat} {f:Bool} {c:Option Addr} {n k:Nat} {c':Option Addr} {n' k':Nat} {r:Rat} {S:Nat} (h:GR w B f c n k c' n' k' r S) (hk:Kb F L w w') (hL:107 ∉ L):GR w' B f c n k c' n' k' r S:=by
 refine ⟨?_,h.2.kb hk hL⟩
 obtain ⟨a,n2,c2,h1,h2⟩:=h.1
 exact ⟨a,n2,c2,h1,h2.kb hk hL⟩
theorem Rw.setK {t:TypeId} {w:World} {R:Nat} {cs:Array Value} (h:Rw t w R cs) (i:Nat) (v:Value):Rw t (w.setCell ⟨R,i,none⟩ v) R (cs.setIfInBounds i v)∧Off R w (w.setCell ⟨R,i,none⟩ v):=by
 refine ⟨?_,(Off.refl _ _).set i v⟩
 unfold Rw at *
 simp [World.setCell,Array.getElem?_modify,h]
theorem Errs.kb {w w':World} {F:Nat} {L:List TypeId} {g:Nat} {v:Value} (h:Errs w g v) (k:Kb F L w w') (hF:g < F):Errs w' g v:=⟨(World.cell?_of_block (w:=w) (k.low g hF)).trans h.1,h.2⟩
theorem TB.kb {w w':World} {F:Nat} {L:List TypeId} (h:TB w) (k:Kb F L w w') (hF:9 < F):TB w':=by
 have h2:=h.2
 have hb:Below F w w':=⟨k.os,k.tape,k.output,k.size,fun i hi=>k.low i hi⟩
 exact ⟨tab_below h.1 hb hF,by have:=k.size;omega⟩
end Go.Proofs.YtnkpbjmfdfjeiaaGreatDoor

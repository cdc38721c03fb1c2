import Derived.Test.YtjiodidemimgmaaGreatDoorRatAll
import Derived.Test.YtjiodidemimgmaaGreatDoorNumAll
import Derived.Test.YtjiodidemimgmaaGreatDoorPqCAll
import Derived.Test.YtjiodidemimgmaaGreatDoorDivAll
namespace Go.Proofs.YtjiodidemimgmaaGreatDoor
open Go.RowKit
def Rw (t:TypeId) (w:World) (R:Nat) (cs:Array Value):Prop:=w.heap[R]? = some (.cells cs t (0,0))
theorem Rw.lt {t:TypeId} {w:World} {R:Nat} {cs:Array Value} (h:Rw t w R cs):R < w.heap.size:=(Array.getElem?_eq_some_iff.1 h).1
theorem Rw.new (t:TypeId) (w:World) (cs:Array Value):Rw t (w.alloc (.cells cs t)) w.heap.size cs:=heap_alloc_new _ _
theorem Rw.below {t:TypeId} {w w':World} {R:Nat} {cs:Array Value} (h:Rw t w R cs) (hb:Below w.heap.size w w'):Rw t w' R cs:=(hb.block R h.lt).trans h
theorem Rw.off {t:TypeId} {w w':World} {R g:Nat} {cs:Array Value} (h:Rw t w R cs) (o:Off g w w') (hg:R ≠ g):Rw t w' R cs:=(o.block R hg).trans h
theorem Rw.cell {t:TypeId} {w:World} {R:Nat} {cs:Array Value} (h:Rw t w R cs) (j:Nat):w.cell? ⟨R,j,none⟩ = cs[j]?:=cell_of_row w R j cs t _ h
theorem Rw.frozen {t:TypeId} {w:World} {R:Nat} {cs:Array Value} (h:Rw t w R cs) (j:Nat):w.frozen? ⟨R,j,none⟩ = false:=frozen_of_row w R j cs t h
theorem Off.grown {R:Nat} {w w':World} (h:Off R w w'):w.grownBy w' (some R):=⟨h.os,h.tape,h.output,Nat.le_of_eq h.size.symm,fun k _ hk=>h.block k fun e=>hk (by rw [e])⟩
def NoW (w:World) (row:Option Nat):Prop:=∀ g,row = some g→∃ cur T,w.heap[g]? = some (.cells cur T (0,0))∧T ≠ 85
theorem Rw.noW {t:TypeId} {w:World} {R:Nat} {cs:Array Value} (h:Rw t w R cs) (ht:t ≠ 85):NoW w (some R):=fun g e=>by cases e;exact ⟨cs,t,h,ht⟩
theorem SL.noW {w:World} {B:Nat} {T:TypeId} {c:Nat} {v:Value} {n:Nat} {E:Nat→List Value} (h:SL w B T c v n E) (ht:T ≠ 85):NoW w v.ownBlock:=by
 intro g e
 obtain ⟨vs,h1,_⟩:=h
 rcases h1.2 with ⟨rfl,_⟩ | ⟨g',cap,cur,e1,_,f1,_⟩
 ·cases e
 ·subst e1
  simp [Value.ownBlock] at e
  subst e
  exact ⟨cur,T,f1,ht⟩
theorem Got.keep {w w':World} {B:Nat} {v:Value} {x:Int} {S:Nat} (h:Got w B v x S) {row:Option Nat} (hn:NoW w row) (hg:w.grownBy w' row):Got w' B v x S:=by
 obtain ⟨xs,h1,h2⟩:=h
 refine ⟨xs,World.ownsRow.kept h1 hg ?_,h2⟩
 rcases h1.2 with ⟨e1,_⟩ | ⟨g1,c1,cur1,e1,_,f1,_⟩
 ·subst e1;exact .inl rfl
 ·refine .inr fun e=>?_
  subst e1
  obtain ⟨cur,T,f2,hT⟩:=hn g1 (by rw [← e];rfl)
  rw [f1] at f2
  simp only [Option.some.injEq,Obj.cells.injEq] at f2
  exact hT f2.2.1.symm
theorem GR.keep {w w':World} {B:Nat} {f:Bool} {c:Option Addr} {n k:Nat} {c':Option Addr} {n' k':Nat} {r:Rat} {S:Nat} (h:GR w B f c n k c' n' k' r S) {row:Option Nat} (hn:NoW w row) (hg:w.grownBy w' row):GR w' B f c n k c' n' k' r S:=by
 refine ⟨?_,h.2.keep hn hg⟩
 obtain ⟨a,n2,c2,h1,h2⟩:=h.1
 exact ⟨a,n2,c2,h1,h2.keep hn hg⟩
theorem Rw.kept {t:TypeId} {w w':World} {R:Nat} {cs:Array Value} (h:Rw t w R cs) {row:Option Nat} (hg:w.grownBy w' row) (hne:row ≠ some R):Rw t w' R cs:=(hg.block R h.lt (fun e=>hne e.symm)).trans h
theorem SL.neR {w:World} {B:Nat} {T t:TypeId} {c:Nat} {v:Value} {n:Nat} {E:Nat→List Value} (h:SL w B T c v n E) {R:Nat} {cs:Array Value} (hr:Rw t w R cs) (ht:T ≠ t):v.ownBlock ≠ some R:=by
 intro e
 obtain ⟨vs,h1,_⟩:=h
 rcases h1.2 with ⟨rfl,_⟩ | ⟨g',cap,cur,e1,_,f1,_⟩
 ·cases e
 ·subst e1
  simp [Value.ownBlock] at e
  subst e
  unfold Rw at hr
  rw [f1] at hr
  simp only [Option.some.injEq,Obj.cells.injEq] at hr
  exact ht hr.2.1
theorem wp_appendS (w:World) {o:Oper} {a:Act} {K:Act→World→Prop} {Q:Exit→Act→World→Prop} (s x:Operand) (L T:TypeId) (c y:Nat)
  (ho:o.op = .call { callee:=.builtin .append,args:=#[s,x],argTypes:=#[L,L] }) (hL:Tryz.prog.underlying L = some (.slice T)) (hI:Inf T c y) (hc0:0 < c) (hy:y≤1000)
  (B:Nat) (v:Value) (n:Nat) (E:Nat→List Value) (hs:a.eval s = v) (hown:SL w B T c v n E) (h k:Nat) (hx:a.eval x = .slice (some ⟨h,0,none⟩) 1 k)
  (cs:List Value) (hcs:cs.length = c) (h1:∀ u ∈ cs,u.oneCell' = true) (hbox:BoxC w h cs)
  (hlen:n≤1000000000) (hB:B≤w.heap.size) (H:Nat) (hH:w.heap.size = H)
  (hK:∀ g cap w',SL w' B T c (.slice (some ⟨g,0,none⟩) (n + 1) cap) (n + 1) (fun i=>if i < n then E i else cs)→w.grownBy w' v.ownBlock→(v.ownBlock = some g∨g = H)→g < w'.heap.size→K (a.put o.dst (.slice (some ⟨g,0,none⟩) (n + 1) cap)) w') :
  Oper.wp Tryz.prog o a w K Q:=by
 obtain ⟨vs,g1,g2⟩:=hown
 obtain ⟨i0,z,hi,hz,hs3,hb56,hz3⟩:=hI
 have hyn:(n + 1) * y≤1000000001 * 1000:=Nat.mul_le_mul (by omega) hy
 refine wp_append_lies w s x L ho B T i0 z c y hL hi hz hs3 hb56 hz3 hc0 v n vs hs g1 ⟨h,0,none⟩ 1 k cs hx (by omega) ?_ h1 (by decide) (by unfold maxLen;omega) (by omega) hB H hH ?_
 ·intro j u hj
  have:=hbox j u hj
  by_cases e:j = 0
  ·subst e;simpa [Addr.add] using this
  ·simpa [Addr.add,e] using this
 ·intro g cap w' r1 r2 r3 r4
  exact hK g cap w' ⟨_,r1,sl_app g1.1 hcs g2⟩ r2 r3 r4
theorem Rw.setK {t:TypeId} {w:World} {R:Nat} {cs:Array Value} (h:Rw t w R cs) (i:Nat) (v:Value):Rw t (w.setCell ⟨R,i,none⟩ v) R (cs.setIfInBounds i v)∧Off R w (w.setCell ⟨R,i,none⟩ v):=by
 refine ⟨?_,(Off.refl _ _).set i v⟩
 unfold Rw at *
 simp [World.setCell,Array.getElem?_modify,h]
def dsg (s:Bool) (r:Rat):Rat:=if s then -r else r
structure KF (C C':Nat→Prop) (w w':World):Prop where
 os:w'.os = w.os
 tape:w'.tape = w.tape
 output:w'.output = w.output
 size:w.heap.size≤w'.heap.size
 blk:∀ k,k < w.heap.size→¬ C k→w'.heap[k]? = w.heap[k]?
 sub:∀ k,C' k→C k∨w.heap.size≤k
theorem KF.refl (C:Nat→Prop) (w:World):KF C C w w:=⟨rfl,rfl,rfl,Nat.le_refl _,fun _ _ _=>rfl,fun _ h=>.inl h⟩
theorem KF.trans {C C' C'':Nat→Prop} {a b c:World} (h:KF C C' a b) (k:KF C' C'' b c):KF C C'' a c :=
 ⟨k.os.trans h.os,k.tape.trans h.tape,k.output.trans h.output,Nat.le_trans h.size k.size,fun i h1 h2=>(k.blk i (Nat.lt_of_lt_of_le h1 h.size) (fun e=>by rcases h.sub i e with e | e;exact h2 e;omega)).trans (h.blk i h1 h2),fun i e=>by
  rcases k.sub i e with e | e
  ·exact h.sub i e
  ·exact .inr (Nat.le_trans h.size e)⟩
theorem KF.bel {C C':Nat→Prop} {a b c:World} (h:KF C C' a b) (k:Below b.heap.size b c):KF C C' a c :=
 ⟨k.os.trans h.os,k.tape.trans h.tape,k.output.trans h.output,Nat.le_trans h.size k.size,fun i h1 h2=>(k.block i (Nat.lt_of_lt_of_le h1 h.size)).trans (h.blk i h1 h2),h.sub⟩
theorem KF.below {C C':Nat→Prop} {a b:World} {F:Nat} (h:KF C C' a b) (hC:∀ k,C k→F≤k) (hF:F≤a.heap.size):Below F a b :=
 ⟨h.os,h.tape,h.output,h.size,fun k hk=>h.blk k (by omega) fun e=>by have:=hC k e;omega⟩
def NoU (w:World) (C:Nat→Prop):Prop:=∀ k,C k→∃ cur T,w.heap[k]? = some (.cells cur T (0,0))∧T ≠ 85
theorem Got.kf {C C':Nat→Prop} {w w':World} {B:Nat} {v:Value} {x:Int} {S:Nat} (h:Got w B v x S) (hk:KF C C' w w') (hn:NoU w C):Got w' B v x S:=by
 obtain ⟨xs,h1,h2⟩:=h
 refine ⟨xs,⟨h1.1,?_⟩,h2⟩
 rcases h1.2 with hn | ⟨g,cap,cur,e1,e2,hgb,rest⟩
 ·exact .inl hn
 ·refine .inr ⟨g,cap,cur,e1,e2,(hk.blk g (Array.getElem?_eq_some_iff.1 hgb).1 fun e=>?_).trans hgb,rest⟩
  obtain ⟨cur2,T,f2,hT⟩:=hn g e
  rw [hgb] at f2
  simp only [Option.some.injEq,Obj.cells.injEq] at f2
  exact hT f2.2.1.symm
theorem GR.kf {C C':Nat→Prop} {w w':World} {B:Nat} {f:Bool} {c:Option Addr} {n k:Nat} {c':Option Addr} {n' k':Nat} {r:Rat} {S:Nat} (h:GR w B f c n k c' n' k' r S) (hk:KF C C' w w') (hn:NoU w C):GR w' B f c n k c' n' k' r S:=by
 refine ⟨?_,h.2.kf hk hn⟩
 obtain ⟨a,n2,c2,h1,h2⟩:=h.1
 exact ⟨a,n2,c2,h1,h2.kf hk hn⟩
theorem SL.typ {w:World} {B:Nat} {T:TypeId} {c:Nat} {v:Value} {n:Nat} {E:Nat→List Value} (h:SL w B T c v n E) {g:Nat} (hg:v.ownBlock = some g):∃ cur,w.heap[g]? = some (.cells cur T (0,0)):=by
 obtain ⟨vs,h1,_⟩:=h
 rcases h1.2 with ⟨rfl,_⟩ | ⟨g',cap,cur,e1,_,f1,_⟩
 ·cases hg
 ·subst e1
  simp [Value.ownBlock] at hg
  subst hg
  exact ⟨cur,f1⟩
theorem grown_kf {C C':Nat→Prop} {w w':World} {row:Option Nat} (hg:w.grownBy w' row) (hr:∀ g,row = some g→C g) (hs:∀ k,C' k→C k∨w.heap.size≤k):KF C C' w w' :=
 ⟨hg.os,hg.tape,hg.output,hg.size,fun k h1 h2=>hg.block k h1 fun e=>h2 (hr k e.symm),hs⟩
theorem SL.put {w:World} {B:Nat} {T:TypeId} {c:Nat} {n cap g:Nat} {E E':Nat→List Value} (h:SL w B T c (.slice (some ⟨g,0,none⟩) n cap) n E) {i o:Nat} {v:Value} (hi:i < n) (ho:o < c)
  (he:∀ q,q < n→q ≠ i→E' q = E q) (he2:∀ j u,(E' i)[j]? = some u→j = o∧u = v∨j ≠ o∧(E i)[j]? = some u) :
  SL (w.setCell ⟨g,i * c + o,none⟩ v) B T c (.slice (some ⟨g,0,none⟩) n cap) n E':=by
 obtain ⟨vs,⟨h1,h2⟩,h3⟩:=h
 rcases h2 with ⟨e,_⟩ | ⟨g',cap',cur,e1,e2,hgb,e3,e4,e5,e6⟩
 ·cases e
 simp only [Value.slice.injEq,Option.some.injEq,Addr.mk.injEq,and_true,true_and] at e1
 obtain ⟨rfl,rfl⟩:=e1
 have hk:i * c + o < n * c:=by
  have h7:(i + 1) * c≤n * c:=Nat.mul_le_mul_right c hi
  have h8:(i + 1) * c = i * c + c:=Nat.succ_mul i c
  omega
 refine ⟨vs.set (i * c + o) v,⟨by rw [List.length_set];exact h1,.inr ⟨g,cap,cur.setIfInBounds (i * c + o) v,rfl,e2,heap_setCell_same w g (i * c + o) cur T v hgb,e3,e4,by simpa using e5,?_⟩⟩,fun q hq j u hu=>?_⟩
 ·rw [Array.toList_setIfInBounds,← e6,List.take_set]
 ·by_cases hqi:q = i
  ·subst hqi
   rcases he2 j u hu with ⟨rfl,rfl⟩ | ⟨hj,hE⟩
   ·refine ⟨ho,?_⟩
    rw [List.getElem?_set_self (by omega)]
   ·obtain ⟨a1,a2⟩:=h3 q hq j u hE
    refine ⟨a1,?_⟩
    rw [List.getElem?_set_ne (by omega)]
    exact a2
  ·rw [he q hq hqi] at hu
   obtain ⟨a1,a2⟩:=h3 q hq j u hu
   refine ⟨a1,?_⟩
   have hne:i * c + o ≠ q * c + j:=by
    intro e
    rcases Nat.lt_or_gt_of_ne hqi with hl | hl
    ·have h7:(q + 1) * c≤i * c:=Nat.mul_le_mul_right c hl
     have h8:(q + 1) * c = q * c + c:=Nat.succ_mul q c
     omega
    ·have h7:(i + 1) * c≤q * c:=Nat.mul_le_mul_right c hl
     have h8:(i + 1) * c = i * c + c:=Nat.succ_mul i c
     omega
   rw [List.getElem?_set_ne hne]
   exact a2
theorem SL.ne2 {w:World} {B B':Nat} {T U:TypeId} {c c':Nat} {v u:Value} {n m:Nat} {E E':Nat→List Value} (h:SL w B T c v n E) (k:SL w B' U c' u m E') (hT:T ≠ U):∀ g,v.ownBlock = some g→u.ownBlock ≠ some g:=by
 intro g h1 h2
 obtain ⟨cur,e1⟩:=h.typ h1
 obtain ⟨cur',e2⟩:=k.typ h2
 rw [e1] at e2
 simp only [Option.some.injEq,Obj.cells.injEq] at e2
 exact hT e2.2.1
theorem KF.of2 {C C':Nat→Prop} {a b c:World} {row:Option Nat} {D:Nat} (hg:a.grownBy b row) (ho:Off D b c) (h1:∀ g,row = some g→C g) (h2:C D) (hs:∀ k,C' k→C k∨a.heap.size≤k):KF C C' a c :=
 ⟨ho.os.trans hg.os,ho.tape.trans hg.tape,ho.output.trans hg.output,Nat.le_trans hg.size (Nat.le_of_eq ho.size.symm),fun k hk hn=>(ho.block k (fun e=>hn (e ▸ h2))).trans (hg.block k hk fun e=>hn (h1 k e.symm)),hs⟩
structure SF (fN:FuncId) (s:Bool):Prop where
 fn:FnE fN
 call:∀ {p:Bool} {a:Option Addr} {na ca:Nat} {d:Option Addr} {nd cd:Nat} {r:Rat} {S:Nat} (w:World),TR w p a na ca d nd cd r S→S≤7000000→1≤S→TB w→Calls Tryz.prog fN #[.agg #[.bool p,.slice a na ca,.slice d nd cd]] w fun e w'=>∃ f c n k c' n' k',e = .returned (.agg #[.bool f,.slice c n k,.slice c' n' k'])∧GR w' w.heap.size f c n k c' n' k' (dsg s r) S∧Below w.heap.size w w'
theorem sf_norm:SF 34 false:=⟨fe9,fun w h1 h2 h3 h4=>normR w h1 h2 h3 h4⟩
theorem sf_neg:SF 57 true:=⟨fe10,fun w h1 h2 h3 h4=>negQ w h1 h2 h3 h4⟩
theorem wp_sense {o:Oper} {a:Act} {w:World} {K:Act→World→Prop} {Q:Exit→Act→World→Prop} (x y:Operand) (ats:Array TypeId) (ho:o.op = .call { callee:=.value x,args:=#[y],argTypes:=ats }) {fN:FuncId} {s:Bool} (hf:SF fN s) (hx:a.eval x = .func (.func fN) #[] #[])
  {p:Bool} {c:Option Addr} {nc kc:Nat} {d:Option Addr} {nd cd:Nat} {r:Rat} {S:Nat} (hy:a.eval y = .agg #[.bool p,.slice c nc kc,.slice d nd cd]) (hr:TR w p c nc kc d nd cd r S) (hS:S≤7000000) (hS1:1≤S) (hT:TB w)
  (hK:∀ f c1 n1 k1 d1 m1 l1 w',GR w' w.heap.size f c1 n1 k1 d1 m1 l1 (dsg s r) S→Below w.heap.size w w'→K (a.put o.dst (.agg #[.bool f,.slice c1 n1 k1,.slice d1 m1 l1])) w'):Oper.wp Tryz.prog o a w K Q:=by
 refine wp_callV x #[y] ats fN #[] ho hx hf.fn (Post:=fun e w'=>∃ f c n k c' n' k',e = .returned (.agg #[.bool f,.slice c n k,.slice c' n' k'])∧GR w' w.heap.size f c n k c' n' k' (dsg s r) S∧Below w.heap.size w w') ?_ ?_
 ·have e:(#[y].map a.eval ++ #[]:Array Value) = #[.agg #[.bool p,.slice c nc kc,.slice d nd cd]]:=by simp [hy]
  rw [e]
  exact hf.call w hr hS hS1 hT
 ·rintro e w' ⟨f,c1,n1,k1,d1,m1,l1,rfl,G,hb⟩
  exact ⟨_,rfl,hK _ _ _ _ _ _ _ _ G hb⟩
theorem TB.bF {w w':World} {F:Nat} (h:TB w) (hg:4 < F) (hb:Below F w w'):TB w' :=
 ⟨fun j hj=>by rw [World.cell?_of_block (w:=w) (hb.block _ hg)];exact h.1 j hj,Nat.lt_of_lt_of_le h.2 hb.size⟩
theorem Rw.kf {C C':Nat→Prop} {w w':World} {T:TypeId} {R:Nat} {cs:Array Value} (h:Rw T w R cs) (hk:KF C C' w w') (hR:¬ C R):Rw T w' R cs:=(hk.blk R h.lt hR).trans h
end Go.Proofs.YtjiodidemimgmaaGreatDoor

import Derived.Test.YtceigfafmalfgaaGreatDoorPrLBll
import Derived.Deep.MidRow
import Derived.Laws.OwnMore
namespace Go.Proofs.YtceigfafmalfgaaGreatDoor
open Go.RowKit
def flt (f:Nat→Bool):Nat→Nat
 | 0=>0
 | k+1=>if f k=true then flt f k+1 else flt f k
def fxq (f:Nat→Bool):Nat→Nat→Nat
 | 0,_=>0
 | k+1,q=>if f k=true∧q=flt f k then k else fxq f k q
theorem flt_yes {f:Nat→Bool} {k:Nat} (h:f k=true):flt f (k+1)=flt f k+1:=if_pos h
theorem flt_no {f:Nat→Bool} {k:Nat} (h:f k=false):flt f (k+1)=flt f k:=if_neg (by rw [h];decide)
theorem flt_le (f:Nat→Bool):∀ k,flt f k≤k
 | 0=>Nat.le_refl _
 | k+1=>by
  have:=flt_le f k
  show (if f k=true then flt f k+1 else flt f k)≤k+1
  split <;> omega
theorem fxq_old {f:Nat→Bool} {k q:Nat} (h:q<flt f k):fxq f (k+1) q=fxq f k q:=if_neg (fun h2=>by omega)
theorem fxq_new {f:Nat→Bool} {k:Nat} (h:f k=true):fxq f (k+1) (flt f k)=k:=if_pos ⟨h,rfl⟩
theorem fxq_no {f:Nat→Bool} {k:Nat} (h:f k=false) (q:Nat):fxq f (k+1) q=fxq f k q:=if_neg (fun h2=>by rw [h] at h2;cases h2.1)
theorem fxq_lt {f:Nat→Bool}:∀ k q,q<flt f k→fxq f k q<k∧f (fxq f k q)=true
 | 0,q,h=>by have h:q<0:=h;omega
 | k+1,q,h=>by
  by_cases hf:f k=true
  ·rw [flt_yes hf] at h
   rcases (by omega:q<flt f k∨q=flt f k) with h1|rfl
   ·rw [fxq_old h1];have:=fxq_lt k q h1;exact ⟨by omega,this.2⟩
   ·rw [fxq_new hf];exact ⟨by omega,hf⟩
  ·have hf':f k=false:=by simpa using hf
   rw [flt_no hf'] at h
   rw [fxq_no hf']
   have:=fxq_lt k q h
   exact ⟨by omega,this.2⟩
theorem fxq_cov {f:Nat→Bool}:∀ k i,i<k→f i=true→∃ q,q<flt f k∧fxq f k q=i
 | 0,i,h,_=>by omega
 | k+1,i,h,hi=>by
  rcases (by omega:i<k∨i=k) with h1|rfl
  ·obtain ⟨q,h2,h3⟩:=fxq_cov k i h1 hi
   refine ⟨q,?_,by rw [fxq_old h2];exact h3⟩
   show q<if f k=true then flt f k+1 else flt f k
   split <;> omega
  ·exact ⟨flt f i,by rw [flt_yes hi];omega,fxq_new hi⟩
theorem rsum_flt {f:Nat→Bool} {G:Nat→Rat} (h:∀ i,f i=false→G i=0):∀ k,rsum (fun q=>G (fxq f k q)) (flt f k)=rsum G k
 | 0=>rfl
 | k+1=>by
  have ih:=rsum_flt (G:=G) h k
  by_cases hf:f k=true
  ·rw [flt_yes hf,rsum_succ,rsum_succ,← ih,fxq_new hf]
   rw [rsum_congr (Y:=fun i=>G (fxq f k i)) (fun i hi=>by rw [fxq_old hi])]
  ·have hf':f k=false:=by simpa using hf
   rw [flt_no hf',rsum_succ,h k hf',Rat.add_zero,← ih]
   exact rsum_congr (fun i hi=>by rw [fxq_no hf'])
theorem gsum_flt {f:Nat→Bool} {t:Nat→PT} {x:Int} (h:∀ i,(t i).var=x→f i=true) (k:Nat):gsum (fun q=>t (fxq f k q)) (flt f k) x=gsum t k x :=
 rsum_flt (G:=fun i=>if (t i).var=x then (t i).coef else 0) (fun i hi=>if_neg (fun e=>by rw [h i e] at hi;cases hi)) k
theorem tot_flt (f:Nat→Bool) (Z:Nat→Nat):∀ k,tot (fun q=>Z (fxq f k q)) (flt f k)≤tot Z k
 | 0=>Nat.le_refl _
 | k+1=>by
  have ih:=tot_flt f Z k
  by_cases hf:f k=true
  ·rw [flt_yes hf]
   show tot (fun q=>Z (fxq f (k+1) q)) (flt f k)+Z (fxq f (k+1) (flt f k))+1≤tot Z k+Z k+1
   rw [fxq_new hf,tot_congr (Y:=fun q=>Z (fxq f k q)) (fun i hi=>by rw [fxq_old hi])]
   omega
  ·have hf':f k=false:=by simpa using hf
   rw [flt_no hf',tot_congr (Y:=fun q=>Z (fxq f k q)) (fun i hi=>by rw [fxq_no hf'])]
   show _≤tot Z k+Z k+1
   omega
theorem cellsOff (b:Nat):∀ (vs:List Value) (o:Nat) (w:World),Off b w (w.setCells b o vs)
 | [],_,w=>Off.refl b w
 | v::r,o,w=>((Off.refl b w).set o v).trans (cellsOff b r (o+1) _)
theorem setRow {b:Nat} {T:TypeId} {n:Nat}:∀ (vs:List Value) (o:Nat) (w:World),(∃ cur,w.heap[b]? = some (.cells cur T (0,0))∧cur.size=n)→∃ cur,(w.setCells b o vs).heap[b]? = some (.cells cur T (0,0))∧cur.size=n
 | [],_,_,h=>h
 | v::r,o,w,⟨cur,h1,h2⟩=>setRow r (o+1) _ ⟨_,heap_setCell_same w b _ cur _ _ h1,by simpa using h2⟩
theorem range_below {w w':World} {g o:Nat} {cs:List Value} (h:w.rangeAt g o cs) (hb:Below w.heap.size w w'):w'.rangeAt g o cs:=fun j v hv=>kept_c hb (h j v hv)
theorem range_sub {w:World} {g o:Nat} {cs:List Value} (h:w.rangeAt g o cs) (k m:Nat):w.rangeAt g (o+k) ((cs.drop k).take m):=fun i v hv=>by
 have h1:(cs.drop k)[i]? = some v:=by
  rw [List.getElem?_take] at hv
  split at hv
  ·exact hv
  ·cases hv
 rw [List.getElem?_drop] at h1
 have:=h (k+i) v h1
 rwa [← Nat.add_assoc] at this
theorem wpList_storeW {ops:Array Oper} {rest:List Oper} {op:Oper} {a:Act} {w:World} {Q:Exit→Act→World→Prop} (hgd:op.guard=none) (ty:TypeId) (x y:Operand) (ho:op.op = .store ty x y)
  (b o:Nat) (cells:Array Value) (hx:a.eval x = .pointer (some ⟨b,o,none⟩)) (hy:a.eval y = .agg cells)
  (ht:w.there b o cells.size) (hi:(Tryz.prog.info? ty).map (·.size)=some cells.size) (h1:cells.all (·.oneCell')=true) (W:World) (hW:Hid (W=w.setCells b o cells.toList))
  (h:wpList Tryz.prog ops Q rest (a.put op.dst undef) W):wpList Tryz.prog ops Q (op::rest) a w :=
 wpList_store_mid hgd ty x y ho b o cells hx hy ht hi h1 (hW.out ▸ h)
def ON (w0 w:World) (B:Nat) (l:List Value) (r:Rat) (S:Nat):Prop :=
 ∃ p a na ca d nd cd,l=[.bool p,.slice a na ca,.slice d nd cd]∧(GR w B p a na ca d nd cd r S∨TR w0 p a na ca d nd cd r S)
theorem ON.keep {w0 w w':World} {B:Nat} {l:List Value} {r:Rat} {S:Nat} (h:ON w0 w B l r S) {row:Option Nat} (hn:NoW w row) (hg:w.grownBy w' row):ON w0 w' B l r S:=by
 obtain ⟨p,a,na,ca,d,nd,cd,e,h|h⟩:=h
 ·exact ⟨p,a,na,ca,d,nd,cd,e,.inl (h.keep hn hg)⟩
 ·exact ⟨p,a,na,ca,d,nd,cd,e,.inr h⟩
theorem ON.below {w0 w w':World} {B:Nat} {l:List Value} {r:Rat} {S:Nat} (h:ON w0 w B l r S) (hb:Below w.heap.size w w'):ON w0 w' B l r S:=by
 obtain ⟨p,a,na,ca,d,nd,cd,e,h|h⟩:=h
 ·exact ⟨p,a,na,ca,d,nd,cd,e,.inl (h.below hb)⟩
 ·exact ⟨p,a,na,ca,d,nd,cd,e,.inr h⟩
theorem ON.c3 {w0 w:World} {B g o:Nat} {l:List Value} {r:Rat} {S:Nat} (h:ON w0 w B l r S) (hb:Below w0.heap.size w0 w) (hc:w.rangeAt g o l):C3 w g o r S:=by
 obtain ⟨p,a,na,ca,d,nd,cd,rfl,h⟩:=h
 refine ⟨p,a,na,ca,d,nd,cd,hc 0 _ rfl,hc 1 _ rfl,hc 2 _ rfl,?_⟩
 rcases h with h|h
 ·exact h.tr
 ·exact h.below hb
theorem ON.len {w0 w:World} {B:Nat} {l:List Value} {r:Rat} {S:Nat} (h:ON w0 w B l r S):l.length=3:=by
 obtain ⟨p,a,na,ca,d,nd,cd,rfl,h⟩:=h
 rfl
def VA (w0 w:World) (B g o:Nat) (v:PV) (Y:Nat):Prop :=
 ∃ l1 l2 l3,w.rangeAt g o [.string v.nm]∧w.rangeAt g (o+1) l1∧w.rangeAt g (o+4) (.bool v.hlo::l2)∧w.rangeAt g (o+8) (.bool v.hhi::l3)∧w.rangeAt g (o+12) [.bool v.whole]∧ON w0 w B l1 v.obj Y∧ON w0 w B l2 v.lo Y∧ON w0 w B l3 v.hi Y
theorem VA.below {w0 w w':World} {B g o:Nat} {v:PV} {Y:Nat} (h:VA w0 w B g o v Y) (hb:Below w.heap.size w w'):VA w0 w' B g o v Y:=by
 obtain ⟨l1,l2,l3,h1,h2,h3,h4,h5,g1,g2,g3⟩:=h
 exact ⟨l1,l2,l3,range_below h1 hb,range_below h2 hb,range_below h3 hb,range_below h4 hb,range_below h5 hb,g1.below hb,g2.below hb,g3.below hb⟩
theorem VA.at {w0 w:World} {B g o:Nat} {v:PV} {Y:Nat} (h:VA w0 w B g o v Y) (hb:Below w0.heap.size w0 w) (s1:1≤Y) (so:SzR v.obj Y) (sl:SzR v.lo Y) (sh:SzR v.hi Y) (sn:v.nm.size≤Y):VarAt w g o v Y:=by
 obtain ⟨l1,l2,l3,h1,h2,h3,h4,h5,g1,g2,g3⟩:=h
 have r3:=range_sub h3 1 3
 have r4:=range_sub h4 1 3
 have e2:(((Value.bool v.hlo::l2).drop 1).take 3)=l2:=by have:=g2.len;simp [List.take_of_length_le,this]
 have e3:(((Value.bool v.hhi::l3).drop 1).take 3)=l3:=by have:=g3.len;simp [List.take_of_length_le,this]
 rw [e2] at r3
 rw [e3] at r4
 exact ⟨h1 0 _ rfl,g1.c3 hb h2,h3 0 _ rfl,g2.c3 hb r3,h4 0 _ rfl,g3.c3 hb r4,h5 0 _ rfl,s1,so,sl,sh,sn⟩
structure VS (w0 w:World) (B g n m:Nat) (V:Nat→PV) (Y:Nat→Nat):Prop where
 lo:B≤g
 row:∃ cur,w.heap[g]? = some (.cells cur 51 (0,0))∧cur.size=n*13
 el:∀ j,j<m→VA w0 w B g (j*13) (V j) (Y j)
theorem VS.lt {w0 w:World} {B g n m:Nat} {V:Nat→PV} {Y:Nat→Nat} (h:VS w0 w B g n m V Y):g<w.heap.size:=by
 obtain ⟨cur,h1,_⟩:=h.row
 exact (Array.getElem?_eq_some_iff.1 h1).1
theorem VS.below {w0 w w':World} {B g n m:Nat} {V:Nat→PV} {Y:Nat→Nat} (h:VS w0 w B g n m V Y) (hb:Below w.heap.size w w'):VS w0 w' B g n m V Y:=by
 have hg:=h.lt
 obtain ⟨cur,h1,h2⟩:=h.row
 exact ⟨h.lo,⟨cur,(hb.block g hg).trans h1,h2⟩,fun j hj=>(h.el j hj).below hb⟩
theorem VS.congr {w0 w:World} {B g n m:Nat} {V V':Nat→PV} {Y:Nat→Nat} (h:VS w0 w B g n m V Y) (e:∀ j,j<m→V j=V' j):VS w0 w B g n m V' Y:=⟨h.lo,h.row,fun j hj=>by rw [← e j hj];exact h.el j hj⟩
theorem VS.there {w0 w:World} {B g n m:Nat} {V:Nat→PV} {Y:Nat→Nat} (h:VS w0 w B g n m V Y) {o k:Nat} (ho:o+k≤n*13):w.there g o k:=fun j hj=>by
 obtain ⟨cur,h1,h2⟩:=h.row
 refine ⟨?_,frozen_of_row w g _ cur _ h1⟩
 rw [cell_of_row w g _ cur _ (0,0) h1,Array.getElem?_eq_getElem (by omega)]
 rfl
theorem VS.noW {w0 w:World} {B g n m:Nat} {V:Nat→PV} {Y:Nat→Nat} (h:VS w0 w B g n m V Y):NoW w (some g):=fun k e=>by
 obtain ⟨cur,h1,_⟩:=h.row
 cases e
 exact ⟨cur,_,h1,by decide⟩
theorem VS.put {w0 w:World} {B g n m m':Nat} {V V':Nat→PV} {Y:Nat→Nat} (h:VS w0 w B g n m V Y) {j:Nat} (o:Nat) (vs:List Value) (ho:o+vs.length≤13) (hm:∀ i,i<m'→i=j∨i<m∧V' i=V i) (hn:VA w0 (w.setCells g (j*13+o) vs) B g (j*13) (V' j) (Y j)):VS w0 (w.setCells g (j*13+o) vs) B g n m' V' Y:=by
 refine ⟨h.lo,setRow vs _ w h.row,fun i hi=>?_⟩
 by_cases e:i=j
 ·subst e;exact hn
 rcases hm i hi with e2|⟨h1,e2⟩
 ·exact absurd e2 e
 ·have hnw:=h.noW
  have hg:=(cellsOff g vs (j*13+o) w).grown
  obtain ⟨l1,l2,l3,c1,c2,c3,c4,c5,g1,g2,g3⟩:=h.el i h1
  have z1:=g1.len
  have z2:=g2.len
  have z3:=g3.len
  rw [e2]
  have hap:∀ o' k,o'+k≤13→(i*13+o')+k≤j*13+o∨(j*13+o)+vs.length≤i*13+o':=fun o' k hk=>by
   rcases (by omega:i<j∨j<i) with h2|h2
   ·left;omega
   ·right;omega
  exact ⟨l1,l2,l3,World.rangeAt_setCells_apart c1 g _ vs (.inr (hap 0 1 (by omega))),World.rangeAt_setCells_apart c2 g _ vs (.inr (by rw [z1];exact hap 1 3 (by omega))),World.rangeAt_setCells_apart c3 g _ vs (.inr (by rw [List.length_cons,z2];exact hap 4 4 (by omega))),World.rangeAt_setCells_apart c4 g _ vs (.inr (by rw [List.length_cons,z3];exact hap 8 4 (by omega))),World.rangeAt_setCells_apart c5 g _ vs (.inr (hap 12 1 (by omega))),g1.keep hnw hg,g2.keep hnw hg,g3.keep hnw hg⟩
theorem VS.putObj {w0 w:World} {B g n m:Nat} {V:Nat→PV} {Y:Nat→Nat} (h:VS w0 w B g n m V Y) {j:Nat} (hj:j<m) (hmn:m≤n) {l:List Value} {r:Rat} (hl:ON w0 w B l r (Y j)) :
  VS w0 (w.setCells g (j*13+1) l) B g n m (fun i=>if i=j then { V j with obj:=r } else V i) Y:=by
 have z:=hl.len
 refine h.put 1 l (by omega) (fun i hi=>?_) ?_
 ·by_cases e:i=j
  ·exact .inl e
  ·exact .inr ⟨hi,if_neg e⟩
 ·rw [if_pos rfl]
  have hnw:=h.noW
  have hg:=(cellsOff g l (j*13+1) w).grown
  obtain ⟨l1,l2,l3,c1,c2,c3,c4,c5,g1,g2,g3⟩:=h.el j hj
  exact ⟨l,l2,l3,World.rangeAt_setCells_apart c1 g _ l (.inr (.inl (by simp))),World.rangeAt_setCells_same w g _ l (h.there (by omega)),World.rangeAt_setCells_apart c3 g _ l (.inr (.inr (by omega))),World.rangeAt_setCells_apart c4 g _ l (.inr (.inr (by omega))),World.rangeAt_setCells_apart c5 g _ l (.inr (.inr (by omega))),hl.keep hnw hg,g2.keep hnw hg,g3.keep hnw hg⟩
theorem VS.putLo {w0 w:World} {B g n m:Nat} {V:Nat→PV} {Y:Nat→Nat} (h:VS w0 w B g n m V Y) {j:Nat} (hj:j<m) (hmn:m≤n) {hh:Bool} {l:List Value} {r:Rat} (hl:ON w0 w B l r (Y j)) :
  VS w0 (w.setCells g (j*13+4) (.bool hh::l)) B g n m (fun i=>if i=j then { V j with hlo:=hh,lo:=r } else V i) Y:=by
 have z:=hl.len
 refine h.put 4 _ (by rw [List.length_cons];omega) (fun i hi=>?_) ?_
 ·by_cases e:i=j
  ·exact .inl e
  ·exact .inr ⟨hi,if_neg e⟩
 ·rw [if_pos rfl]
  have hnw:=h.noW
  have hg:=(cellsOff g (.bool hh::l) (j*13+4) w).grown
  obtain ⟨l1,l2,l3,c1,c2,c3,c4,c5,g1,g2,g3⟩:=h.el j hj
  have z1:=g1.len
  exact ⟨l1,l,l3,World.rangeAt_setCells_apart c1 g _ _ (.inr (.inl (by simp))),World.rangeAt_setCells_apart c2 g _ _ (.inr (.inl (by omega))),World.rangeAt_setCells_same w g _ _ (h.there (by rw [List.length_cons];omega)),World.rangeAt_setCells_apart c4 g _ _ (.inr (.inr (by rw [List.length_cons];omega))),World.rangeAt_setCells_apart c5 g _ _ (.inr (.inr (by rw [List.length_cons];omega))),g1.keep hnw hg,hl.keep hnw hg,g3.keep hnw hg⟩
theorem VS.putHi {w0 w:World} {B g n m:Nat} {V:Nat→PV} {Y:Nat→Nat} (h:VS w0 w B g n m V Y) {j:Nat} (hj:j<m) (hmn:m≤n) {hh:Bool} {l:List Value} {r:Rat} (hl:ON w0 w B l r (Y j)) :
  VS w0 (w.setCells g (j*13+8) (.bool hh::l)) B g n m (fun i=>if i=j then { V j with hhi:=hh,hi:=r } else V i) Y:=by
 have z:=hl.len
 refine h.put 8 _ (by rw [List.length_cons];omega) (fun i hi=>?_) ?_
 ·by_cases e:i=j
  ·exact .inl e
  ·exact .inr ⟨hi,if_neg e⟩
 ·rw [if_pos rfl]
  have hnw:=h.noW
  have hg:=(cellsOff g (.bool hh::l) (j*13+8) w).grown
  obtain ⟨l1,l2,l3,c1,c2,c3,c4,c5,g1,g2,g3⟩:=h.el j hj
  have z1:=g1.len
  have z2:=g2.len
  exact ⟨l1,l2,l,World.rangeAt_setCells_apart c1 g _ _ (.inr (.inl (by simp))),World.rangeAt_setCells_apart c2 g _ _ (.inr (.inl (by omega))),World.rangeAt_setCells_apart c3 g _ _ (.inr (.inl (by rw [List.length_cons];omega))),World.rangeAt_setCells_same w g _ _ (h.there (by rw [List.length_cons];omega)),World.rangeAt_setCells_apart c5 g _ _ (.inr (.inr (by rw [List.length_cons];omega))),g1.keep hnw hg,g2.keep hnw hg,hl.keep hnw hg⟩
theorem VS.putWh {w0 w:World} {B g n m:Nat} {V:Nat→PV} {Y:Nat→Nat} (h:VS w0 w B g n m V Y) {j:Nat} (hj:j<m) (hmn:m≤n) (hh:Bool) :
  VS w0 (w.setCells g (j*13+12) [.bool hh]) B g n m (fun i=>if i=j then { V j with whole:=hh } else V i) Y:=by
 refine h.put 12 _ (by simp) (fun i hi=>?_) ?_
 ·by_cases e:i=j
  ·exact .inl e
  ·exact .inr ⟨hi,if_neg e⟩
 ·rw [if_pos rfl]
  have hnw:=h.noW
  have hg:=(cellsOff g [.bool hh] (j*13+12) w).grown
  obtain ⟨l1,l2,l3,c1,c2,c3,c4,c5,g1,g2,g3⟩:=h.el j hj
  have z1:=g1.len
  have z2:=g2.len
  have z3:=g3.len
  exact ⟨l1,l2,l3,World.rangeAt_setCells_apart c1 g _ _ (.inr (.inl (by simp))),World.rangeAt_setCells_apart c2 g _ _ (.inr (.inl (by omega))),World.rangeAt_setCells_apart c3 g _ _ (.inr (.inl (by rw [List.length_cons];omega))),World.rangeAt_setCells_apart c4 g _ _ (.inr (.inl (by rw [List.length_cons];omega))),World.rangeAt_setCells_same w g _ _ (h.there (by simp;omega)),g1.keep hnw hg,g2.keep hnw hg,g3.keep hnw hg⟩
theorem VS.putV {w0 w:World} {B g n m:Nat} {V:Nat→PV} {Y:Nat→Nat} (h:VS w0 w B g n m V Y) (hmn:m<n) {nm:ByteArray} {hl hh wh:Bool} {p1 p2 p3:Bool} {a1 a2 a3:Option Addr} {n1 n2 n3 c1 c2 c3:Nat} {d1 d2 d3:Option Addr} {m1 m2 m3 q1 q2 q3:Nat} {r1 r2 r3:Rat}
  (h1:ON w0 w B [.bool p1,.slice a1 n1 c1,.slice d1 m1 q1] r1 (Y m)) (h2:ON w0 w B [.bool p2,.slice a2 n2 c2,.slice d2 m2 q2] r2 (Y m)) (h3:ON w0 w B [.bool p3,.slice a3 n3 c3,.slice d3 m3 q3] r3 (Y m)) :
  VS w0 (w.setCells g (m*13+0) [.string nm,.bool p1,.slice a1 n1 c1,.slice d1 m1 q1,.bool hl,.bool p2,.slice a2 n2 c2,.slice d2 m2 q2,.bool hh,.bool p3,.slice a3 n3 c3,.slice d3 m3 q3,.bool wh]) B g n (m+1) (fun i=>if i=m then ⟨nm,r1,hl,r2,hh,r3,wh⟩ else V i) Y:=by
 refine h.put 0 _ (by simp) (fun i hi=>?_) ?_
 ·by_cases e:i=m
  ·exact .inl e
  ·exact .inr ⟨by omega,if_neg e⟩
 ·rw [if_pos rfl]
  have hnw:=h.noW
  have hg:=(cellsOff g [.string nm,.bool p1,.slice a1 n1 c1,.slice d1 m1 q1,.bool hl,.bool p2,.slice a2 n2 c2,.slice d2 m2 q2,.bool hh,.bool p3,.slice a3 n3 c3,.slice d3 m3 q3,.bool wh] (m*13+0) w).grown
  have hs:=World.rangeAt_setCells_same w g (m*13+0) [.string nm,.bool p1,.slice a1 n1 c1,.slice d1 m1 q1,.bool hl,.bool p2,.slice a2 n2 c2,.slice d2 m2 q2,.bool hh,.bool p3,.slice a3 n3 c3,.slice d3 m3 q3,.bool wh] (h.there (by simp;omega))
  exact ⟨_,_,_,range_sub hs 0 1,range_sub hs 1 3,range_sub hs 4 4,range_sub hs 8 4,range_sub hs 12 1,h1.keep hnw hg,h2.keep hnw hg,h3.keep hnw hg⟩
theorem VS.lv {w0 w:World} {B g n:Nat} {V:Nat→PV} {Y:Nat→Nat} (h:VS w0 w B g n n V Y) (hb:Below w0.heap.size w0 w) (hs:∀ j,j<n→1≤Y j∧SzR (V j).obj (Y j)∧SzR (V j).lo (Y j)∧SzR (V j).hi (Y j)∧(V j).nm.size≤Y j):LV w (some ⟨g,0,none⟩) n V Y :=
 .inr ⟨g,0,rfl,fun j hj=>by
  obtain ⟨s1,s2,s3,s4,s5⟩:=hs j hj
  rw [Nat.zero_add]
  exact (h.el j hj).at hb s1 s2 s3 s4 s5⟩
theorem wpList_makeVs (w0 w:World) {ops:Array Oper} {rest:List Oper} {o:Oper} {a:Act} {Q:Exit→Act→World→Prop} (hg:o.guard=none) (l c:Operand) (hop:o.op=Op.makeSlice 28 l c)
  (n:Nat) (hl:a.eval l = .int .i64 (n:Int)) (hc:a.eval c = .int .i64 (n:Int)) (hn:n≤100000000) (V:Nat→PV) (Y:Nat→Nat)
  (h:∀ w',VS w0 w' w.heap.size w.heap.size n 0 V Y→Below w.heap.size w w'→w'.heap.size=w.heap.size+1→wpList Tryz.prog ops Q rest (a.put o.dst (.slice (some ⟨w.heap.size,0,none⟩) n n)) w'):wpList Tryz.prog ops Q (o::rest) a w:=by
 obtain ⟨i0,z,hi,hz,hs3,hb56,hz3⟩:=infVar
 have hr:=run_make (P:=Tryz.prog) w 28 51 i0 z Tryz.underlying28 hi hz .i64 .i64 (n:Int) (n:Int) (by omega) (Int.le_refl _) (by rw [hb56];omega) (by omega)
 simp only [Int.toNat_natCast] at hr
 refine wpList_plain hg fun K hK'=>?_
 unfold Oper.wp execOp
 simp only [hop,Sem.run_bind,Sem.run_pure,Result.andThen_ok,hl,hc,hr]
 exact hK' _ _ (h _ ⟨Nat.le_refl _,⟨_,heap_alloc_new w _,by rw [size_madeCells,hs3]⟩,fun i hi=>by omega⟩ (bel_d0 w _) (by simp))
end Go.Proofs.YtceigfafmalfgaaGreatDoor

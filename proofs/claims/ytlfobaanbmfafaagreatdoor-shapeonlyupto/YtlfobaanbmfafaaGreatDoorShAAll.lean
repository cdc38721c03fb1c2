import Derived.Test.YtlfobaanbmfafaaGreatDoorPrEAll
import Derived.Test.YtlfobaanbmfafaaGreatDoorPqGAll
import Derived.Test.YtlfobaanbmfafaaGreatDoorGuardS
import Derived.Test.YtlfobaanbmfafaaGreatDoorR3M
import Derived.Test.YtlfobaanbmfafaaGreatDoorRatAll
namespace Go.Proofs.YtlfobaanbmfafaaGreatDoor
def wid (v:PV):Nat:=if v.hlo then 1 else if v.hhi then 1 else 2
def clm (V:Nat→PV):Nat→Nat
 | 0=>0
 | j + 1=>clm V j + wid (V j)
def ptv (v:PV) (u:Nat) (Y:Nat→Rat):Rat:=if v.hlo then v.lo + Y u else if v.hhi then v.hi - Y u else Y u - Y (u + 1)
def ryv (v:PV) (u:Nat) (Y:Nat→Rat):Rat:=if v.hlo then Y u else if v.hhi then - Y u else Y u - Y (u + 1)
def vbs (v:PV):Rat:=if v.hlo then v.lo else if v.hhi then v.hi else 0
theorem ptv_ryv (v:PV) (u:Nat) (Y:Nat→Rat):ptv v u Y = vbs v + ryv v u Y:=by
 unfold ptv vbs ryv
 cases v.hlo <;> cases v.hhi <;> simp [Rat.sub_eq_add_neg,Rat.zero_add]
theorem ryv_nil (v:PV) (u:Nat):ryv v u (fun _=>0) = 0:=by
 unfold ryv
 cases v.hlo <;> cases v.hhi <;> simp [Rat.sub_eq_add_neg,Rat.add_zero]
theorem ptv_nil (v:PV) (u:Nat):ptv v u (fun _=>0) = vbs v:=by rw [ptv_ryv,ryv_nil,Rat.add_zero]
theorem rat_swap (a b c d:Rat):a + b + (c + d) = a + c + (b + d):=by
 rw [Rat.add_assoc,Rat.add_assoc,← Rat.add_assoc b,Rat.add_comm b c,Rat.add_assoc c]
theorem ryv_add (v:PV) (u:Nat) (Y Z:Nat→Rat):ryv v u (fun i=>Y i + Z i) = ryv v u Y + ryv v u Z:=by
 unfold ryv
 cases v.hlo <;> cases v.hhi <;> simp [Rat.sub_eq_add_neg,Rat.neg_add] <;> exact rat_swap _ _ _ _
theorem clm_le (V:Nat→PV) (n:Nat):clm V n≤2 * n:=by
 induction n with
 | zero=>exact Nat.le_refl _
 | succ n ih =>
  show clm V n + wid (V n)≤_
  have:wid (V n)≤2:=by unfold wid;split <;> (try split) <;> omega
  omega
theorem wid_pos (v:PV):1≤wid v:=by unfold wid;split <;> (try split) <;> omega
theorem clm_mono (V:Nat→PV) {j n:Nat} (h:j≤n):clm V j≤clm V n:=by
 induction n with
 | zero =>
  have:j = 0:=by omega
  subst this;exact Nat.le_refl _
 | succ n ih =>
  rcases (by omega:j≤n∨j = n + 1) with h1 | rfl
  ·exact Nat.le_trans (ih h1) (by show _≤clm V n + wid (V n);omega)
  ·exact Nat.le_refl _
theorem clm_lt (V:Nat→PV) {j n:Nat} (h:j < n):clm V j + wid (V j)≤clm V n:=clm_mono V (show j + 1≤n from h)
def spl (v:PV) (u:Nat) (c:Rat):List PT:=if v.hlo then [⟨u,c⟩] else if v.hhi then [⟨u,-c⟩] else [⟨u,c⟩,⟨((u + 1:Nat):Int),-c⟩]
theorem spl_len (v:PV) (u:Nat) (c:Rat):(spl v u c).length = wid v:=by
 unfold spl wid
 split
 ·rfl
 ·split <;> rfl
def tsum (Y:Nat→Rat):List PT→Rat
 | []=>0
 | t :: l=>t.coef * Y t.var.toNat + tsum Y l
theorem tsum_app (Y:Nat→Rat):∀ l m,tsum Y (l ++ m) = tsum Y l + tsum Y m
 | [],m=>(Rat.zero_add _).symm
 | t :: l,m=>by
  show t.coef * Y t.var.toNat + tsum Y (l ++ m) = t.coef * Y t.var.toNat + tsum Y l + tsum Y m
  rw [tsum_app Y l m,Rat.add_assoc]
theorem tsum_spl (v:PV) (u:Nat) (c:Rat) (Y:Nat→Rat):tsum Y (spl v u c) = c * ryv v u Y:=by
 unfold spl ryv
 cases v.hlo
 ·cases v.hhi
  ·simp only [Bool.false_eq_true,if_false]
   show c * Y ((u:Int)).toNat + (-c * Y (((u + 1:Nat):Int)).toNat + 0) = _
   rw [Int.toNat_natCast,Int.toNat_natCast,Rat.add_zero,Rat.sub_eq_add_neg,Rat.mul_add,Rat.neg_mul,Rat.mul_neg]
  ·simp only [Bool.false_eq_true,if_false,if_true]
   show -c * Y ((u:Int)).toNat + 0 = _
   rw [Int.toNat_natCast,Rat.add_zero,Rat.neg_mul,Rat.mul_neg]
 ·simp only [if_true]
  show c * Y ((u:Int)).toNat + 0 = _
  rw [Int.toNat_natCast,Rat.add_zero]
def cstL (V:Nat→PV) (c:Nat→Rat):Nat→List PT
 | 0=>[]
 | j + 1=>cstL V c j ++ spl (V j) (clm V j) (c j)
theorem cstL_len (V:Nat→PV) (c:Nat→Rat):∀ n,(cstL V c n).length = clm V n
 | 0=>rfl
 | n + 1=>by
  show (cstL V c n ++ spl (V n) (clm V n) (c n)).length = clm V n + wid (V n)
  rw [List.length_append,cstL_len V c n,spl_len]
theorem tsum_cstL (V:Nat→PV) (c:Nat→Rat) (Y:Nat→Rat):∀ n,tsum Y (cstL V c n) = rsum (fun j=>c j * ryv (V j) (clm V j) Y) n
 | 0=>rfl
 | n + 1=>by
  show tsum Y (cstL V c n ++ spl (V n) (clm V n) (c n)) = _
  rw [tsum_app,tsum_cstL V c Y n,tsum_spl,rsum_succ]
def Inc (n:Nat) (l:List PT):Prop:=l.Pairwise (fun a b=>a.var < b.var)∧∀ t ∈ l,0≤t.var∧t.var < (n:Int)
theorem Inc.nil (n:Nat):Inc n []:=⟨List.Pairwise.nil,fun t h=>by cases h⟩
theorem Inc.app {n m:Nat} {l k:List PT} (hl:Inc n l) (hk:Inc m k) (hnm:n≤m) (h:∀ t ∈ k,(n:Int)≤t.var):Inc m (l ++ k):=by
 refine ⟨List.pairwise_append.2 ⟨hl.1,hk.1,fun a ha b hb=>?_⟩,fun t ht=>?_⟩
 ·have:=(hl.2 a ha).2
  have:=h b hb
  omega
 ·rcases List.mem_append.1 ht with h1 | h1
  ·have:=hl.2 t h1;omega
  ·exact hk.2 t h1
theorem Inc.up {n m:Nat} {l:List PT} (hl:Inc n l) (h:n≤m):Inc m l:=⟨hl.1,fun t ht=>by have:=hl.2 t ht;omega⟩
theorem spl_inc (v:PV) (u:Nat) (c:Rat):Inc (u + wid v) (spl v u c)∧∀ t ∈ spl v u c,(u:Int)≤t.var:=by
 unfold spl wid Inc
 cases v.hlo
 ·cases v.hhi
  ·simp
   omega
  ·simp
   omega
 ·simp
  omega
theorem cstL_inc (V:Nat→PV) (c:Nat→Rat):∀ n,Inc (clm V n) (cstL V c n)
 | 0=>Inc.nil _
 | n + 1=>(cstL_inc V c n).app (spl_inc _ _ _).1 (by show _≤clm V n + wid (V n);omega) (spl_inc _ _ _).2
def sprI (l:List PT):Nat→Nat→Rat
 | 0,_=>0
 | i + 1,c=>if (c:Int) = (l.getD i ⟨0,0⟩).var then (l.getD i ⟨0,0⟩).coef else sprI l i c
def sprd (l:List PT) (c:Nat):Rat:=sprI l l.length c
theorem sprI_app (l:List PT) (t:PT) (c:Nat):∀ i,i≤l.length→sprI (l ++ [t]) i c = sprI l i c
 | 0,_=>rfl
 | i + 1,h=>by
  have e:(l ++ [t]).getD i ⟨0,0⟩ = l.getD i ⟨0,0⟩:=by
   simp only [List.getD_eq_getElem?_getD]
   rw [List.getElem?_append_left (by omega)]
  unfold sprI
  rw [e,sprI_app l t c i (by omega)]
theorem sprd_app (l:List PT) (t:PT) (c:Nat):sprd (l ++ [t]) c = if (c:Int) = t.var then t.coef else sprd l c:=by
 unfold sprd
 have e:(l ++ [t]).getD l.length ⟨0,0⟩ = t:=by simp [List.getD_eq_getElem?_getD]
 rw [List.length_append]
 show (if (c:Int) = ((l ++ [t]).getD l.length ⟨0,0⟩).var then ((l ++ [t]).getD l.length ⟨0,0⟩).coef else sprI (l ++ [t]) l.length c) = _
 rw [e,sprI_app l t c _ (Nat.le_refl _)]
theorem snoc_ind {p:List PT→Prop} (h0:p []) (h1:∀ l t,p l→p (l ++ [t])) (l:List PT):p l:=by
 have:∀ n (l:List PT),l.length = n→p l:=by
  intro n
  induction n with
  | zero=>intro l e;rw [List.length_eq_zero_iff.1 e];exact h0
  | succ n ih =>
   intro l e
   have hne:l ≠ []:=fun h=>by subst h;simp at e
   rw [← List.dropLast_concat_getLast hne]
   exact h1 _ _ (ih _ (by rw [List.length_dropLast];omega))
 exact this _ l rfl
theorem sprd_ge {n:Nat} {l:List PT} (h:∀ t ∈ l,t.var < (n:Int)) {c:Nat} (hc:n≤c):sprd l c = 0:=by
 induction l using snoc_ind with
 | h0=>rfl
 | h1 l t ih =>
  rw [sprd_app,if_neg,ih fun t ht=>h t (List.mem_append.2 (.inl ht))]
  have:=h t (List.mem_append.2 (.inr (List.mem_singleton.2 rfl)))
  omega
theorem rsum_zero {X:Nat→Rat} (n:Nat) (h:∀ i,i < n→X i = 0):rsum X n = 0:=by
 induction n with
 | zero=>rfl
 | succ n ih=>rw [rsum_succ,ih fun i hi=>h i (by omega),h n (by omega),Rat.add_zero]
theorem rsum_at (X:Nat→Rat) (a:Rat) {j:Nat}:∀ n,j < n→X j = 0→rsum (fun i=>if i = j then a else X i) n = rsum X n + a
 | 0,h,_=>by omega
 | n + 1,h,h0=>by
  rw [rsum_succ,rsum_succ]
  by_cases e:j = n
  ·subst e
   simp only [if_true]
   rw [h0,Rat.add_zero]
   congr 1
   exact rsum_congr fun i hi=>if_neg (by omega)
  ·rw [if_neg (fun e2=>e e2.symm),rsum_at X a n (by omega) h0,Rat.add_assoc,Rat.add_comm a,Rat.add_assoc]
theorem sprd_sum {n:Nat} {l:List PT} (h:Inc n l) (Y:Nat→Rat):rsum (fun c=>sprd l c * Y c) n = tsum Y l:=by
 induction l using snoc_ind with
 | h0=>exact rsum_zero n fun i _=>Rat.zero_mul _
 | h1 l t ih =>
  have hl:Inc n l:=⟨(List.pairwise_append.1 h.1).1,fun s hs=>h.2 s (List.mem_append.2 (.inl hs))⟩
  have ht:=h.2 t (List.mem_append.2 (.inr (List.mem_singleton.2 rfl)))
  have hlt:∀ s ∈ l,s.var < t.var:=fun s hs=>(List.pairwise_append.1 h.1).2.2 s hs t (List.mem_singleton.2 rfl)
  have hz:sprd l t.var.toNat = 0:=sprd_ge (n:=t.var.toNat) (fun s hs=>by have:=hlt s hs;omega) (Nat.le_refl _)
  have e:rsum (fun c=>sprd (l ++ [t]) c * Y c) n = rsum (fun c=>if c = t.var.toNat then t.coef * Y t.var.toNat else sprd l c * Y c) n:=by
   refine rsum_congr fun c _=>?_
   rw [sprd_app]
   by_cases hc:(c:Int) = t.var
   ·have:c = t.var.toNat:=by omega
    rw [if_pos hc,if_pos this,this]
   ·rw [if_neg hc,if_neg (by omega)]
  rw [e,rsum_at _ _ n (by omega) (by rw [hz,Rat.zero_mul]),ih hl,tsum_app]
  show _ = _ + (t.coef * Y t.var.toNat + 0)
  rw [Rat.add_zero]
def zn (n:Nat) (X:Nat→Rat) (i:Nat):Rat:=if i < n then X i else 0
structure Eqn where
 l:List PT
 r:Rat
def rowT (V:Nat→PV) (t:Nat→PT):Nat→List PT
 | 0=>[]
 | q + 1=>rowT V t q ++ spl (V (t q).var.toNat) (clm V (t q).var.toNat) (t q).coef
def eqsR (V:Nat→PV) (r:PW) (st:Rat) (c:Nat):List Eqn × Nat :=
 if r.hlo then
  if r.hhi then
   if r.lo - st = r.hi - st then ([⟨rowT V r.t r.nt,r.lo - st⟩],c)
   else ([⟨rowT V r.t r.nt ++ [⟨c,-1⟩],r.lo - st⟩,⟨[⟨c,1⟩,⟨((c + 1:Nat):Int),1⟩],(r.hi - st) - (r.lo - st)⟩],c + 2)
  else ([⟨rowT V r.t r.nt ++ [⟨c,-1⟩],r.lo - st⟩],c + 1)
 else if r.hhi then ([⟨rowT V r.t r.nt ++ [⟨c,1⟩],r.hi - st⟩],c + 1)
 else ([],c)
def rowsE (V:Nat→PV) (R:Nat→PW) (st:Nat→Rat) (n:Nat):Nat→List Eqn × Nat
 | 0=>([],clm V n)
 | i + 1=>((rowsE V R st n i).1 ++ (eqsR V (R i) (st i) (rowsE V R st n i).2).1,(eqsR V (R i) (st i) (rowsE V R st n i).2).2)
def varsE (V:Nat→PV) (A:List Eqn × Nat):Nat→List Eqn × Nat
 | 0=>A
 | j + 1=>if (V j).hlo && (V j).hhi then ((varsE V A j).1 ++ [⟨[⟨(clm V j:Nat),1⟩,⟨((varsE V A j).2:Nat),1⟩],(V j).hi - (V j).lo⟩],(varsE V A j).2 + 1) else varsE V A j
end Go.Proofs.YtlfobaanbmfafaaGreatDoor
namespace Go.Proofs.YtlfobaanbmfafaaGreatDoor
open Go.RowKit
structure Kx (R F:Nat) (L:List TypeId) (w w':World):Prop where
 os:w'.os = w.os
 tape:w'.tape = w.tape
 output:w'.output = w.output
 size:w.heap.size≤w'.heap.size
 low:∀ k,k < F→k ≠ R→w'.heap[k]? = w.heap[k]?
 high:∀ (k:Nat) (cur:Array Value) (T:TypeId) (f:Nat × Nat),w.heap[k]? = some (Obj.cells cur T f)→T ∉ L→w'.heap[k]? = w.heap[k]?
theorem Kx.refl (R F:Nat) (L:List TypeId) (w:World):Kx R F L w w:=⟨rfl,rfl,rfl,Nat.le_refl _,fun _ _ _=>rfl,fun _ _ _ _ _ _=>rfl⟩
theorem Kx.trans {R F:Nat} {L:List TypeId} {a b c:World} (h:Kx R F L a b) (k:Kx R F L b c):Kx R F L a c :=
 ⟨k.os.trans h.os,k.tape.trans h.tape,k.output.trans h.output,Nat.le_trans h.size k.size,fun i h1 h2=>(k.low i h1 h2).trans (h.low i h1 h2),fun i cur T f h1 h2=>by
  have e:=h.high i cur T f h1 h2
  exact (k.high i cur T f (e.trans h1) h2).trans e⟩
theorem Kx.up {R F:Nat} {L L':List TypeId} {a b:World} (h:Kx R F L a b) (hL:∀ T ∈ L,T ∈ L'):Kx R F L' a b :=
 ⟨h.os,h.tape,h.output,h.size,h.low,fun i cur T f h1 h2=>h.high i cur T f h1 fun e=>h2 (hL _ e)⟩
theorem Kx.bel {R F:Nat} {L:List TypeId} {a b c:World} (h:Kx R F L a b) (k:Below b.heap.size b c) (hF:F≤b.heap.size):Kx R F L a c :=
 ⟨k.os.trans h.os,k.tape.trans h.tape,k.output.trans h.output,Nat.le_trans h.size k.size,fun i h1 h2=>(k.block i (by omega)).trans (h.low i h1 h2),fun i cur T f h1 h2=>by
  have e:=h.high i cur T f h1 h2
  exact (k.block i (Array.getElem?_eq_some_iff.1 (e.trans h1)).1).trans e⟩
theorem Kx.below {R F:Nat} {L:List TypeId} {a b:World} (h:Kx R F L a b) (hF:R≤F):Below R a b:=⟨h.os,h.tape,h.output,h.size,fun k hk=>h.low k (by omega) (by omega)⟩
theorem kx_of {R F:Nat} {L:List TypeId} {b c:World} (k:Below b.heap.size b c) (hF:F≤b.heap.size):Kx R F L b c:=(Kx.refl R F L b).bel k hF
theorem Kx.off {R F:Nat} {L:List TypeId} {a b c:World} (h:Kx R F L a b) {t:TypeId} {cs:Array Value} (hr:Rw t b R cs) (ht:t ∈ L) (k:Off R b c):Kx R F L a c :=
 ⟨k.os.trans h.os,k.tape.trans h.tape,k.output.trans h.output,Nat.le_trans h.size (Nat.le_of_eq k.size.symm),fun i h1 h2=>(k.block i h2).trans (h.low i h1 h2),fun i cur T f h1 h2=>by
  have e:=h.high i cur T f h1 h2
  refine (k.block i fun e2=>?_).trans e
  subst e2
  unfold Rw at hr
  rw [e,h1] at hr
  simp only [Option.some.injEq,Obj.cells.injEq] at hr
  exact h2 (hr.2.1 ▸ ht)⟩
theorem Kx.grown {R F:Nat} {L:List TypeId} {a b c:World} (h:Kx R F L a b) {B:Nat} {T:TypeId} {d:Nat} {v:Value} {n:Nat} {E:Nat→List Value} (hs:SL b B T d v n E) (hT:T ∈ L) (hB:F≤B) (hF:F≤b.heap.size) (k:b.grownBy c v.ownBlock):Kx R F L a c:=by
 have hlt:=hs.lt
 refine ⟨k.os.trans h.os,k.tape.trans h.tape,k.output.trans h.output,Nat.le_trans h.size k.size,fun i h1 h2=>(k.block i (by omega) fun e=>by have:=(hlt i e.symm).1;omega).trans (h.low i h1 h2),fun i cur U f h1 h2=>?_⟩
 have e:=h.high i cur U f h1 h2
 refine (k.block i (Array.getElem?_eq_some_iff.1 (e.trans h1)).1 fun e2=>?_).trans e
 obtain ⟨vs,g1,_⟩:=hs
 rcases g1.2 with ⟨rfl,_⟩ | ⟨g,cap,cu,e1,_,f1,_⟩
 ·simp [Value.ownBlock] at e2
 ·subst e1
  simp [Value.ownBlock] at e2
  subst e2
  rw [e,h1] at f1
  simp only [Option.some.injEq,Obj.cells.injEq] at f1
  exact h2 (f1.2.1 ▸ hT)
theorem Kx.fresh {R F:Nat} {L:List TypeId} {a b c:World} (h:Kx R F L a b) {row:Option Nat} (k:b.grownBy c row) (hr:∀ i,row = some i→a.heap.size≤i) (hF:F≤a.heap.size):Kx R F L a c:=by
 have hs:=h.size
 refine ⟨k.os.trans h.os,k.tape.trans h.tape,k.output.trans h.output,Nat.le_trans h.size k.size,fun i h1 h2=>(k.block i (by omega) fun e=>by have:=hr i e.symm;omega).trans (h.low i h1 h2),fun i cur U f h1 h2=>?_⟩
 have hi:=(Array.getElem?_eq_some_iff.1 h1).1
 exact (k.block i (by omega) fun e=>by have:=hr i e.symm;omega).trans (h.high i cur U f h1 h2)
theorem Rw.kxh {t:TypeId} {w w':World} {R F Q:Nat} {L:List TypeId} {cs:Array Value} (h:Rw t w Q cs) (k:Kx R F L w w') (ht:t ∉ L):Rw t w' Q cs:=(k.high Q _ _ _ h ht).trans h
theorem Rw.kxl {t:TypeId} {w w':World} {R F Q:Nat} {L:List TypeId} {cs:Array Value} (h:Rw t w Q cs) (k:Kx R F L w w') (h1:Q < F) (h2:Q ≠ R):Rw t w' Q cs:=(k.low Q h1 h2).trans h
theorem row_kxh {w w':World} {R F:Nat} {L:List TypeId} {B:Nat} {T:TypeId} {c:Nat} {v:Value} {n:Nat} {vs:List Value} (h:w.ownsRow B T c v n vs) (k:Kx R F L w w') (hT:T ∉ L):w'.ownsRow B T c v n vs:=by
 refine ⟨h.1,?_⟩
 rcases h.2 with hn | ⟨g,cap,cur,e1,e2,hgb,rest⟩
 ·exact .inl hn
 ·exact .inr ⟨g,cap,cur,e1,e2,(k.high g _ _ _ hgb hT).trans hgb,rest⟩
theorem SL.kxh {w w':World} {R F:Nat} {L:List TypeId} {B:Nat} {T:TypeId} {c:Nat} {v:Value} {n:Nat} {E:Nat→List Value} (h:SL w B T c v n E) (k:Kx R F L w w') (hT:T ∉ L):SL w' B T c v n E:=by
 obtain ⟨vs,h1,h2⟩:=h
 exact ⟨vs,row_kxh h1 k hT,h2⟩
theorem Got.kx {w w':World} {R F:Nat} {L:List TypeId} {B:Nat} {v:Value} {x:Int} {S:Nat} (h:Got w B v x S) (k:Kx R F L w w') (hL:125 ∉ L):Got w' B v x S:=by
 obtain ⟨xs,h1,h2⟩:=h
 exact ⟨xs,row_kxh h1 k hL,h2⟩
theorem GR.kx {w w':World} {R F:Nat} {L:List TypeId} {B:Nat} {f:Bool} {c:Option Addr} {n k:Nat} {c':Option Addr} {n' k':Nat} {r:Rat} {S:Nat} (h:GR w B f c n k c' n' k' r S) (hk:Kx R F L w w') (hL:125 ∉ L):GR w' B f c n k c' n' k' r S:=by
 refine ⟨?_,h.2.kx hk hL⟩
 obtain ⟨a,n2,c2,h1,h2⟩:=h.1
 exact ⟨a,n2,c2,h1,h2.kx hk hL⟩
theorem RL.kx {w w':World} {R F:Nat} {L:List TypeId} {B:Nat} {v:Value} {n:Nat} {X:Nat→Rat} {S:Nat} (h:RL w B v n X S) (hk:Kx R F L w w') (hL:125 ∉ L) (hL2:27 ∉ L):RL w' B v n X S:=by
 obtain ⟨vs,h1,h2⟩:=h
 refine ⟨vs,row_kxh h1 hk hL2,fun i hi=>?_⟩
 obtain ⟨p,a,na,ca,d,nd,cd,g1,g2,g3,g4⟩:=h2 i hi
 exact ⟨p,a,na,ca,d,nd,cd,g1,g2,g3,g4.kx hk hL⟩
theorem TC.kx {w w':World} {R F:Nat} {L:List TypeId} {B:Nat} {cs:List Value} {t:PT} {Y:Nat} (h:TC w B cs t Y) (hk:Kx R F L w w') (hL:125 ∉ L):TC w' B cs t Y:=by
 obtain ⟨p,a,na,ca,d,nd,cd,e,g⟩:=h
 exact ⟨p,a,na,ca,d,nd,cd,e,g.kx hk hL⟩
theorem TB.kx {w w':World} {R F:Nat} {L:List TypeId} (h:TB w) (hk:Kx R F L w w') (h1:2 < F) (h2:2 ≠ R):TB w' :=
 ⟨fun j hj=>by rw [World.cell?_of_block (w:=w) (hk.low _ h1 h2)];exact h.1 j hj,Nat.lt_of_lt_of_le h.2 hk.size⟩
def TM (w:World) (B:Nat) (v:Value) (l:List PT) (S:Nat):Prop:=∃ E,SL w B 58 4 v l.length E∧∀ i t,l[i]? = some t→TC w 0 (E i) t S
theorem TM.nil (w:World) (B S:Nat):TM w B (.slice none 0 0) [] S:=⟨fun _=>[],SL.nil _ _ _ _ _,fun i t h=>by simp at h⟩
theorem TM.kx {w w':World} {R F:Nat} {L:List TypeId} {B:Nat} {v:Value} {l:List PT} {S:Nat} (h:TM w B v l S) (hk:Kx R F L w w') (hL:125 ∉ L) (hL2:58 ∉ L):TM w' B v l S:=by
 obtain ⟨E,h1,h2⟩:=h
 exact ⟨E,h1.kxh hk hL2,fun i t hi=>(h2 i t hi).kx hk hL⟩
theorem TM.below {w w':World} {B:Nat} {v:Value} {l:List PT} {S:Nat} (h:TM w B v l S) (hb:Below w.heap.size w w'):TM w' B v l S:=by
 obtain ⟨E,h1,h2⟩:=h
 exact ⟨E,h1.below hb,fun i t hi=>(h2 i t hi).below hb⟩
theorem TM.mono {w:World} {B B':Nat} {v:Value} {l:List PT} {S:Nat} (h:TM w B v l S) (hB:B'≤B):TM w B' v l S:=by
 obtain ⟨E,h1,h2⟩:=h
 exact ⟨E,h1.mono hB,h2⟩
theorem TM.form {w:World} {B:Nat} {v:Value} {l:List PT} {S:Nat} (h:TM w B v l S):∃ a cap,v = .slice a l.length cap∧l.length≤cap:=by
 obtain ⟨E,h1,h2⟩:=h
 exact h1.form
theorem TM.app {w:World} {B:Nat} {v:Value} {l k:List PT} {S:Nat} {E D:Nat→List Value} (h:SL w B 58 4 v (l.length + k.length) (fun i=>if i < l.length then E i else D (i - l.length))) (hE:∀ i t,l[i]? = some t→TC w 0 (E i) t S) (hD:∀ i t,k[i]? = some t→TC w 0 (D i) t S):TM w B v (l ++ k) S:=by
 refine ⟨_,by rw [List.length_append];exact h,fun i t ht=>?_⟩
 by_cases hi:i < l.length
 ·rw [List.getElem?_append_left hi] at ht
  simp only [hi,if_true]
  exact hE i t ht
 ·rw [List.getElem?_append_right (by omega)] at ht
  simp only [hi,if_false]
  exact hD _ t ht
def EC (w:World) (B:Nat) (cs:List Value) (e:Eqn) (S:Nat):Prop:=∃ tv p a na ca d nd cd,cs = [tv,.bool p,.slice a na ca,.slice d nd cd]∧TM w B tv e.l S∧GR w 0 p a na ca d nd cd e.r S
theorem EC.kx {w w':World} {R F:Nat} {L:List TypeId} {B:Nat} {cs:List Value} {e:Eqn} {S:Nat} (h:EC w B cs e S) (hk:Kx R F L w w') (hL:125 ∉ L) (hL2:58 ∉ L):EC w' B cs e S:=by
 obtain ⟨tv,p,a,na,ca,d,nd,cd,e,h1,h2⟩:=h
 exact ⟨tv,p,a,na,ca,d,nd,cd,e,h1.kx hk hL hL2,h2.kx hk hL⟩
def EM (w:World) (B:Nat) (v:Value) (l:List Eqn) (S:Nat):Prop:=∃ E,SL w B 79 4 v l.length E∧∀ i e,l[i]? = some e→EC w B (E i) e S
theorem EM.nil (w:World) (B S:Nat):EM w B (.slice none 0 0) [] S:=⟨fun _=>[],SL.nil _ _ _ _ _,fun i t h=>by simp at h⟩
theorem EM.kx {w w':World} {R F:Nat} {L:List TypeId} {B:Nat} {v:Value} {l:List Eqn} {S:Nat} (h:EM w B v l S) (hk:Kx R F L w w') (hL:125 ∉ L) (hL2:58 ∉ L) (hL3:79 ∉ L):EM w' B v l S:=by
 obtain ⟨E,h1,h2⟩:=h
 exact ⟨E,h1.kxh hk hL3,fun i t hi=>(h2 i t hi).kx hk hL hL2⟩
theorem EM.form {w:World} {B:Nat} {v:Value} {l:List Eqn} {S:Nat} (h:EM w B v l S):∃ a cap,v = .slice a l.length cap∧l.length≤cap:=by
 obtain ⟨E,h1,h2⟩:=h
 exact h1.form
def FnE (f:FuncId):Prop:=∀ args w,(callFunc f args).run Tryz.prog w = .ok (.enter f args) w
theorem wp_callV {o:Oper} {a:Act} {w:World} {K:Act→World→Prop} {Q:Exit→Act→World→Prop} (x:Operand) (xs:Array Operand) (ats:Array TypeId) (f:FuncId) (caps:Array Value) (ho:o.op = .call { callee:=.value x,args:=xs,argTypes:=ats }) (hx:a.eval x = .func (.func f) #[] caps) (hf:FnE f)
  {Post:Ending→World→Prop} (hC:Calls Tryz.prog f (xs.map a.eval ++ caps) w Post) (hP:∀ e w',Post e w'→∃ v,e = .returned v∧K (a.put o.dst v) w'):Oper.wp Tryz.prog o a w K Q:=by
 obtain ⟨dst,op,ty,pos,after,guard⟩:=o
 simp only at ho
 subst ho
 have e:execOp a.eval { dst,op:=.call { callee:=.value x,args:=xs,argTypes:=ats },type:=ty,pos,after,guard } = callFunc f (xs.map a.eval ++ caps):=by
  show (Deferred.ofValue (a.eval x) (xs.map a.eval) >>= _) = _
  rw [hx]
  show callFunc f ((#[] ++ xs.map a.eval) ++ caps) = _
  rw [Array.empty_append]
 unfold Oper.wp
 rw [e,hf]
 rw [Oper.upon_enter]
 exact hC.mono fun e w' h=>by obtain ⟨v,rfl,hk⟩:=hP e w' h;exact hk
theorem wpList_callV {o:Oper} {ops:Array Oper} {rest:List Oper} {a:Act} {w:World} {Q:Exit→Act→World→Prop} (hgd:o.guard = none) (x:Operand) (xs:Array Operand) (ats:Array TypeId) (f:FuncId) (caps:Array Value) (ho:o.op = .call { callee:=.value x,args:=xs,argTypes:=ats }) (hx:a.eval x = .func (.func f) #[] caps) (hf:FnE f)
  {Post:Ending→World→Prop} (hC:Calls Tryz.prog f (xs.map a.eval ++ caps) w Post) (hP:∀ e w',Post e w'→∃ v,e = .returned v∧wpList Tryz.prog ops Q rest (a.put o.dst v) w'):wpList Tryz.prog ops Q (o :: rest) a w :=
 wpList_plain hgd fun _ hK=>wp_callV x xs ats f caps ho hx hf hC fun e w' h=>by obtain ⟨v,rfl,hk⟩:=hP e w' h;exact ⟨v,rfl,hK _ _ hk⟩
theorem fe1:FnE 89:=fun _ _=>by kernel_rfl
theorem fe2:FnE 91:=fun _ _=>by kernel_rfl
theorem fe3:FnE 92:=fun _ _=>by kernel_rfl
theorem fe4:FnE 93:=fun _ _=>by kernel_rfl
theorem fe5:FnE 94:=fun _ _=>by kernel_rfl
theorem fe6:FnE 95:=fun _ _=>by kernel_rfl
theorem fe7:FnE 96:=fun _ _=>by kernel_rfl
theorem fe8:FnE 97:=fun _ _=>by kernel_rfl
theorem zn_lt {n:Nat} {X:Nat→Rat} {u:Nat} (h:u < n):zn n X u = X u:=if_pos h
theorem zn_ge {n:Nat} {X:Nat→Rat} {u:Nat} (h:¬ u < n):zn n X u = ((0:Int):Rat):=if_neg h
set_option maxHeartbeats 4000000 in
theorem numAt {xa:Option Addr} {n xc:Nat} {X:Nat→Rat} {S:Nat} (u:Nat) (w:World) (hx:LQ w xa n X (fun _=>S)) (hS:S≤7000000) (hS1:1≤S) (hT:TB w) :
  Calls Tryz.prog 90 #[.slice xa n xc,.int .i64 (u:Nat)] w fun e w'=>∃ f c m k c' m' k',e = .returned (.agg #[.bool f,.slice c m k,.slice c' m' k'])∧GR w' w.heap.size f c m k c' m' k' (zn n X u) S∧Below w.heap.size w w':=by
 have R0:=var3_new w (.bool false) (.slice none 0 0) (.slice none 0 0) 27
 have hb0:=bel_d0 w (.cells #[.bool false,.slice none 0 0,.slice none 0 0] 27)
 have hsz:w.heap.size + 1≤(w.alloc (.cells #[.bool false,.slice none 0 0,.slice none 0 0] 27)).heap.size:=by simp
 have h1:¬ (u:Int) < 0:=by omega
 by_cases hq:u < n
 ·have h2:¬ (n:Int)≤(u:Int):=by omega
  have h3:(u:Int) < (n:Int):=by omega
  have hkI3:(u:Int) * 3 = ((u * 3:Nat):Int):=by omega
  rw [zn_lt hq]
  rcases hx with h0 | ⟨b,o,rfl,hel⟩
  ·omega
  obtain ⟨p,a,na,ca,d,nd,cd,c0,c1,c2,hr⟩:=hel u hq
  replace c0:=kept_c hb0 c0
  replace c1:=kept_c hb0 c1
  replace c2:=kept_c hb0 c2
  replace hr:=hr.below hb0
  replace hT:=hT.below hb0
  clear hel
  go_enter Tryz.func90,Tryz.ntmps90
  go_wp2_with fail
  generalize w.alloc (.cells #[.bool false,.slice none 0 0,.slice none 0 0] 27) = W0 at *
  refine (normR _ hr hS hS1 hT).mono ?_
  rintro e w3 ⟨f5,c5,n5,k5,d5,m5,l5,rfl,G5,hx⟩
  replace G5:=G5.mono (B':=w.heap.size + 1) hsz
  replace R0:=R0.below hx
  replace hb0:=bel_tr hb0 hx
  obtain ⟨r0c0,r0c1,r0c2,r0c3,r0c4,r0c5⟩:=id R0
  obtain ⟨RN,O⟩:=R0.set (.bool f5) (.slice c5 n5 k5) (.slice d5 m5 l5)
  have GN:=(G5.off O (by omega)).mono (B':=w.heap.size) (by omega)
  have BN:=hb0.trans (O.below (Nat.le_refl _))
  clear c0 c1 c2 hx
  go_wp2
  exact bodyPost_ret (v:=.agg #[.bool f5,.slice c5 n5 k5,.slice d5 m5 l5]) (by simp [results,Tryz.results90,go_sem,RN.c0,RN.c1,RN.c2]) rfl ⟨_,_,_,_,_,_,_,rfl,GN,BN⟩
 ·have h2:(n:Int)≤(u:Int):=by omega
  rw [zn_ge hq]
  go_enter Tryz.func90,Tryz.ntmps90
  go_wp2_with fail
  generalize w.alloc (.cells #[.bool false,.slice none 0 0,.slice none 0 0] 27) = W0 at *
  refine (ofQ 0 _ (by decide) (by decide)).mono ?_
  rintro e w3 ⟨f5,c5,n5,k5,d5,m5,l5,rfl,G5,hx⟩
  replace G5:=(G5.mono (B':=w.heap.size + 1) hsz).le hS1
  replace R0:=R0.below hx
  replace hb0:=bel_tr hb0 hx
  obtain ⟨r0c0,r0c1,r0c2,r0c3,r0c4,r0c5⟩:=id R0
  obtain ⟨RN,O⟩:=R0.set (.bool f5) (.slice c5 n5 k5) (.slice d5 m5 l5)
  have GN:=(G5.off O (by omega)).mono (B':=w.heap.size) (by omega)
  have BN:=hb0.trans (O.below (Nat.le_refl _))
  clear hx
  go_wp2
  exact bodyPost_ret (v:=.agg #[.bool f5,.slice c5 n5 k5,.slice d5 m5 l5]) (by simp [results,Tryz.results90,go_sem,RN.c0,RN.c1,RN.c2]) rfl ⟨_,_,_,_,_,_,_,rfl,GN,BN⟩
set_option maxRecDepth 100000 in
set_option maxHeartbeats 4000000 in
theorem up1 {p:Bool} {a:Option Addr} {na ca:Nat} {d:Option Addr} {nd cd:Nat} {r:Rat} {S:Nat} {xa:Option Addr} {n xc:Nat} {X:Nat→Rat} {T:Nat} {bl bu:Nat} (u:Nat) (w:World) (hl:Rw 27 w bl #[.bool p,.slice a na ca,.slice d nd cd]) (hr:GR w 0 p a na ca d nd cd r S) (hu:Rw 3 w bu #[.int .i64 (u:Nat)]) (hx:LQ w xa n X (fun _=>T)) (hT1:1≤T) (hST:S + T + T≤6000000) (hS1:1≤S) (hT:TB w) :
  Calls Tryz.prog 89 #[.slice xa n xc,.pointer (some ⟨bl,0,none⟩),.pointer (some ⟨bu,0,none⟩)] w fun e w'=>∃ f c m k c' m' k',e = .returned (.agg #[.bool f,.slice c m k,.slice c' m' k'])∧GR w' w.heap.size f c m k c' m' k' (r + zn n X u) (S + T + T + 1)∧Below w.heap.size w w':=by
 have R0:=var3_new w (.bool false) (.slice none 0 0) (.slice none 0 0) 27
 have hb0:=bel_d0 w (.cells #[.bool false,.slice none 0 0,.slice none 0 0] 27)
 have hsz:w.heap.size + 1≤(w.alloc (.cells #[.bool false,.slice none 0 0,.slice none 0 0] 27)).heap.size:=by simp
 replace hx:=hx.below hb0
 replace hT:=hT.below hb0
 replace hr:=hr.below hb0
 have x0:=((hl.below hb0).cell 0).trans (show _ = some (.bool p) from rfl)
 have x1:=((hl.below hb0).cell 1).trans (show _ = some (.slice a na ca) from rfl)
 have x2:=((hl.below hb0).cell 2).trans (show _ = some (.slice d nd cd) from rfl)
 have x3:=((hu.below hb0).cell 0).trans (show _ = some (.int .i64 (u:Nat)) from rfl)
 clear hl hu
 go_enter Tryz.func89,Tryz.ntmps89
 go_wp2_with fail
 generalize w.alloc (.cells #[.bool false,.slice none 0 0,.slice none 0 0] 27) = W0 at *
 have HBX:∀ w',Below W0.heap.size W0 w'→(w'.cell? ⟨bl,0,none⟩ = some (.bool p)∧w'.cell? ⟨bl,1,none⟩ = some (.slice a na ca)∧w'.cell? ⟨bl,2,none⟩ = some (.slice d nd cd)∧w'.cell? ⟨bu,0,none⟩ = some (.int .i64 (u:Nat))):=fun w' h=>⟨kept_c h x0,kept_c h x1,kept_c h x2,kept_c h x3⟩
 refine wp_region_noPanic (wp_region_guardT 5 HBX (by as_aux_lemma=>kernel_rfl) ?_)
 have hc0:Below W0.heap.size W0 W0.drew:=bel_d1 _
 generalize W0.drew = z0 at *
 refine wpAnyG.tT 0 (v:=.agg #[.bool p,.slice a na ca,.slice d nd cd]) (by decide) 5 (by as_aux_lemma=>kernel_rfl) (by rfl) ?y0 (HBX _ hc0) ?_
 case y0 =>
  rintro w' ⟨q0,q1,q2,q3⟩
  simp only [lgA,lgZ]
  go_simp
 simp only [lgA,lgZ,Act.put,lsA,lsZ,lsS]
 refine wpAnyG.tT 1 (v:=.slice xa n xc) (by decide) 5 (by as_aux_lemma=>kernel_rfl) (by rfl) ?y1 (HBX _ hc0) ?_
 case y1 =>
  rintro w' ⟨q0,q1,q2,q3⟩
  simp only [lgA,lgZ,lgS]
  go_simp
 simp only [lgA,lgZ,lgS,Act.put,lsA,lsZ,lsS]
 refine wpAnyG.tT 2 (v:=.int .i64 (u:Nat)) (by decide) 5 (by as_aux_lemma=>kernel_rfl) (by rfl) ?y2 (HBX _ hc0) ?_
 case y2 =>
  rintro w' ⟨q0,q1,q2,q3⟩
  simp only [lgA,lgZ,lgS]
  go_simp
 simp only [lgA,lgZ,lgS,Act.put,lsA,lsZ,lsS]
 refine wpAnyG.one 3 (by as_aux_lemma=>kernel_rfl) (by decide) (by rfl) (fun K hK=>?_)
 simp only [lgA,lgZ,lgS]
 go_simp
 refine (numAt u z0 (hx.below hc0) (by omega) hT1 (hT.below hc0)).mono ?_
 rintro e z1 ⟨f1,c1,n1,k1,d1,m1,l1,rfl,G1,hk1⟩
 have hc1:Below W0.heap.size W0 z1:=bel_tr hc0 hk1
 dsimp only
 refine hK _ _ ⟨fun _=>HBX _ hc1,fun _=>trivial⟩ ?_
 clear hK K
 refine wpAnyG.one 4 (by as_aux_lemma=>kernel_rfl) (by decide) (by rfl) (fun K hK=>?_)
 simp only [lgA,lgZ,lgS]
 go_simp
 refine (addQ z1 (hr.tr.below hc1) G1.tr (by omega) (by omega) (by omega) (hT.below hc1)).mono ?_
 rintro e z2 ⟨f2,c2,n2,k2,d2,m2,l2,rfl,G2,hk2⟩
 have hc2:Below W0.heap.size W0 z2:=bel_tr hc1 hk2
 dsimp only
 refine hK _ _ ⟨fun _=>HBX _ hc2,fun _=>trivial⟩ ?_
 clear hK K
 refine wpAnyG.one 5 (by as_aux_lemma=>kernel_rfl) (by decide) (by rfl) (fun K hK=>?_)
 simp only [lgA,lgZ,lgS]
 have R1:=R0.below hc2
 obtain ⟨r0c0,r0c1,r0c2,r0c3,r0c4,r0c5⟩:=id R1
 obtain ⟨RN,O⟩:=R1.set (.bool f2) (.slice c2 n2 k2) (.slice d2 m2 l2)
 go_simp
 refine hK _ _ ⟨fun h=>absurd h (by decide),fun _=>trivial⟩ ?_
 clear r0c0 r0c1 r0c2 r0c3 r0c4 r0c5
 clear hK K
 refine wpAnyG.done (by as_aux_lemma=>kernel_rfl) (NoPanic.normal ?_)
 have GN:=((G2.mono (B':=w.heap.size + 1) (by have:=hc1.size;omega)).off O (by omega)).mono (B':=w.heap.size) (by omega)
 have BN:=((hb0.trans (hc2.mono (by omega)))).trans (O.below (Nat.le_refl _))
 go_wp2
 exact bodyPost_ret (v:=.agg #[.bool f2,.slice c2 n2 k2,.slice d2 m2 l2]) (by simp [results,Tryz.results89,go_sem,RN.c0,RN.c1,RN.c2]) rfl ⟨_,_,_,_,_,_,_,rfl,GN.le (by omega),BN⟩
set_option maxRecDepth 100000 in
set_option maxHeartbeats 4000000 in
theorem dn1 {p:Bool} {a:Option Addr} {na ca:Nat} {d:Option Addr} {nd cd:Nat} {r:Rat} {S:Nat} {xa:Option Addr} {n xc:Nat} {X:Nat→Rat} {T:Nat} {bl bu:Nat} (u:Nat) (w:World) (hl:Rw 27 w bl #[.bool p,.slice a na ca,.slice d nd cd]) (hr:GR w 0 p a na ca d nd cd r S) (hu:Rw 3 w bu #[.int .i64 (u:Nat)]) (hx:LQ w xa n X (fun _=>T)) (hT1:1≤T) (hST:S + T + T≤6000000) (hS1:1≤S) (hT:TB w) :
  Calls Tryz.prog 93 #[.slice xa n xc,.pointer (some ⟨bl,0,none⟩),.pointer (some ⟨bu,0,none⟩)] w fun e w'=>∃ f c m k c' m' k',e = .returned (.agg #[.bool f,.slice c m k,.slice c' m' k'])∧GR w' w.heap.size f c m k c' m' k' (r - zn n X u) (S + T + T + 1)∧Below w.heap.size w w':=by
 have R0:=var3_new w (.bool false) (.slice none 0 0) (.slice none 0 0) 27
 have hb0:=bel_d0 w (.cells #[.bool false,.slice none 0 0,.slice none 0 0] 27)
 have hsz:w.heap.size + 1≤(w.alloc (.cells #[.bool false,.slice none 0 0,.slice none 0 0] 27)).heap.size:=by simp
 replace hx:=hx.below hb0
 replace hT:=hT.below hb0
 replace hr:=hr.below hb0
 have x0:=((hl.below hb0).cell 0).trans (show _ = some (.bool p) from rfl)
 have x1:=((hl.below hb0).cell 1).trans (show _ = some (.slice a na ca) from rfl)
 have x2:=((hl.below hb0).cell 2).trans (show _ = some (.slice d nd cd) from rfl)
 have x3:=((hu.below hb0).cell 0).trans (show _ = some (.int .i64 (u:Nat)) from rfl)
 clear hl hu
 go_enter Tryz.func93,Tryz.ntmps93
 go_wp2_with fail
 generalize w.alloc (.cells #[.bool false,.slice none 0 0,.slice none 0 0] 27) = W0 at *
 have HBX:∀ w',Below W0.heap.size W0 w'→(w'.cell? ⟨bl,0,none⟩ = some (.bool p)∧w'.cell? ⟨bl,1,none⟩ = some (.slice a na ca)∧w'.cell? ⟨bl,2,none⟩ = some (.slice d nd cd)∧w'.cell? ⟨bu,0,none⟩ = some (.int .i64 (u:Nat))):=fun w' h=>⟨kept_c h x0,kept_c h x1,kept_c h x2,kept_c h x3⟩
 refine wp_region_noPanic (wp_region_guardT 5 HBX (by as_aux_lemma=>kernel_rfl) ?_)
 have hc0:Below W0.heap.size W0 W0.drew:=bel_d1 _
 generalize W0.drew = z0 at *
 refine wpAnyG.tT 0 (v:=.agg #[.bool p,.slice a na ca,.slice d nd cd]) (by decide) 5 (by as_aux_lemma=>kernel_rfl) (by rfl) ?y0 (HBX _ hc0) ?_
 case y0 =>
  rintro w' ⟨q0,q1,q2,q3⟩
  simp only [lgA,lgZ]
  go_simp
 simp only [lgA,lgZ,Act.put,lsA,lsZ,lsS]
 refine wpAnyG.tT 1 (v:=.slice xa n xc) (by decide) 5 (by as_aux_lemma=>kernel_rfl) (by rfl) ?y1 (HBX _ hc0) ?_
 case y1 =>
  rintro w' ⟨q0,q1,q2,q3⟩
  simp only [lgA,lgZ,lgS]
  go_simp
 simp only [lgA,lgZ,lgS,Act.put,lsA,lsZ,lsS]
 refine wpAnyG.tT 2 (v:=.int .i64 (u:Nat)) (by decide) 5 (by as_aux_lemma=>kernel_rfl) (by rfl) ?y2 (HBX _ hc0) ?_
 case y2 =>
  rintro w' ⟨q0,q1,q2,q3⟩
  simp only [lgA,lgZ,lgS]
  go_simp
 simp only [lgA,lgZ,lgS,Act.put,lsA,lsZ,lsS]
 refine wpAnyG.one 3 (by as_aux_lemma=>kernel_rfl) (by decide) (by rfl) (fun K hK=>?_)
 simp only [lgA,lgZ,lgS]
 go_simp
 refine (numAt u z0 (hx.below hc0) (by omega) hT1 (hT.below hc0)).mono ?_
 rintro e z1 ⟨f1,c1,n1,k1,d1,m1,l1,rfl,G1,hk1⟩
 have hc1:Below W0.heap.size W0 z1:=bel_tr hc0 hk1
 dsimp only
 refine hK _ _ ⟨fun _=>HBX _ hc1,fun _=>trivial⟩ ?_
 clear hK K
 refine wpAnyG.one 4 (by as_aux_lemma=>kernel_rfl) (by decide) (by rfl) (fun K hK=>?_)
 simp only [lgA,lgZ,lgS]
 go_simp
 refine (subQ z1 (hr.tr.below hc1) G1.tr (by omega) (by omega) (by omega) (hT.below hc1)).mono ?_
 rintro e z2 ⟨f2,c2,n2,k2,d2,m2,l2,rfl,G2,hk2⟩
 have hc2:Below W0.heap.size W0 z2:=bel_tr hc1 hk2
 dsimp only
 refine hK _ _ ⟨fun _=>HBX _ hc2,fun _=>trivial⟩ ?_
 clear hK K
 refine wpAnyG.one 5 (by as_aux_lemma=>kernel_rfl) (by decide) (by rfl) (fun K hK=>?_)
 simp only [lgA,lgZ,lgS]
 have R1:=R0.below hc2
 obtain ⟨r0c0,r0c1,r0c2,r0c3,r0c4,r0c5⟩:=id R1
 obtain ⟨RN,O⟩:=R1.set (.bool f2) (.slice c2 n2 k2) (.slice d2 m2 l2)
 go_simp
 refine hK _ _ ⟨fun h=>absurd h (by decide),fun _=>trivial⟩ ?_
 clear r0c0 r0c1 r0c2 r0c3 r0c4 r0c5
 clear hK K
 refine wpAnyG.done (by as_aux_lemma=>kernel_rfl) (NoPanic.normal ?_)
 have GN:=((G2.mono (B':=w.heap.size + 1) (by have:=hc1.size;omega)).off O (by omega)).mono (B':=w.heap.size) (by omega)
 have BN:=((hb0.trans (hc2.mono (by omega)))).trans (O.below (Nat.le_refl _))
 go_wp2
 exact bodyPost_ret (v:=.agg #[.bool f2,.slice c2 n2 k2,.slice d2 m2 l2]) (by simp [results,Tryz.results93,go_sem,RN.c0,RN.c1,RN.c2]) rfl ⟨_,_,_,_,_,_,_,rfl,GN.le (by omega),BN⟩
set_option maxRecDepth 100000 in
set_option maxHeartbeats 4000000 in
theorem up2 {S:Nat} {xa:Option Addr} {n xc:Nat} {X:Nat→Rat} {T:Nat} {bu:Nat} (u:Nat) (w:World) (hu:Rw 3 w bu #[.int .i64 (u:Nat)]) (hx:LQ w xa n X (fun _=>T)) (hT1:1≤T) (hST:S + T + T≤6000000) (hS1:1≤S) (hT:TB w) :
  Calls Tryz.prog 91 #[.slice xa n xc,.pointer (some ⟨bu,0,none⟩)] w fun e w'=>∃ f c m k c' m' k',e = .returned (.agg #[.bool f,.slice c m k,.slice c' m' k'])∧GR w' w.heap.size f c m k c' m' k' (zn n X u) (S + T + T + 1)∧Below w.heap.size w w':=by
 have R0:=var3_new w (.bool false) (.slice none 0 0) (.slice none 0 0) 27
 have hb0:=bel_d0 w (.cells #[.bool false,.slice none 0 0,.slice none 0 0] 27)
 have hsz:w.heap.size + 1≤(w.alloc (.cells #[.bool false,.slice none 0 0,.slice none 0 0] 27)).heap.size:=by simp
 replace hx:=hx.below hb0
 replace hT:=hT.below hb0
 have x3:=((hu.below hb0).cell 0).trans (show _ = some (.int .i64 (u:Nat)) from rfl)
 clear hu
 go_enter Tryz.func91,Tryz.ntmps91
 go_wp2_with fail
 generalize w.alloc (.cells #[.bool false,.slice none 0 0,.slice none 0 0] 27) = W0 at *
 refine (numAt u W0 hx (by omega) hT1 hT).mono ?_
 rintro e w1 ⟨f1,c1,n1,k1,d1,m1,l1,rfl,G1,hk1⟩
 have hc0:Below W0.heap.size W0 W0:=Below.refl _ _
 have hc1:Below W0.heap.size W0 w1:=hk1
 have R1:=R0.below hc1
 obtain ⟨r0c0,r0c1,r0c2,r0c3,r0c4,r0c5⟩:=id R1
 obtain ⟨RN,O⟩:=R1.set (.bool f1) (.slice c1 n1 k1) (.slice d1 m1 l1)
 have GN:=((G1.mono (B':=w.heap.size + 1) (by have:=hc0.size;omega)).off O (by omega)).mono (B':=w.heap.size) (by omega)
 have BN:=((hb0.trans (hc1.mono (by omega)))).trans (O.below (Nat.le_refl _))
 go_wp2
 exact bodyPost_ret (v:=.agg #[.bool f1,.slice c1 n1 k1,.slice d1 m1 l1]) (by simp [results,Tryz.results91,go_sem,RN.c0,RN.c1,RN.c2]) rfl ⟨_,_,_,_,_,_,_,rfl,GN.le (by omega),BN⟩
set_option maxRecDepth 100000 in
set_option maxHeartbeats 4000000 in
theorem dn2 {S:Nat} {xa:Option Addr} {n xc:Nat} {X:Nat→Rat} {T:Nat} {bu:Nat} (u:Nat) (w:World) (hu:Rw 3 w bu #[.int .i64 (u:Nat)]) (hx:LQ w xa n X (fun _=>T)) (hT1:1≤T) (hST:S + T + T≤6000000) (hS1:1≤S) (hT:TB w) :
  Calls Tryz.prog 94 #[.slice xa n xc,.pointer (some ⟨bu,0,none⟩)] w fun e w'=>∃ f c m k c' m' k',e = .returned (.agg #[.bool f,.slice c m k,.slice c' m' k'])∧GR w' w.heap.size f c m k c' m' k' (- zn n X u) (S + T + T + 1)∧Below w.heap.size w w':=by
 have R0:=var3_new w (.bool false) (.slice none 0 0) (.slice none 0 0) 27
 have hb0:=bel_d0 w (.cells #[.bool false,.slice none 0 0,.slice none 0 0] 27)
 have hsz:w.heap.size + 1≤(w.alloc (.cells #[.bool false,.slice none 0 0,.slice none 0 0] 27)).heap.size:=by simp
 replace hx:=hx.below hb0
 replace hT:=hT.below hb0
 have x3:=((hu.below hb0).cell 0).trans (show _ = some (.int .i64 (u:Nat)) from rfl)
 clear hu
 go_enter Tryz.func94,Tryz.ntmps94
 go_wp2_with fail
 generalize w.alloc (.cells #[.bool false,.slice none 0 0,.slice none 0 0] 27) = W0 at *
 refine (numAt u W0 hx (by omega) hT1 hT).mono ?_
 rintro e w1 ⟨f1,c1,n1,k1,d1,m1,l1,rfl,G1,hk1⟩
 have hc0:Below W0.heap.size W0 W0:=Below.refl _ _
 have hc1:Below W0.heap.size W0 w1:=hk1
 go_wp2_with fail
 refine (negQ w1 G1.tr (by omega) hT1 (hT.below hc1)).mono ?_
 rintro e w2 ⟨f2,c2,n2,k2,d2,m2,l2,rfl,G2,hk2⟩
 have hc2:Below W0.heap.size W0 w2:=bel_tr hc1 hk2
 have R1:=R0.below hc2
 obtain ⟨r0c0,r0c1,r0c2,r0c3,r0c4,r0c5⟩:=id R1
 obtain ⟨RN,O⟩:=R1.set (.bool f2) (.slice c2 n2 k2) (.slice d2 m2 l2)
 have GN:=((G2.mono (B':=w.heap.size + 1) (by have:=hc1.size;omega)).off O (by omega)).mono (B':=w.heap.size) (by omega)
 have BN:=((hb0.trans (hc2.mono (by omega)))).trans (O.below (Nat.le_refl _))
 go_wp2
 exact bodyPost_ret (v:=.agg #[.bool f2,.slice c2 n2 k2,.slice d2 m2 l2]) (by simp [results,Tryz.results94,go_sem,RN.c0,RN.c1,RN.c2]) rfl ⟨_,_,_,_,_,_,_,rfl,GN.le (by omega),BN⟩
set_option maxRecDepth 100000 in
set_option maxHeartbeats 4000000 in
theorem fr1 {S:Nat} {xa:Option Addr} {n xc:Nat} {X:Nat→Rat} {T:Nat} {bp bm:Nat} (u:Nat) (w:World) (hp:Rw 3 w bp #[.int .i64 (u:Nat)]) (hm:Rw 3 w bm #[.int .i64 ((u + 1:Nat):Int)]) (hx:LQ w xa n X (fun _=>T)) (hT1:1≤T) (hST:S + T + T≤6000000) (hS1:1≤S) (hT:TB w) :
  Calls Tryz.prog 96 #[.slice xa n xc,.pointer (some ⟨bp,0,none⟩),.pointer (some ⟨bm,0,none⟩)] w fun e w'=>∃ f c m k c' m' k',e = .returned (.agg #[.bool f,.slice c m k,.slice c' m' k'])∧GR w' w.heap.size f c m k c' m' k' (zn n X u - zn n X (u + 1)) (S + T + T + 1)∧Below w.heap.size w w':=by
 have R0:=var3_new w (.bool false) (.slice none 0 0) (.slice none 0 0) 27
 have hb0:=bel_d0 w (.cells #[.bool false,.slice none 0 0,.slice none 0 0] 27)
 have hsz:w.heap.size + 1≤(w.alloc (.cells #[.bool false,.slice none 0 0,.slice none 0 0] 27)).heap.size:=by simp
 replace hx:=hx.below hb0
 replace hT:=hT.below hb0
 have x0:=((hp.below hb0).cell 0).trans (show _ = some (.int .i64 (u:Nat)) from rfl)
 have x1:=((hm.below hb0).cell 0).trans (show _ = some (.int .i64 ((u + 1:Nat):Int)) from rfl)
 clear hp hm
 go_enter Tryz.func96,Tryz.ntmps96
 go_wp2_with fail
 generalize w.alloc (.cells #[.bool false,.slice none 0 0,.slice none 0 0] 27) = W0 at *
 have HBX:∀ w',Below W0.heap.size W0 w'→(w'.cell? ⟨bp,0,none⟩ = some (.int .i64 (u:Nat))∧w'.cell? ⟨bm,0,none⟩ = some (.int .i64 ((u + 1:Nat):Int))):=fun w' h=>⟨kept_c h x0,kept_c h x1⟩
 refine wp_region_noPanic (wp_region_guardT 7 HBX (by as_aux_lemma=>kernel_rfl) ?_)
 have hc0:Below W0.heap.size W0 W0.drew:=bel_d1 _
 generalize W0.drew = z0 at *
 refine wpAnyG.tT 0 (v:=.slice xa n xc) (by decide) 7 (by as_aux_lemma=>kernel_rfl) (by rfl) ?y0 (HBX _ hc0) ?_
 case y0 =>
  rintro w' ⟨q0,q1⟩
  simp only [lgA,lgZ]
  go_simp
 simp only [lgA,lgZ,Act.put,lsA,lsZ,lsS]
 refine wpAnyG.tT 1 (v:=.int .i64 (u:Nat)) (by decide) 7 (by as_aux_lemma=>kernel_rfl) (by rfl) ?y1 (HBX _ hc0) ?_
 case y1 =>
  rintro w' ⟨q0,q1⟩
  simp only [lgA,lgZ,lgS]
  go_simp
 simp only [lgA,lgZ,lgS,Act.put,lsA,lsZ,lsS]
 refine wpAnyG.tT 3 (v:=.slice xa n xc) (by decide) 7 (by as_aux_lemma=>kernel_rfl) (by rfl) ?y3 (HBX _ hc0) ?_
 case y3 =>
  rintro w' ⟨q0,q1⟩
  simp only [lgA,lgZ,lgS]
  go_simp
 simp only [lgA,lgZ,lgS,Act.put,lsA,lsZ,lsS]
 refine wpAnyG.tT 4 (v:=.int .i64 ((u + 1:Nat):Int)) (by decide) 7 (by as_aux_lemma=>kernel_rfl) (by rfl) ?y4 (HBX _ hc0) ?_
 case y4 =>
  rintro w' ⟨q0,q1⟩
  simp only [lgA,lgZ,lgS]
  go_simp
 simp only [lgA,lgZ,lgS,Act.put,lsA,lsZ,lsS]
 refine wpAnyG.one 2 (by as_aux_lemma=>kernel_rfl) (by decide) (by rfl) (fun K hK=>?_)
 simp only [lgA,lgZ,lgS]
 go_simp
 refine (numAt u z0 (hx.below hc0) (by omega) hT1 (hT.below hc0)).mono ?_
 rintro e z1 ⟨f1,c1,n1,k1,d1,m1,l1,rfl,G1,hk1⟩
 have hc1:Below W0.heap.size W0 z1:=bel_tr hc0 hk1
 dsimp only
 refine hK _ _ ⟨fun _=>HBX _ hc1,fun _=>trivial⟩ ?_
 clear hK K
 refine wpAnyG.one 5 (by as_aux_lemma=>kernel_rfl) (by decide) (by rfl) (fun K hK=>?_)
 simp only [lgA,lgZ,lgS]
 go_simp
 refine (numAt (u + 1) z1 (hx.below hc1) (by omega) hT1 (hT.below hc1)).mono ?_
 rintro e z2 ⟨f2,c2,n2,k2,d2,m2,l2,rfl,G2,hk2⟩
 have hc2:Below W0.heap.size W0 z2:=bel_tr hc1 hk2
 dsimp only
 refine hK _ _ ⟨fun _=>HBX _ hc2,fun _=>trivial⟩ ?_
 clear hK K
 refine wpAnyG.one 6 (by as_aux_lemma=>kernel_rfl) (by decide) (by rfl) (fun K hK=>?_)
 simp only [lgA,lgZ,lgS]
 go_simp
 refine (subQ z2 (G1.tr.below hk2) G2.tr (by omega) (by omega) (by omega) (hT.below hc2)).mono ?_
 rintro e z3 ⟨f3,c3,n3,k3,d3,m3,l3,rfl,G3,hk3⟩
 have hc3:Below W0.heap.size W0 z3:=bel_tr hc2 hk3
 dsimp only
 refine hK _ _ ⟨fun _=>HBX _ hc3,fun _=>trivial⟩ ?_
 clear hK K
 refine wpAnyG.one 7 (by as_aux_lemma=>kernel_rfl) (by decide) (by rfl) (fun K hK=>?_)
 simp only [lgA,lgZ,lgS]
 have R1:=R0.below hc3
 obtain ⟨r0c0,r0c1,r0c2,r0c3,r0c4,r0c5⟩:=id R1
 obtain ⟨RN,O⟩:=R1.set (.bool f3) (.slice c3 n3 k3) (.slice d3 m3 l3)
 go_simp
 refine hK _ _ ⟨fun h=>absurd h (by decide),fun _=>trivial⟩ ?_
 clear r0c0 r0c1 r0c2 r0c3 r0c4 r0c5
 clear hK K
 refine wpAnyG.done (by as_aux_lemma=>kernel_rfl) (NoPanic.normal ?_)
 have GN:=((G3.mono (B':=w.heap.size + 1) (by have:=hc2.size;omega)).off O (by omega)).mono (B':=w.heap.size) (by omega)
 have BN:=((hb0.trans (hc3.mono (by omega)))).trans (O.below (Nat.le_refl _))
 go_wp2
 exact bodyPost_ret (v:=.agg #[.bool f3,.slice c3 n3 k3,.slice d3 m3 l3]) (by simp [results,Tryz.results96,go_sem,RN.c0,RN.c1,RN.c2]) rfl ⟨_,_,_,_,_,_,_,rfl,GN.le (by omega),BN⟩
def GRv (w:World) (B:Nat) (v:Value) (r:Rat) (S:Nat):Prop:=∃ f c n k c' n' k',v = .agg #[.bool f,.slice c n k,.slice c' n' k']∧GR w B f c n k c' n' k' r S
def SPL (w:World) (h q:Nat) (l:List PT) (S:Nat):Prop :=
 l.length = q∧(0 < q∧q≤10)∧∃ (cs:List Value) (D:Nat→List Value),cs.length = q * 4∧(∀ i,i < q→∀ j u,(D i)[j]? = some u→j < 4∧cs[i * 4 + j]? = some u)∧(∀ u ∈ cs,u.oneCell' = true)∧BoxC w h cs∧∀ i t,l[i]? = some t→TC w 0 (D i) t S
theorem SPL.one {w:World} {h:Nat} {i:Int} {p:Bool} {a:Option Addr} {na ca:Nat} {d:Option Addr} {nd cd:Nat} {r:Rat} {S:Nat} (hb:BoxC w h [.int .i64 i,.bool p,.slice a na ca,.slice d nd cd]) (hr:GR w 0 p a na ca d nd cd r S):SPL w h 1 [⟨i,r⟩] S:=by
 refine ⟨rfl,by decide,_,fun _=>[.int .i64 i,.bool p,.slice a na ca,.slice d nd cd],rfl,fun k hk j u hu=>?_,fun u hu=>?_,hb,fun k t hk=>?_⟩
 ·obtain rfl:k = 0:=by omega
  have:=(List.getElem?_eq_some_iff.1 hu).1
  exact ⟨by simpa using this,by simpa using hu⟩
 ·simp at hu
  rcases hu with rfl | rfl | rfl | rfl <;> rfl
 ·have:=(List.getElem?_eq_some_iff.1 hk).1
  obtain rfl:k = 0:=by simp at this;omega
  simp at hk
  subst hk
  exact ⟨_,_,_,_,_,_,_,rfl,hr⟩
theorem SPL.two {w:World} {h:Nat} {i j:Int} {p:Bool} {a:Option Addr} {na ca:Nat} {d:Option Addr} {nd cd:Nat} {r:Rat} {S:Nat} {p':Bool} {a':Option Addr} {na' ca':Nat} {d':Option Addr} {nd' cd':Nat} {r':Rat} (hb:BoxC w h [.int .i64 i,.bool p,.slice a na ca,.slice d nd cd,.int .i64 j,.bool p',.slice a' na' ca',.slice d' nd' cd']) (hr:GR w 0 p a na ca d nd cd r S) (hr':GR w 0 p' a' na' ca' d' nd' cd' r' S):SPL w h 2 [⟨i,r⟩,⟨j,r'⟩] S:=by
 refine ⟨rfl,by decide,_,fun k=>if k = 0 then [.int .i64 i,.bool p,.slice a na ca,.slice d nd cd] else [.int .i64 j,.bool p',.slice a' na' ca',.slice d' nd' cd'],rfl,fun k hk q u hu=>?_,fun u hu=>?_,hb,fun k t hk=>?_⟩
 ·rcases (by omega:k = 0∨k = 1) with rfl | rfl
  ·simp only [if_true] at hu
   have:=(List.getElem?_eq_some_iff.1 hu).1
   have hq:q < 4:=by simpa using this
   refine ⟨hq,?_⟩
   rcases (by omega:q = 0∨q = 1∨q = 2∨q = 3) with rfl | rfl | rfl | rfl <;> simpa using hu
  ·simp only [Nat.one_ne_zero,if_false] at hu
   have:=(List.getElem?_eq_some_iff.1 hu).1
   have hq:q < 4:=by simpa using this
   refine ⟨hq,?_⟩
   rcases (by omega:q = 0∨q = 1∨q = 2∨q = 3) with rfl | rfl | rfl | rfl <;> simpa using hu
 ·simp at hu
  rcases hu with rfl | rfl | rfl | rfl | rfl | rfl | rfl | rfl <;> rfl
 ·have:=(List.getElem?_eq_some_iff.1 hk).1
  rcases (by simp at this;omega:k = 0∨k = 1) with rfl | rfl
  ·simp at hk
   subst hk
   exact ⟨_,_,_,_,_,_,_,rfl,hr⟩
  ·simp at hk
   subst hk
   exact ⟨_,_,_,_,_,_,_,rfl,hr'⟩
set_option maxRecDepth 100000 in
set_option maxHeartbeats 4000000 in
theorem up3 {p:Bool} {a:Option Addr} {na ca:Nat} {d:Option Addr} {nd cd:Nat} {r:Rat} {S:Nat} {bu:Nat} (u:Nat) (w:World) (hu:Rw 3 w bu #[.int .i64 (u:Nat)]) (hr:GR w 0 p a na ca d nd cd r S) :
  Calls Tryz.prog 92 #[.agg #[.bool p,.slice a na ca,.slice d nd cd],.pointer (some ⟨bu,0,none⟩)] w fun e w'=>∃ h,e = .returned (.slice (some ⟨h,0,none⟩) 1 1)∧SPL w' h 1 ([⟨(u:Nat),r⟩]) S∧Below w.heap.size w w':=by
 have N:=box_new w #[.bool p,.slice a na ca,.slice d nd cd] 27
 have n0:=N 0 _ rfl
 have n1:=N 1 _ rfl
 have n2:=N 2 _ rfl
 have hb0:=bel_d0 w (.cells #[.bool p,.slice a na ca,.slice d nd cd] 27)
 have x3:=((hu.below hb0).cell 0).trans (show _ = some (.int .i64 (u:Nat)) from rfl)
 replace hr:=hr.below hb0
 go_enter Tryz.func92,Tryz.ntmps92
 go_wp2_with fail
 have M:=box_new (w.alloc (.cells #[.bool p,.slice a na ca,.slice d nd cd] 27)) #[.int .i64 (u:Nat),.bool p,.slice a na ca,.slice d nd cd] 58
 rw [show (w.alloc (.cells #[.bool p,.slice a na ca,.slice d nd cd] 27)).heap.size = w.heap.size + 1 by simp] at M
 have hb1:=bel_a (o:=.cells #[.int .i64 (u:Nat),.bool p,.slice a na ca,.slice d nd cd] 58) hb0
 have GN:=hr.below (bel_d0 (w.alloc (.cells #[.bool p,.slice a na ca,.slice d nd cd] 27)) (.cells #[.int .i64 (u:Nat),.bool p,.slice a na ca,.slice d nd cd] 58))
 go_ret
 exact ⟨_,rfl,SPL.one M GN,hb1⟩
set_option maxRecDepth 100000 in
set_option maxHeartbeats 4000000 in
theorem dn3 {p:Bool} {a:Option Addr} {na ca:Nat} {d:Option Addr} {nd cd:Nat} {r:Rat} {S:Nat} {bu:Nat} (u:Nat) (w:World) (hu:Rw 3 w bu #[.int .i64 (u:Nat)]) (hr:GR w 0 p a na ca d nd cd r S) (hS:S≤7000000) (hS1:1≤S) (hT:TB w) :
  Calls Tryz.prog 95 #[.agg #[.bool p,.slice a na ca,.slice d nd cd],.pointer (some ⟨bu,0,none⟩)] w fun e w'=>∃ h,e = .returned (.slice (some ⟨h,0,none⟩) 1 1)∧SPL w' h 1 ([⟨(u:Nat),-r⟩]) S∧Below w.heap.size w w':=by
 have N:=box_new w #[.bool p,.slice a na ca,.slice d nd cd] 27
 have n0:=N 0 _ rfl
 have n1:=N 1 _ rfl
 have n2:=N 2 _ rfl
 have hb0:=bel_d0 w (.cells #[.bool p,.slice a na ca,.slice d nd cd] 27)
 replace hr:=hr.below hb0
 replace hT:=hT.below hb0
 have x3:=((hu.below hb0).cell 0).trans (show _ = some (.int .i64 (u:Nat)) from rfl)
 go_enter Tryz.func95,Tryz.ntmps95
 go_wp2_with fail
 have hs0:w.heap.size≤(w.alloc (.cells #[.bool p,.slice a na ca,.slice d nd cd] 27)).heap.size:=by simp
 generalize w.alloc (.cells #[.bool p,.slice a na ca,.slice d nd cd] 27) = W0 at *
 have HBX:∀ w',Below W0.heap.size W0 w'→(w'.cell? ⟨w.heap.size,0,none⟩ = some (.bool p)∧w'.cell? ⟨w.heap.size,1,none⟩ = some (.slice a na ca)∧w'.cell? ⟨w.heap.size,2,none⟩ = some (.slice d nd cd)∧w'.cell? ⟨bu,0,none⟩ = some (.int .i64 (u:Nat))):=fun w' h=>⟨kept_c h n0,kept_c h n1,kept_c h n2,kept_c h x3⟩
 refine wp_region_noPanic (wp_region_guardT 5 HBX (by as_aux_lemma=>kernel_rfl) ?_)
 have hc0:Below W0.heap.size W0 W0.drew:=bel_d1 _
 generalize W0.drew = z0 at *
 refine wpAnyG.tT 0 (v:=.int .i64 (u:Nat)) (by decide) 5 (by as_aux_lemma=>kernel_rfl) (by rfl) ?y0 (HBX _ hc0) ?_
 case y0 =>
  rintro w' ⟨q0,q1,q2,q3⟩
  simp only [lgA,lgZ]
  go_simp
 simp only [lgA,lgZ,Act.put,lsA,lsZ,lsS]
 refine wpAnyG.tT 1 (v:=.agg #[.bool p,.slice a na ca,.slice d nd cd]) (by decide) 5 (by as_aux_lemma=>kernel_rfl) (by rfl) ?y1 (HBX _ hc0) ?_
 case y1 =>
  rintro w' ⟨q0,q1,q2,q3⟩
  simp only [lgA,lgZ,lgS]
  go_simp
 simp only [lgA,lgZ,lgS,Act.put,lsA,lsZ,lsS]
 refine wpAnyG.one 2 (by as_aux_lemma=>kernel_rfl) (by decide) (by rfl) (fun K hK=>?_)
 simp only [lgA,lgZ,lgS]
 go_simp
 refine (negQ z0 (hr.tr.below hc0) hS hS1 (hT.below hc0)).mono ?_
 rintro e z1 ⟨f1,c1,n1,k1,d1,m1,l1,rfl,G1,hk1⟩
 have hc1:Below W0.heap.size W0 z1:=bel_tr hc0 hk1
 dsimp only
 refine hK _ _ ⟨fun _=>HBX _ hc1,fun _=>trivial⟩ ?_
 clear hK K
 refine wpAnyG.tT 3 (v:=.agg #[.int .i64 (u:Nat),.bool f1,.slice c1 n1 k1,.slice d1 m1 l1]) (by decide) 5 (by as_aux_lemma=>kernel_rfl) (by rfl) ?y3 (HBX _ hc1) ?_
 case y3 =>
  rintro w' ⟨q0,q1,q2,q3⟩
  simp only [lgA,lgZ,lgS]
  go_simp
 simp only [lgA,lgZ,lgS,Act.put,lsA,lsZ,lsS]
 refine wpAnyG.one 4 (by as_aux_lemma=>kernel_rfl) (by decide) (by rfl) (fun K hK=>?_)
 simp only [lgA,lgZ,lgS]
 go_simp
 have hy:Below W0.heap.size W0 (z1.alloc (.cells #[.int .i64 (u:Nat),.bool f1,.slice c1 n1 k1,.slice d1 m1 l1] 58)):=bel_a hc1
 have M:=box_new z1 #[.int .i64 (u:Nat),.bool f1,.slice c1 n1 k1,.slice d1 m1 l1] 58
 have GN:=(G1.mono (Nat.zero_le _)).below (bel_d0 z1 (.cells #[.int .i64 (u:Nat),.bool f1,.slice c1 n1 k1,.slice d1 m1 l1] 58))
 refine hK _ _ ⟨fun _=>HBX _ hy,fun _=>trivial⟩ ?_
 clear hK K
 refine wpAnyG.one 5 (by as_aux_lemma=>kernel_rfl) (by decide) (by rfl) (fun K hK=>?_)
 simp only [lgA,lgZ,lgS]
 go_simp
 refine hK _ _ ⟨fun h=>absurd h (by decide),fun _=>trivial⟩ ?_
 clear hK K
 refine wpAnyG.done (by as_aux_lemma=>kernel_rfl) (NoPanic.normal ?_)
 go_wp2
 go_ret
 exact ⟨_,rfl,SPL.one M GN,hb0.trans (hy.mono hs0)⟩
set_option maxRecDepth 100000 in
set_option maxHeartbeats 4000000 in
theorem fr2 {p:Bool} {a:Option Addr} {na ca:Nat} {d:Option Addr} {nd cd:Nat} {r:Rat} {S:Nat} {bp bm:Nat} (u:Nat) (w:World) (hp:Rw 3 w bp #[.int .i64 (u:Nat)]) (hm:Rw 3 w bm #[.int .i64 ((u + 1:Nat):Int)]) (hr:GR w 0 p a na ca d nd cd r S) (hS:S≤7000000) (hS1:1≤S) (hT:TB w) :
  Calls Tryz.prog 97 #[.agg #[.bool p,.slice a na ca,.slice d nd cd],.pointer (some ⟨bp,0,none⟩),.pointer (some ⟨bm,0,none⟩)] w fun e w'=>∃ h,e = .returned (.slice (some ⟨h,0,none⟩) 2 2)∧SPL w' h 2 ([⟨(u:Nat),r⟩,⟨((u + 1:Nat):Int),-r⟩]) S∧Below w.heap.size w w':=by
 have N:=box_new w #[.bool p,.slice a na ca,.slice d nd cd] 27
 have n0:=N 0 _ rfl
 have n1:=N 1 _ rfl
 have n2:=N 2 _ rfl
 have hb0:=bel_d0 w (.cells #[.bool p,.slice a na ca,.slice d nd cd] 27)
 replace hr:=hr.below hb0
 replace hT:=hT.below hb0
 have x3:=((hp.below hb0).cell 0).trans (show _ = some (.int .i64 (u:Nat)) from rfl)
 have x4:=((hm.below hb0).cell 0).trans (show _ = some (.int .i64 ((u + 1:Nat):Int)) from rfl)
 go_enter Tryz.func97,Tryz.ntmps97
 go_wp2_with fail
 have hs0:w.heap.size≤(w.alloc (.cells #[.bool p,.slice a na ca,.slice d nd cd] 27)).heap.size:=by simp
 generalize w.alloc (.cells #[.bool p,.slice a na ca,.slice d nd cd] 27) = W0 at *
 have HBX:∀ w',Below W0.heap.size W0 w'→(w'.cell? ⟨w.heap.size,0,none⟩ = some (.bool p)∧w'.cell? ⟨w.heap.size,1,none⟩ = some (.slice a na ca)∧w'.cell? ⟨w.heap.size,2,none⟩ = some (.slice d nd cd)∧w'.cell? ⟨bp,0,none⟩ = some (.int .i64 (u:Nat))∧w'.cell? ⟨bm,0,none⟩ = some (.int .i64 ((u + 1:Nat):Int))):=fun w' h=>⟨kept_c h n0,kept_c h n1,kept_c h n2,kept_c h x3,kept_c h x4⟩
 refine wp_region_noPanic (wp_region_guardT 8 HBX (by as_aux_lemma=>kernel_rfl) ?_)
 have hc0:Below W0.heap.size W0 W0.drew:=bel_d1 _
 generalize W0.drew = z0 at *
 refine wpAnyG.tT 0 (v:=.int .i64 (u:Nat)) (by decide) 8 (by as_aux_lemma=>kernel_rfl) (by rfl) ?y0 (HBX _ hc0) ?_
 case y0 =>
  rintro w' ⟨q0,q1,q2,q3,q4⟩
  simp only [lgA,lgZ]
  go_simp
 simp only [lgA,lgZ,Act.put,lsA,lsZ,lsS]
 refine wpAnyG.tT 1 (v:=.agg #[.bool p,.slice a na ca,.slice d nd cd]) (by decide) 8 (by as_aux_lemma=>kernel_rfl) (by rfl) ?y1 (HBX _ hc0) ?_
 case y1 =>
  rintro w' ⟨q0,q1,q2,q3,q4⟩
  simp only [lgA,lgZ,lgS]
  go_simp
 simp only [lgA,lgZ,lgS,Act.put,lsA,lsZ,lsS]
 refine wpAnyG.tT 2 (v:=.agg #[.int .i64 (u:Nat),.bool p,.slice a na ca,.slice d nd cd]) (by decide) 8 (by as_aux_lemma=>kernel_rfl) (by rfl) ?y2 (HBX _ hc0) ?_
 case y2 =>
  rintro w' ⟨q0,q1,q2,q3,q4⟩
  simp only [lgA,lgZ,lgS]
  go_simp
 simp only [lgA,lgZ,lgS,Act.put,lsA,lsZ,lsS]
 refine wpAnyG.tT 3 (v:=.int .i64 ((u + 1:Nat):Int)) (by decide) 8 (by as_aux_lemma=>kernel_rfl) (by rfl) ?y3 (HBX _ hc0) ?_
 case y3 =>
  rintro w' ⟨q0,q1,q2,q3,q4⟩
  simp only [lgA,lgZ,lgS]
  go_simp
 simp only [lgA,lgZ,lgS,Act.put,lsA,lsZ,lsS]
 refine wpAnyG.tT 4 (v:=.agg #[.bool p,.slice a na ca,.slice d nd cd]) (by decide) 8 (by as_aux_lemma=>kernel_rfl) (by rfl) ?y4 (HBX _ hc0) ?_
 case y4 =>
  rintro w' ⟨q0,q1,q2,q3,q4⟩
  simp only [lgA,lgZ,lgS]
  go_simp
 simp only [lgA,lgZ,lgS,Act.put,lsA,lsZ,lsS]
 refine wpAnyG.one 5 (by as_aux_lemma=>kernel_rfl) (by decide) (by rfl) (fun K hK=>?_)
 simp only [lgA,lgZ,lgS]
 go_simp
 refine (negQ z0 (hr.tr.below hc0) hS hS1 (hT.below hc0)).mono ?_
 rintro e z1 ⟨f1,c1,n1,k1,d1,m1,l1,rfl,G1,hk1⟩
 have hc1:Below W0.heap.size W0 z1:=bel_tr hc0 hk1
 dsimp only
 refine hK _ _ ⟨fun _=>HBX _ hc1,fun _=>trivial⟩ ?_
 clear hK K
 refine wpAnyG.tT 6 (v:=.agg #[.int .i64 ((u + 1:Nat):Int),.bool f1,.slice c1 n1 k1,.slice d1 m1 l1]) (by decide) 8 (by as_aux_lemma=>kernel_rfl) (by rfl) ?y6 (HBX _ hc1) ?_
 case y6 =>
  rintro w' ⟨q0,q1,q2,q3,q4⟩
  simp only [lgA,lgZ,lgS]
  go_simp
 simp only [lgA,lgZ,lgS,Act.put,lsA,lsZ,lsS]
 refine wpAnyG.one 7 (by as_aux_lemma=>kernel_rfl) (by decide) (by rfl) (fun K hK=>?_)
 simp only [lgA,lgZ,lgS]
 go_simp
 have hy:Below W0.heap.size W0 (z1.alloc (.cells #[.int .i64 (u:Nat),.bool p,.slice a na ca,.slice d nd cd,.int .i64 ((u + 1:Nat):Int),.bool f1,.slice c1 n1 k1,.slice d1 m1 l1] 58)):=bel_a hc1
 have M:=box_new z1 #[.int .i64 (u:Nat),.bool p,.slice a na ca,.slice d nd cd,.int .i64 ((u + 1:Nat):Int),.bool f1,.slice c1 n1 k1,.slice d1 m1 l1] 58
 have GN:=(G1.mono (Nat.zero_le _)).below (bel_d0 z1 (.cells #[.int .i64 (u:Nat),.bool p,.slice a na ca,.slice d nd cd,.int .i64 ((u + 1:Nat):Int),.bool f1,.slice c1 n1 k1,.slice d1 m1 l1] 58))
 have GM:=(hr.below hc1).below (bel_d0 z1 (.cells #[.int .i64 (u:Nat),.bool p,.slice a na ca,.slice d nd cd,.int .i64 ((u + 1:Nat):Int),.bool f1,.slice c1 n1 k1,.slice d1 m1 l1] 58))
 refine hK _ _ ⟨fun _=>HBX _ hy,fun _=>trivial⟩ ?_
 clear hK K
 refine wpAnyG.one 8 (by as_aux_lemma=>kernel_rfl) (by decide) (by rfl) (fun K hK=>?_)
 simp only [lgA,lgZ,lgS]
 go_simp
 refine hK _ _ ⟨fun h=>absurd h (by decide),fun _=>trivial⟩ ?_
 clear hK K
 refine wpAnyG.done (by as_aux_lemma=>kernel_rfl) (NoPanic.normal ?_)
 go_wp2
 go_ret
 exact ⟨_,rfl,SPL.two M GM GN,hb0.trans (hy.mono hs0)⟩
def StC (w:World) (R F:Nat) (v:PV) (u S:Nat) (cs:List Value):Prop :=
 (v.hlo = true∧∃ bl bu p a na ca d nd cd,cs = [.int .i64 (u:Nat),.int .i64 (-1),.func (.func 89) #[] #[.pointer (some ⟨bl,0,none⟩),.pointer (some ⟨bu,0,none⟩)],.func (.func 91) #[] #[.pointer (some ⟨bu,0,none⟩)],.func (.func 92) #[] #[.pointer (some ⟨bu,0,none⟩)]]∧Rw 27 w bl #[.bool p,.slice a na ca,.slice d nd cd]∧GR w 0 p a na ca d nd cd v.lo S∧Rw 3 w bu #[.int .i64 (u:Nat)]∧R < bl∧bl < F∧R < bu∧bu < F) ∨
 (v.hlo = false∧v.hhi = true∧∃ bl bu p a na ca d nd cd,cs = [.int .i64 (u:Nat),.int .i64 (-1),.func (.func 93) #[] #[.pointer (some ⟨bl,0,none⟩),.pointer (some ⟨bu,0,none⟩)],.func (.func 94) #[] #[.pointer (some ⟨bu,0,none⟩)],.func (.func 95) #[] #[.pointer (some ⟨bu,0,none⟩)]]∧Rw 27 w bl #[.bool p,.slice a na ca,.slice d nd cd]∧GR w 0 p a na ca d nd cd v.hi S∧Rw 3 w bu #[.int .i64 (u:Nat)]∧R < bl∧bl < F∧R < bu∧bu < F) ∨
 (v.hlo = false∧v.hhi = false∧∃ bp bm,cs = [.int .i64 (u:Nat),.int .i64 ((u + 1:Nat):Int),.func (.func 96) #[] #[.pointer (some ⟨bp,0,none⟩),.pointer (some ⟨bm,0,none⟩)],.func (.func 96) #[] #[.pointer (some ⟨bp,0,none⟩),.pointer (some ⟨bm,0,none⟩)],.func (.func 97) #[] #[.pointer (some ⟨bp,0,none⟩),.pointer (some ⟨bm,0,none⟩)]]∧Rw 3 w bp #[.int .i64 (u:Nat)]∧Rw 3 w bm #[.int .i64 ((u + 1:Nat):Int)]∧R < bp∧bp < F∧R < bm∧bm < F)
theorem StC.up {w:World} {R F F':Nat} {v:PV} {u S:Nat} {cs:List Value} (h:StC w R F v u S cs) (hF:F≤F'):StC w R F' v u S cs:=by
 rcases h with ⟨h0,bl,bu,p,a,na,ca,d,nd,cd,e,h1,h2,h3,h4,h5,h6,h7⟩ | ⟨h0,h0',bl,bu,p,a,na,ca,d,nd,cd,e,h1,h2,h3,h4,h5,h6,h7⟩ | ⟨h0,h0',bp,bm,e,h1,h3,h4,h5,h6,h7⟩
 ·exact .inl ⟨h0,bl,bu,p,a,na,ca,d,nd,cd,e,h1,h2,h3,h4,by omega,h6,by omega⟩
 ·exact .inr (.inl ⟨h0,h0',bl,bu,p,a,na,ca,d,nd,cd,e,h1,h2,h3,h4,by omega,h6,by omega⟩)
 ·exact .inr (.inr ⟨h0,h0',bp,bm,e,h1,h3,h4,by omega,h6,by omega⟩)
theorem StC.kxh {w w':World} {R F R' F':Nat} {L:List TypeId} {v:PV} {u S:Nat} {cs:List Value} (h:StC w R F v u S cs) (k:Kx R' F' L w w') (hL:125 ∉ L) (hL2:27 ∉ L) (hL3:3 ∉ L):StC w' R F v u S cs:=by
 rcases h with ⟨h0,bl,bu,p,a,na,ca,d,nd,cd,e,h1,h2,h3,h4⟩ | ⟨h0,h0',bl,bu,p,a,na,ca,d,nd,cd,e,h1,h2,h3,h4⟩ | ⟨h0,h0',bp,bm,e,h1,h3,h4⟩
 ·exact .inl ⟨h0,bl,bu,p,a,na,ca,d,nd,cd,e,h1.kxh k hL2,h2.kx k hL,h3.kxh k hL3,h4⟩
 ·exact .inr (.inl ⟨h0,h0',bl,bu,p,a,na,ca,d,nd,cd,e,h1.kxh k hL2,h2.kx k hL,h3.kxh k hL3,h4⟩)
 ·exact .inr (.inr ⟨h0,h0',bp,bm,e,h1.kxh k hL3,h3.kxh k hL3,h4⟩)
theorem StC.kxl {w w':World} {R F:Nat} {L:List TypeId} {v:PV} {u S:Nat} {cs:List Value} (h:StC w R F v u S cs) (k:Kx R F L w w') (hL:125 ∉ L):StC w' R F v u S cs:=by
 rcases h with ⟨h0,bl,bu,p,a,na,ca,d,nd,cd,e,h1,h2,h3,h4,h5,h6,h7⟩ | ⟨h0,h0',bl,bu,p,a,na,ca,d,nd,cd,e,h1,h2,h3,h4,h5,h6,h7⟩ | ⟨h0,h0',bp,bm,e,h1,h3,h4,h5,h6,h7⟩
 ·exact .inl ⟨h0,bl,bu,p,a,na,ca,d,nd,cd,e,h1.kxl k h5 (by omega),h2.kx k hL,h3.kxl k h7 (by omega),h4,h5,h6,h7⟩
 ·exact .inr (.inl ⟨h0,h0',bl,bu,p,a,na,ca,d,nd,cd,e,h1.kxl k h5 (by omega),h2.kx k hL,h3.kxl k h7 (by omega),h4,h5,h6,h7⟩)
 ·exact .inr (.inr ⟨h0,h0',bp,bm,e,h1.kxl k h5 (by omega),h3.kxl k h7 (by omega),h4,h5,h6,h7⟩)
theorem StC.below {w w':World} {R F:Nat} {v:PV} {u S:Nat} {cs:List Value} (h:StC w R F v u S cs) (hb:Below w.heap.size w w'):StC w' R F v u S cs :=
 h.kxh (kx_of (R:=0) (F:=0) (L:=[]) hb (Nat.zero_le _)) (by simp) (by simp) (by simp)
set_option maxHeartbeats 1000000 in
theorem wpList_point {o:Oper} {ops:Array Oper} {rest:List Oper} {a:Act} {w:World} {Q:Exit→Act→World→Prop} {R F:Nat} {v:PV} {u S:Nat} {cs:List Value} {fv:Value} {xa:Option Addr} {n xc:Nat} {X:Nat→Rat} {T:Nat} (hgd:o.guard = none) (x y:Operand) (ats:Array TypeId) (ho:o.op = .call { callee:=.value x,args:=#[y],argTypes:=ats }) (hs:StC w R F v u S cs) (hi:cs[2]? = some fv) (hx:a.eval x = fv) (hy:a.eval y = .slice xa n xc)
  (hq:LQ w xa n X (fun _=>T)) (hT1:1≤T) (hST:S + T + T≤6000000) (hS1:1≤S) (hT:TB w)
  (hK:∀ w' x,GRv w' w.heap.size x (ptv v u (zn n X)) (S + T + T + 1)→Below w.heap.size w w'→wpList Tryz.prog ops Q rest (a.put o.dst x) w'):wpList Tryz.prog ops Q (o :: rest) a w:=by
 rcases hs with ⟨h0,bl,bu,p,a1,na,ca,d,nd,cd,e,h1,h2,h3,_⟩ | ⟨h0,h0',bl,bu,p,a1,na,ca,d,nd,cd,e,h1,h2,h3,_⟩ | ⟨h0,h0',bp,bm,e,h1,h3,_⟩ <;> subst e
 ·refine wpList_callV hgd x #[y] ats _ #[.pointer (some ⟨bl,0,none⟩),.pointer (some ⟨bu,0,none⟩)] ho (by rw [hx];exact (Option.some.inj hi).symm) fe1 (Post:=fun e w'=>∃ f c m k c' m' k',e = .returned (.agg #[.bool f,.slice c m k,.slice c' m' k'])∧GR w' w.heap.size f c m k c' m' k' (ptv v u (zn n X)) (S + T + T + 1)∧Below w.heap.size w w') ?_ ?_
  ·have e3:(#[y].map a.eval ++ #[.pointer (some ⟨bl,0,none⟩),.pointer (some ⟨bu,0,none⟩)]) = #[.slice xa n xc,.pointer (some ⟨bl,0,none⟩),.pointer (some ⟨bu,0,none⟩)]:=by simp [hy]
   rw [e3,show ptv v u (zn n X) = _ from by unfold ptv;simp only [h0,if_true];rfl]
   exact up1 u w h1 h2 h3 hq hT1 hST hS1 hT
  ·rintro e w' ⟨f,c,m,k,c',m',k',rfl,g,hb⟩
   exact ⟨_,rfl,hK _ _ ⟨_,_,_,_,_,_,_,rfl,g⟩ hb⟩
 ·refine wpList_callV hgd x #[y] ats _ #[.pointer (some ⟨bl,0,none⟩),.pointer (some ⟨bu,0,none⟩)] ho (by rw [hx];exact (Option.some.inj hi).symm) fe4 (Post:=fun e w'=>∃ f c m k c' m' k',e = .returned (.agg #[.bool f,.slice c m k,.slice c' m' k'])∧GR w' w.heap.size f c m k c' m' k' (ptv v u (zn n X)) (S + T + T + 1)∧Below w.heap.size w w') ?_ ?_
  ·have e3:(#[y].map a.eval ++ #[.pointer (some ⟨bl,0,none⟩),.pointer (some ⟨bu,0,none⟩)]) = #[.slice xa n xc,.pointer (some ⟨bl,0,none⟩),.pointer (some ⟨bu,0,none⟩)]:=by simp [hy]
   rw [e3,show ptv v u (zn n X) = _ from by unfold ptv;simp only [h0,h0',if_true,if_false,Bool.false_eq_true];rfl]
   exact dn1 u w h1 h2 h3 hq hT1 hST hS1 hT
  ·rintro e w' ⟨f,c,m,k,c',m',k',rfl,g,hb⟩
   exact ⟨_,rfl,hK _ _ ⟨_,_,_,_,_,_,_,rfl,g⟩ hb⟩
 ·refine wpList_callV hgd x #[y] ats _ #[.pointer (some ⟨bp,0,none⟩),.pointer (some ⟨bm,0,none⟩)] ho (by rw [hx];exact (Option.some.inj hi).symm) fe7 (Post:=fun e w'=>∃ f c m k c' m' k',e = .returned (.agg #[.bool f,.slice c m k,.slice c' m' k'])∧GR w' w.heap.size f c m k c' m' k' (ptv v u (zn n X)) (S + T + T + 1)∧Below w.heap.size w w') ?_ ?_
  ·have e3:(#[y].map a.eval ++ #[.pointer (some ⟨bp,0,none⟩),.pointer (some ⟨bm,0,none⟩)]) = #[.slice xa n xc,.pointer (some ⟨bp,0,none⟩),.pointer (some ⟨bm,0,none⟩)]:=by simp [hy]
   rw [e3,show ptv v u (zn n X) = _ from by unfold ptv;simp only [h0,h0',if_false,Bool.false_eq_true];rfl]
   exact fr1 (S:=S) u w h1 h3 hq hT1 hST hS1 hT
  ·rintro e w' ⟨f,c,m,k,c',m',k',rfl,g,hb⟩
   exact ⟨_,rfl,hK _ _ ⟨_,_,_,_,_,_,_,rfl,g⟩ hb⟩
set_option maxHeartbeats 1000000 in
theorem wpList_ray {o:Oper} {ops:Array Oper} {rest:List Oper} {a:Act} {w:World} {Q:Exit→Act→World→Prop} {R F:Nat} {v:PV} {u S:Nat} {cs:List Value} {fv:Value} {xa:Option Addr} {n xc:Nat} {X:Nat→Rat} {T:Nat} (hgd:o.guard = none) (x y:Operand) (ats:Array TypeId) (ho:o.op = .call { callee:=.value x,args:=#[y],argTypes:=ats }) (hs:StC w R F v u S cs) (hi:cs[3]? = some fv) (hx:a.eval x = fv) (hy:a.eval y = .slice xa n xc)
  (hq:LQ w xa n X (fun _=>T)) (hT1:1≤T) (hST:S + T + T≤6000000) (hS1:1≤S) (hT:TB w)
  (hK:∀ w' x,GRv w' w.heap.size x (ryv v u (zn n X)) (S + T + T + 1)→Below w.heap.size w w'→wpList Tryz.prog ops Q rest (a.put o.dst x) w'):wpList Tryz.prog ops Q (o :: rest) a w:=by
 rcases hs with ⟨h0,bl,bu,p,a1,na,ca,d,nd,cd,e,h1,h2,h3,_⟩ | ⟨h0,h0',bl,bu,p,a1,na,ca,d,nd,cd,e,h1,h2,h3,_⟩ | ⟨h0,h0',bp,bm,e,h1,h3,_⟩ <;> subst e
 ·refine wpList_callV hgd x #[y] ats _ #[.pointer (some ⟨bu,0,none⟩)] ho (by rw [hx];exact (Option.some.inj hi).symm) fe2 (Post:=fun e w'=>∃ f c m k c' m' k',e = .returned (.agg #[.bool f,.slice c m k,.slice c' m' k'])∧GR w' w.heap.size f c m k c' m' k' (ryv v u (zn n X)) (S + T + T + 1)∧Below w.heap.size w w') ?_ ?_
  ·have e3:(#[y].map a.eval ++ #[.pointer (some ⟨bu,0,none⟩)]) = #[.slice xa n xc,.pointer (some ⟨bu,0,none⟩)]:=by simp [hy]
   rw [e3,show ryv v u (zn n X) = _ from by unfold ryv;simp only [h0,if_true];rfl]
   exact up2 (S:=S) u w h3 hq hT1 hST hS1 hT
  ·rintro e w' ⟨f,c,m,k,c',m',k',rfl,g,hb⟩
   exact ⟨_,rfl,hK _ _ ⟨_,_,_,_,_,_,_,rfl,g⟩ hb⟩
 ·refine wpList_callV hgd x #[y] ats _ #[.pointer (some ⟨bu,0,none⟩)] ho (by rw [hx];exact (Option.some.inj hi).symm) fe5 (Post:=fun e w'=>∃ f c m k c' m' k',e = .returned (.agg #[.bool f,.slice c m k,.slice c' m' k'])∧GR w' w.heap.size f c m k c' m' k' (ryv v u (zn n X)) (S + T + T + 1)∧Below w.heap.size w w') ?_ ?_
  ·have e3:(#[y].map a.eval ++ #[.pointer (some ⟨bu,0,none⟩)]) = #[.slice xa n xc,.pointer (some ⟨bu,0,none⟩)]:=by simp [hy]
   rw [e3,show ryv v u (zn n X) = _ from by unfold ryv;simp only [h0,h0',if_true,if_false,Bool.false_eq_true];rfl]
   exact dn2 (S:=S) u w h3 hq hT1 hST hS1 hT
  ·rintro e w' ⟨f,c,m,k,c',m',k',rfl,g,hb⟩
   exact ⟨_,rfl,hK _ _ ⟨_,_,_,_,_,_,_,rfl,g⟩ hb⟩
 ·refine wpList_callV hgd x #[y] ats _ #[.pointer (some ⟨bp,0,none⟩),.pointer (some ⟨bm,0,none⟩)] ho (by rw [hx];exact (Option.some.inj hi).symm) fe7 (Post:=fun e w'=>∃ f c m k c' m' k',e = .returned (.agg #[.bool f,.slice c m k,.slice c' m' k'])∧GR w' w.heap.size f c m k c' m' k' (ryv v u (zn n X)) (S + T + T + 1)∧Below w.heap.size w w') ?_ ?_
  ·have e3:(#[y].map a.eval ++ #[.pointer (some ⟨bp,0,none⟩),.pointer (some ⟨bm,0,none⟩)]) = #[.slice xa n xc,.pointer (some ⟨bp,0,none⟩),.pointer (some ⟨bm,0,none⟩)]:=by simp [hy]
   rw [e3,show ryv v u (zn n X) = _ from by unfold ryv;simp only [h0,h0',if_false,Bool.false_eq_true];rfl]
   exact fr1 (S:=S) u w h1 h3 hq hT1 hST hS1 hT
  ·rintro e w' ⟨f,c,m,k,c',m',k',rfl,g,hb⟩
   exact ⟨_,rfl,hK _ _ ⟨_,_,_,_,_,_,_,rfl,g⟩ hb⟩
set_option maxHeartbeats 1000000 in
theorem wp_split {o:Oper} {a:Act} {w:World} {K:Act→World→Prop} {Q:Exit→Act→World→Prop} {R F:Nat} {v:PV} {u S S':Nat} {cs:List Value} {fv:Value} {p:Bool} {a0:Option Addr} {na ca:Nat} {d:Option Addr} {nd cd:Nat} {r:Rat} (x y:Operand) (ats:Array TypeId) (ho:o.op = .call { callee:=.value x,args:=#[y],argTypes:=ats }) (hs:StC w R F v u S' cs) (hi:cs[4]? = some fv) (hx:a.eval x = fv) (hy:a.eval y = .agg #[.bool p,.slice a0 na ca,.slice d nd cd])
  (hr:GR w 0 p a0 na ca d nd cd r S) (hS:S≤7000000) (hS1:1≤S) (hT:TB w)
  (hK:∀ w' h,SPL w' h (wid v) (spl v u r) S→Below w.heap.size w w'→K (a.put o.dst (.slice (some ⟨h,0,none⟩) (wid v) (wid v))) w'):Oper.wp Tryz.prog o a w K Q:=by
 rcases hs with ⟨h0,bl,bu,p1,a1,na1,ca1,d1,nd1,cd1,e,h1,h2,h3,_⟩ | ⟨h0,h0',bl,bu,p1,a1,na1,ca1,d1,nd1,cd1,e,h1,h2,h3,_⟩ | ⟨h0,h0',bp,bm,e,h1,h3,_⟩ <;> subst e
 ·refine wp_callV x #[y] ats _ #[.pointer (some ⟨bu,0,none⟩)] ho (by rw [hx];exact (Option.some.inj hi).symm) fe3 (Post:=fun e w'=>∃ h,e = .returned (.slice (some ⟨h,0,none⟩) (wid v) (wid v))∧SPL w' h (wid v) (spl v u r) S∧Below w.heap.size w w') ?_ ?_
  ·have e3:(#[y].map a.eval ++ #[.pointer (some ⟨bu,0,none⟩)]) = #[.agg #[.bool p,.slice a0 na ca,.slice d nd cd],.pointer (some ⟨bu,0,none⟩)]:=by simp [hy]
   rw [e3,show spl v u r = _ from by unfold spl;simp only [h0,if_true];rfl,show wid v = _ from by unfold wid;simp only [h0,if_true];rfl]
   exact up3 u w h3 hr
  ·rintro e w' ⟨h,rfl,g,hb⟩
   exact ⟨_,rfl,hK _ _ g hb⟩
 ·refine wp_callV x #[y] ats _ #[.pointer (some ⟨bu,0,none⟩)] ho (by rw [hx];exact (Option.some.inj hi).symm) fe6 (Post:=fun e w'=>∃ h,e = .returned (.slice (some ⟨h,0,none⟩) (wid v) (wid v))∧SPL w' h (wid v) (spl v u r) S∧Below w.heap.size w w') ?_ ?_
  ·have e3:(#[y].map a.eval ++ #[.pointer (some ⟨bu,0,none⟩)]) = #[.agg #[.bool p,.slice a0 na ca,.slice d nd cd],.pointer (some ⟨bu,0,none⟩)]:=by simp [hy]
   rw [e3,show spl v u r = _ from by unfold spl;simp only [h0,h0',if_true,if_false,Bool.false_eq_true];rfl,show wid v = _ from by unfold wid;simp only [h0,h0',if_true,if_false,Bool.false_eq_true];rfl]
   exact dn3 u w h3 hr hS hS1 hT
  ·rintro e w' ⟨h,rfl,g,hb⟩
   exact ⟨_,rfl,hK _ _ g hb⟩
 ·refine wp_callV x #[y] ats _ #[.pointer (some ⟨bp,0,none⟩),.pointer (some ⟨bm,0,none⟩)] ho (by rw [hx];exact (Option.some.inj hi).symm) fe8 (Post:=fun e w'=>∃ h,e = .returned (.slice (some ⟨h,0,none⟩) (wid v) (wid v))∧SPL w' h (wid v) (spl v u r) S∧Below w.heap.size w w') ?_ ?_
  ·have e3:(#[y].map a.eval ++ #[.pointer (some ⟨bp,0,none⟩),.pointer (some ⟨bm,0,none⟩)]) = #[.agg #[.bool p,.slice a0 na ca,.slice d nd cd],.pointer (some ⟨bp,0,none⟩),.pointer (some ⟨bm,0,none⟩)]:=by simp [hy]
   rw [e3,show spl v u r = _ from by unfold spl;simp only [h0,h0',if_false,Bool.false_eq_true];rfl,show wid v = _ from by unfold wid;simp only [h0,h0',if_false,Bool.false_eq_true];rfl]
   exact fr2 u w h1 h3 hr hS hS1 hT
  ·rintro e w' ⟨h,rfl,g,hb⟩
   exact ⟨_,rfl,hK _ _ g hb⟩
theorem stpI:(Tryz.prog.info? 76).map (·.size) = some 5:=by kernel_rfl
theorem infStep:Inf 76 5 40:=inf_of (by kernel_rfl)
set_option maxRecDepth 100000 in
set_option maxHeartbeats 4000000 in
theorem newCol {R c:Nat} {a0 a1 a2 a3 a4 a5 a7:Value} (w:World) (hr:Rw 67 w R #[a0,a1,a2,a3,a4,a5,.int .i64 (c:Nat),a7]) (hc:c≤1000000000) :
  Calls Tryz.prog 58 #[.pointer (some ⟨R,0,none⟩)] w fun e w'=>e = .returned (.int .i64 (c:Nat))∧Rw 67 w' R #[a0,a1,a2,a3,a4,a5,.int .i64 ((c + 1:Nat):Int),a7]∧Off R w w':=by
 have y6:=(hr.cell 6).trans (show _ = some (.int .i64 (c:Nat)) from rfl)
 have v6:=hr.frozen 6
 obtain ⟨RN,O⟩:=hr.set 6 (.int .i64 ((c:Int) + 1))
 replace RN:Rw 67 (w.setCell ⟨R,6,none⟩ (.int .i64 ((c:Int) + 1))) R #[a0,a1,a2,a3,a4,a5,.int .i64 ((c:Int) + 1),a7]:=by simpa using RN
 have z6:=(RN.cell 6).trans (show _ = some (.int .i64 ((c:Int) + 1)) from rfl)
 have h2:(c:Int) + 1 - 1 = (c:Nat):=by omega
 go_enter Tryz.func58,Tryz.ntmps58
 go_wp2
 go_ret
 exact ⟨by first | rfl | rw [h2],RN,O⟩
set_option maxRecDepth 100000 in
set_option maxHeartbeats 4000000 in
theorem upF {p:Bool} {a:Option Addr} {na ca:Nat} {d:Option Addr} {nd cd:Nat} {S:Nat} {R:Nat} (v:PV) (u:Nat) (w:World) (hv:v.hlo = true) (hr:GR w 0 p a na ca d nd cd v.lo S) (hR:R < w.heap.size) :
  Calls Tryz.prog 57 #[.agg #[.bool p,.slice a na ca,.slice d nd cd],.int .i64 (u:Nat)] w fun e w'=>∃ c0 c1 c2 c3 c4,e = .returned (.agg #[c0,c1,c2,c3,c4])∧(c0.oneCell' = true∧c1.oneCell' = true∧c2.oneCell' = true∧c3.oneCell' = true∧c4.oneCell' = true)∧StC w' R w'.heap.size v u S [c0,c1,c2,c3,c4]∧Below w.heap.size w w':=by
 have R0:=Rw.new 27 w #[.bool p,.slice a na ca,.slice d nd cd]
 have hb0:=bel_d0 w (.cells #[.bool p,.slice a na ca,.slice d nd cd] 27)
 have hs0:(w.alloc (.cells #[.bool p,.slice a na ca,.slice d nd cd] 27)).heap.size = w.heap.size + 1:=by simp
 have R1:=Rw.new 3 (w.alloc (.cells #[.bool p,.slice a na ca,.slice d nd cd] 27)) #[.int .i64 (u:Nat)]
 rw [hs0] at R1
 have hb1:=bel_d0 (w.alloc (.cells #[.bool p,.slice a na ca,.slice d nd cd] 27)) (.cells #[.int .i64 (u:Nat)] 3)
 have hs1:((w.alloc (.cells #[.bool p,.slice a na ca,.slice d nd cd] 27)).alloc (.cells #[.int .i64 (u:Nat)] 3)).heap.size = w.heap.size + 2:=by simp
 have R2:=Rw.new 76 ((w.alloc (.cells #[.bool p,.slice a na ca,.slice d nd cd] 27)).alloc (.cells #[.int .i64 (u:Nat)] 3)) #[.int .i64 0,.int .i64 0,.nilFunc,.nilFunc,.nilFunc]
 rw [hs1] at R2
 have hb2:=bel_d0 ((w.alloc (.cells #[.bool p,.slice a na ca,.slice d nd cd] 27)).alloc (.cells #[.int .i64 (u:Nat)] 3)) (.cells #[.int .i64 0,.int .i64 0,.nilFunc,.nilFunc,.nilFunc] 76)
 have hs2:(((w.alloc (.cells #[.bool p,.slice a na ca,.slice d nd cd] 27)).alloc (.cells #[.int .i64 (u:Nat)] 3)).alloc (.cells #[.int .i64 0,.int .i64 0,.nilFunc,.nilFunc,.nilFunc] 76)).heap.size = w.heap.size + 3:=by simp
 replace R0:=(R0.below hb1).below hb2
 replace R1:=R1.below hb2
 replace hr:=((hr.below hb0).below hb1).below hb2
 have hb:=bel_tr (bel_tr hb0 hb1) hb2
 have x1:=(R1.cell 0).trans (show _ = some (.int .i64 (u:Nat)) from rfl)
 clear hs0 hs1 hb0 hb1 hb2
 go_enter Tryz.func57,Tryz.ntmps57
 go_wp2_with (refine R2.put #[.int .i64 (u:Nat),.int .i64 (-1),.func (.func 89) #[] #[.pointer (some ⟨w.heap.size,0,none⟩),.pointer (some ⟨w.heap.size + 1,0,none⟩)],.func (.func 91) #[] #[.pointer (some ⟨w.heap.size + 1,0,none⟩)],.func (.func 92) #[] #[.pointer (some ⟨w.heap.size + 1,0,none⟩)]] rfl _ _ rfl rfl rfl stpI rfl (by simp [Value.oneCell']) ?_)
 generalize ((w.alloc (.cells #[.bool p,.slice a na ca,.slice d nd cd] 27)).alloc (.cells #[.int .i64 (u:Nat)] 3)).alloc (.cells #[.int .i64 0,.int .i64 0,.nilFunc,.nilFunc,.nilFunc] 76) = W0 at *
 intro w2 R3 O
 have hsz:w2.heap.size = w.heap.size + 3:=O.size.trans hs2
 have R0':=R0.off O (by omega)
 have R1':=R1.off O (by omega)
 have hw:=hb.trans (O.below (by omega))
 have hg:GR w2 0 p a na ca d nd cd v.lo S:=hr.keep (row:=some (w.heap.size + 2)) (R2.noW (by decide)) O.grown
 clear R0 R1 hr hb x1
 go_wp2
 refine bodyPost_ret (v:=.agg #[.int .i64 (u:Nat),.int .i64 (-1),.func (.func 89) #[] #[.pointer (some ⟨w.heap.size,0,none⟩),.pointer (some ⟨w.heap.size + 1,0,none⟩)],.func (.func 91) #[] #[.pointer (some ⟨w.heap.size + 1,0,none⟩)],.func (.func 92) #[] #[.pointer (some ⟨w.heap.size + 1,0,none⟩)]]) (Rw.ret1 Tryz.results57 _ R3 rfl Tryz.underlying76 stpI) rfl ?_
 exact ⟨_,_,_,_,_,rfl,⟨rfl,rfl,rfl,rfl,rfl⟩,.inl ⟨hv,_,_,_,_,_,_,_,_,_,rfl,R0',hg,R1',hR,by omega,by omega,by omega⟩,hw⟩
set_option maxRecDepth 100000 in
set_option maxHeartbeats 4000000 in
theorem dnF {p:Bool} {a:Option Addr} {na ca:Nat} {d:Option Addr} {nd cd:Nat} {S:Nat} {R:Nat} (v:PV) (u:Nat) (w:World) (hv:v.hlo = false) (hv':v.hhi = true) (hr:GR w 0 p a na ca d nd cd v.hi S) (hR:R < w.heap.size) :
  Calls Tryz.prog 59 #[.agg #[.bool p,.slice a na ca,.slice d nd cd],.int .i64 (u:Nat)] w fun e w'=>∃ c0 c1 c2 c3 c4,e = .returned (.agg #[c0,c1,c2,c3,c4])∧(c0.oneCell' = true∧c1.oneCell' = true∧c2.oneCell' = true∧c3.oneCell' = true∧c4.oneCell' = true)∧StC w' R w'.heap.size v u S [c0,c1,c2,c3,c4]∧Below w.heap.size w w':=by
 have R0:=Rw.new 27 w #[.bool p,.slice a na ca,.slice d nd cd]
 have hb0:=bel_d0 w (.cells #[.bool p,.slice a na ca,.slice d nd cd] 27)
 have hs0:(w.alloc (.cells #[.bool p,.slice a na ca,.slice d nd cd] 27)).heap.size = w.heap.size + 1:=by simp
 have R1:=Rw.new 3 (w.alloc (.cells #[.bool p,.slice a na ca,.slice d nd cd] 27)) #[.int .i64 (u:Nat)]
 rw [hs0] at R1
 have hb1:=bel_d0 (w.alloc (.cells #[.bool p,.slice a na ca,.slice d nd cd] 27)) (.cells #[.int .i64 (u:Nat)] 3)
 have hs1:((w.alloc (.cells #[.bool p,.slice a na ca,.slice d nd cd] 27)).alloc (.cells #[.int .i64 (u:Nat)] 3)).heap.size = w.heap.size + 2:=by simp
 have R2:=Rw.new 76 ((w.alloc (.cells #[.bool p,.slice a na ca,.slice d nd cd] 27)).alloc (.cells #[.int .i64 (u:Nat)] 3)) #[.int .i64 0,.int .i64 0,.nilFunc,.nilFunc,.nilFunc]
 rw [hs1] at R2
 have hb2:=bel_d0 ((w.alloc (.cells #[.bool p,.slice a na ca,.slice d nd cd] 27)).alloc (.cells #[.int .i64 (u:Nat)] 3)) (.cells #[.int .i64 0,.int .i64 0,.nilFunc,.nilFunc,.nilFunc] 76)
 have hs2:(((w.alloc (.cells #[.bool p,.slice a na ca,.slice d nd cd] 27)).alloc (.cells #[.int .i64 (u:Nat)] 3)).alloc (.cells #[.int .i64 0,.int .i64 0,.nilFunc,.nilFunc,.nilFunc] 76)).heap.size = w.heap.size + 3:=by simp
 replace R0:=(R0.below hb1).below hb2
 replace R1:=R1.below hb2
 replace hr:=((hr.below hb0).below hb1).below hb2
 have hb:=bel_tr (bel_tr hb0 hb1) hb2
 have x1:=(R1.cell 0).trans (show _ = some (.int .i64 (u:Nat)) from rfl)
 clear hs0 hs1 hb0 hb1 hb2
 go_enter Tryz.func59,Tryz.ntmps59
 go_wp2_with (refine R2.put #[.int .i64 (u:Nat),.int .i64 (-1),.func (.func 93) #[] #[.pointer (some ⟨w.heap.size,0,none⟩),.pointer (some ⟨w.heap.size + 1,0,none⟩)],.func (.func 94) #[] #[.pointer (some ⟨w.heap.size + 1,0,none⟩)],.func (.func 95) #[] #[.pointer (some ⟨w.heap.size + 1,0,none⟩)]] rfl _ _ rfl rfl rfl stpI rfl (by simp [Value.oneCell']) ?_)
 generalize ((w.alloc (.cells #[.bool p,.slice a na ca,.slice d nd cd] 27)).alloc (.cells #[.int .i64 (u:Nat)] 3)).alloc (.cells #[.int .i64 0,.int .i64 0,.nilFunc,.nilFunc,.nilFunc] 76) = W0 at *
 intro w2 R3 O
 have hsz:w2.heap.size = w.heap.size + 3:=O.size.trans hs2
 have R0':=R0.off O (by omega)
 have R1':=R1.off O (by omega)
 have hw:=hb.trans (O.below (by omega))
 have hg:GR w2 0 p a na ca d nd cd v.hi S:=hr.keep (row:=some (w.heap.size + 2)) (R2.noW (by decide)) O.grown
 clear R0 R1 hr hb x1
 go_wp2
 refine bodyPost_ret (v:=.agg #[.int .i64 (u:Nat),.int .i64 (-1),.func (.func 93) #[] #[.pointer (some ⟨w.heap.size,0,none⟩),.pointer (some ⟨w.heap.size + 1,0,none⟩)],.func (.func 94) #[] #[.pointer (some ⟨w.heap.size + 1,0,none⟩)],.func (.func 95) #[] #[.pointer (some ⟨w.heap.size + 1,0,none⟩)]]) (Rw.ret1 Tryz.results59 _ R3 rfl Tryz.underlying76 stpI) rfl ?_
 exact ⟨_,_,_,_,_,rfl,⟨rfl,rfl,rfl,rfl,rfl⟩,(.inr (.inl ⟨hv,hv',_,_,_,_,_,_,_,_,_,rfl,R0',hg,R1',hR,by omega,by omega,by omega⟩)),hw⟩
set_option maxRecDepth 100000 in
set_option maxHeartbeats 4000000 in
theorem frF {R S:Nat} (v:PV) (u m:Nat) (w:World) (hm:m = u + 1) (hv:v.hlo = false) (hv':v.hhi = false) (hR:R < w.heap.size) :
  Calls Tryz.prog 60 #[.int .i64 (u:Nat),.int .i64 (m:Nat)] w fun e w'=>∃ c0 c1 c2 c3 c4,e = .returned (.agg #[c0,c1,c2,c3,c4])∧(c0.oneCell' = true∧c1.oneCell' = true∧c2.oneCell' = true∧c3.oneCell' = true∧c4.oneCell' = true)∧StC w' R w'.heap.size v u S [c0,c1,c2,c3,c4]∧Below w.heap.size w w':=by
 have HM:Hid (m = u + 1):=hm
 clear hm
 have R0:=Rw.new 3 w #[.int .i64 (u:Nat)]
 have hb0:=bel_d0 w (.cells #[.int .i64 (u:Nat)] 3)
 have hs0:(w.alloc (.cells #[.int .i64 (u:Nat)] 3)).heap.size = w.heap.size + 1:=by simp
 have R1:=Rw.new 3 (w.alloc (.cells #[.int .i64 (u:Nat)] 3)) #[.int .i64 (m:Nat)]
 rw [hs0] at R1
 have hb1:=bel_d0 (w.alloc (.cells #[.int .i64 (u:Nat)] 3)) (.cells #[.int .i64 (m:Nat)] 3)
 have hs1:((w.alloc (.cells #[.int .i64 (u:Nat)] 3)).alloc (.cells #[.int .i64 (m:Nat)] 3)).heap.size = w.heap.size + 2:=by simp
 have R2:=Rw.new 76 ((w.alloc (.cells #[.int .i64 (u:Nat)] 3)).alloc (.cells #[.int .i64 (m:Nat)] 3)) #[.int .i64 0,.int .i64 0,.nilFunc,.nilFunc,.nilFunc]
 rw [hs1] at R2
 have hb2:=bel_d0 ((w.alloc (.cells #[.int .i64 (u:Nat)] 3)).alloc (.cells #[.int .i64 (m:Nat)] 3)) (.cells #[.int .i64 0,.int .i64 0,.nilFunc,.nilFunc,.nilFunc] 76)
 have hs2:(((w.alloc (.cells #[.int .i64 (u:Nat)] 3)).alloc (.cells #[.int .i64 (m:Nat)] 3)).alloc (.cells #[.int .i64 0,.int .i64 0,.nilFunc,.nilFunc,.nilFunc] 76)).heap.size = w.heap.size + 3:=by simp
 replace R0:=(R0.below hb1).below hb2
 replace R1:=R1.below hb2
 have hb:=bel_tr (bel_tr hb0 hb1) hb2
 have x0:=(R0.cell 0).trans (show _ = some (.int .i64 (u:Nat)) from rfl)
 have x1:=(R1.cell 0).trans (show _ = some (.int .i64 (m:Nat)) from rfl)
 clear hs0 hs1 hb0 hb1 hb2
 go_enter Tryz.func60,Tryz.ntmps60
 go_wp2_with (refine R2.put #[.int .i64 (u:Nat),.int .i64 (m:Nat),.func (.func 96) #[] #[.pointer (some ⟨w.heap.size,0,none⟩),.pointer (some ⟨w.heap.size + 1,0,none⟩)],.func (.func 96) #[] #[.pointer (some ⟨w.heap.size,0,none⟩),.pointer (some ⟨w.heap.size + 1,0,none⟩)],.func (.func 97) #[] #[.pointer (some ⟨w.heap.size,0,none⟩),.pointer (some ⟨w.heap.size + 1,0,none⟩)]] rfl _ _ rfl rfl rfl stpI rfl (by simp [Value.oneCell']) ?_)
 generalize ((w.alloc (.cells #[.int .i64 (u:Nat)] 3)).alloc (.cells #[.int .i64 (m:Nat)] 3)).alloc (.cells #[.int .i64 0,.int .i64 0,.nilFunc,.nilFunc,.nilFunc] 76) = W0 at *
 intro w2 R3 O
 have hsz:w2.heap.size = w.heap.size + 3:=O.size.trans hs2
 have R0':=R0.off O (by omega)
 have R1':=R1.off O (by omega)
 have hw:=hb.trans (O.below (by omega))
 clear R0 R1 hb x1 x0 O
 go_wp2
 refine bodyPost_ret (v:=.agg #[.int .i64 (u:Nat),.int .i64 (m:Nat),.func (.func 96) #[] #[.pointer (some ⟨w.heap.size,0,none⟩),.pointer (some ⟨w.heap.size + 1,0,none⟩)],.func (.func 96) #[] #[.pointer (some ⟨w.heap.size,0,none⟩),.pointer (some ⟨w.heap.size + 1,0,none⟩)],.func (.func 97) #[] #[.pointer (some ⟨w.heap.size,0,none⟩),.pointer (some ⟨w.heap.size + 1,0,none⟩)]]) (Rw.ret1 Tryz.results60 _ R3 rfl Tryz.underlying76 stpI) rfl ?_
 obtain rfl:=HM.out
 exact ⟨_,_,_,_,_,rfl,⟨rfl,rfl,rfl,rfl,rfl⟩,.inr (.inr ⟨hv,hv',_,_,rfl,R0',R1',hR,by omega,by omega,by omega⟩),hw⟩
end Go.Proofs.YtlfobaanbmfafaaGreatDoor

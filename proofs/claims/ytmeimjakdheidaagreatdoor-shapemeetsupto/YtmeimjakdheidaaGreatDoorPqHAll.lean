import Derived.Test.YtmeimjakdheidaaGreatDoorPqFAll
import Derived.Test.YtmeimjakdheidaaGreatDoorPqEAll
import Derived.Test.YtmeimjakdheidaaGreatDoorPrDAll
import Derived.Test.YtmeimjakdheidaaGreatDoorWhEAll
import Derived.Test.YtmeimjakdheidaaGreatDoorPqBAll
import Derived.Deep.RegionHeld3
namespace Go.Proofs.YtmeimjakdheidaaGreatDoor
open Go.RowKit
theorem pw_lt1 (K:Nat):pw K<pw (K+1):=by have:=cZ K;have:=bG K;omega
end Go.Proofs.YtmeimjakdheidaaGreatDoor
namespace Go.Proofs.YtmeimjakdheidaaGreatDoor
def wid (v:PV):Nat:=if v.hlo then 1 else if v.hhi then 1 else 2
def clm (V:Nat→PV):Nat→Nat
 | 0=>0
 | j+1=>clm V j+wid (V j)
def ptv (v:PV) (u:Nat) (Y:Nat→Rat):Rat:=if v.hlo then v.lo+Y u else if v.hhi then v.hi-Y u else Y u-Y (u+1)
def ryv (v:PV) (u:Nat) (Y:Nat→Rat):Rat:=if v.hlo then Y u else if v.hhi then-Y u else Y u-Y (u+1)
def vbs (v:PV):Rat:=if v.hlo then v.lo else if v.hhi then v.hi else 0
theorem ptv_ryv (v:PV) (u:Nat) (Y:Nat→Rat):ptv v u Y=vbs v+ryv v u Y:=by
 unfold ptv vbs ryv
 cases v.hlo <;> cases v.hhi <;> simp [Rat.sub_eq_add_neg,Rat.zero_add]
theorem ryv_nil (v:PV) (u:Nat):ryv v u (fun _=>0)=0:=by
 unfold ryv
 cases v.hlo <;> cases v.hhi <;> simp [Rat.sub_eq_add_neg,Rat.add_zero]
theorem ptv_nil (v:PV) (u:Nat):ptv v u (fun _=>0)=vbs v:=by rw [ptv_ryv,ryv_nil,Rat.add_zero]
theorem rat_swap (a b c d:Rat):a+b+(c+d)=a+c+(b+d):=by
 rw [Rat.add_assoc,Rat.add_assoc,← Rat.add_assoc b,Rat.add_comm b c,Rat.add_assoc c]
theorem sZ (V:Nat→PV) (n:Nat):clm V n≤2*n:=by
 induction n with
 | zero=>exact Nat.le_refl _
 | succ n ih =>
  show clm V n+wid (V n)≤_
  have:wid (V n)≤2:=by unfold wid;split <;> (try split) <;> omega
  omega
theorem oJ (v:PV):1≤wid v:=by unfold wid;split <;> (try split) <;> omega
theorem yY (V:Nat→PV) {j n:Nat} (h:j≤n):clm V j≤clm V n:=by
 induction n with
 | zero =>
  have:j=0:=by omega
  subst this;exact Nat.le_refl _
 | succ n ih =>
  rcases (by omega:j≤n∨j=n+1) with h1|rfl
  ·exact Nat.le_trans (ih h1) (by show _≤clm V n+wid (V n);omega)
  ·exact Nat.le_refl _
theorem nN (V:Nat→PV) {j n:Nat} (h:j<n):clm V j+wid (V j)≤clm V n:=yY V (show j+1≤n from h)
def spl (v:PV) (u:Nat) (c:Rat):List PT:=if v.hlo then [⟨u,c⟩] else if v.hhi then [⟨u,-c⟩] else [⟨u,c⟩,⟨((u+1:Nat):Int),-c⟩]
theorem oK (v:PV) (u:Nat) (c:Rat):(spl v u c).length=wid v:=by
 unfold spl wid
 split
 ·rfl
 ·split <;> rfl
def gW (Y:Nat→Rat):List PT→Rat
 | []=>0
 | t::l=>t.coef*Y t.var.toNat+gW Y l
theorem iM (Y:Nat→Rat):∀ l m,gW Y (l++m)=gW Y l+gW Y m
 | [],m=>(Rat.zero_add _).symm
 | t::l,m=>by
  show t.coef*Y t.var.toNat+gW Y (l++m)=t.coef*Y t.var.toNat+gW Y l+gW Y m
  rw [iM Y l m,Rat.add_assoc]
theorem tsum_spl (v:PV) (u:Nat) (c:Rat) (Y:Nat→Rat):gW Y (spl v u c)=c*ryv v u Y:=by
 unfold spl ryv
 cases v.hlo
 ·cases v.hhi
  ·simp only [Bool.false_eq_true,if_false]
   show c*Y ((u:Int)).toNat+(-c*Y (((u+1:Nat):Int)).toNat+0)=_
   rw [Int.toNat_natCast,Int.toNat_natCast,Rat.add_zero,Rat.sub_eq_add_neg,Rat.mul_add,Rat.neg_mul,Rat.mul_neg]
  ·simp only [Bool.false_eq_true,if_false,if_true]
   show -c*Y ((u:Int)).toNat+0=_
   rw [Int.toNat_natCast,Rat.add_zero,Rat.neg_mul,Rat.mul_neg]
 ·simp only [if_true]
  show c*Y ((u:Int)).toNat+0=_
  rw [Int.toNat_natCast,Rat.add_zero]
def tC (V:Nat→PV) (c:Nat→Rat):Nat→List PT
 | 0=>[]
 | j+1=>tC V c j++spl (V j) (clm V j) (c j)
theorem lM (V:Nat→PV) (c:Nat→Rat):∀ n,(tC V c n).length=clm V n
 | 0=>rfl
 | n+1=>by
  show (tC V c n++spl (V n) (clm V n) (c n)).length=clm V n+wid (V n)
  rw [List.length_append,lM V c n,oK]
def Inc (n:Nat) (l:List PT):Prop:=l.Pairwise (fun a b=>a.var<b.var)∧∀ t ∈ l,0≤t.var∧t.var<(n:Int)
theorem Inc.nil (n:Nat):Inc n []:=⟨List.Pairwise.nil,fun t h=>by cases h⟩
theorem Inc.app {n m:Nat} {l k:List PT} (hl:Inc n l) (hk:Inc m k) (hnm:n≤m) (h:∀ t ∈ k,(n:Int)≤t.var):Inc m (l++k):=by
 refine ⟨List.pairwise_append.2 ⟨hl.1,hk.1,fun a ha b hb=>?_⟩,fun t ht=>?_⟩
 ·have:=(hl.2 a ha).2
  have:=h b hb
  omega
 ·rcases List.mem_append.1 ht with h1|h1
  ·have:=hl.2 t h1;omega
  ·exact hk.2 t h1
theorem Inc.up {n m:Nat} {l:List PT} (hl:Inc n l) (h:n≤m):Inc m l:=⟨hl.1,fun t ht=>by have:=hl.2 t ht;omega⟩
theorem wU (v:PV) (u:Nat) (c:Rat):Inc (u+wid v) (spl v u c)∧∀ t ∈ spl v u c,(u:Int)≤t.var:=by
 unfold spl wid Inc
 cases v.hlo
 ·cases v.hhi
  ·simp
   omega
  ·simp
   omega
 ·simp
  omega
theorem yZ (V:Nat→PV) (c:Nat→Rat):∀ n,Inc (clm V n) (tC V c n)
 | 0=>Inc.nil _
 | n+1=>(yZ V c n).app (wU _ _ _).1 (by show _≤clm V n+wid (V n);omega) (wU _ _ _).2
def uK (l:List PT):Nat→Nat→Rat
 | 0,_=>0
 | i+1,c=>if (c:Int)=(l.getD i ⟨0,0⟩).var then (l.getD i ⟨0,0⟩).coef else uK l i c
def bV (l:List PT) (c:Nat):Rat:=uK l l.length c
theorem zA (l:List PT) (t:PT) (c:Nat):∀ i,i≤l.length→uK (l++[t]) i c=uK l i c
 | 0,_=>rfl
 | i+1,h=>by
  have e:(l++[t]).getD i ⟨0,0⟩=l.getD i ⟨0,0⟩:=by
   simp only [List.getD_eq_getElem?_getD]
   rw [List.getElem?_append_left (by omega)]
  unfold uK
  rw [e,zA l t c i (by omega)]
theorem iO (l:List PT) (t:PT) (c:Nat):bV (l++[t]) c=if (c:Int)=t.var then t.coef else bV l c:=by
 unfold bV
 have e:(l++[t]).getD l.length ⟨0,0⟩=t:=by simp [List.getD_eq_getElem?_getD]
 rw [List.length_append]
 show (if (c:Int)=((l++[t]).getD l.length ⟨0,0⟩).var then ((l++[t]).getD l.length ⟨0,0⟩).coef else uK (l++[t]) l.length c)=_
 rw [e,zA l t c _ (Nat.le_refl _)]
theorem oL {p:List PT→Prop} (h0:p []) (h1:∀ l t,p l→p (l++[t])) (l:List PT):p l:=by
 have:∀ n (l:List PT),l.length=n→p l:=by
  intro n
  induction n with
  | zero=>intro l e;rw [List.length_eq_zero_iff.1 e];exact h0
  | succ n ih =>
   intro l e
   have hne:l≠[]:=fun h=>by subst h;simp at e
   rw [← List.dropLast_concat_getLast hne]
   exact h1 _ _ (ih _ (by rw [List.length_dropLast];omega))
 exact this _ l rfl
theorem sprd_ge {n:Nat} {l:List PT} (h:∀ t ∈ l,t.var<(n:Int)) {c:Nat} (hc:n≤c):bV l c=0:=by
 induction l using oL with
 | h0=>rfl
 | h1 l t ih =>
  rw [iO,if_neg,ih fun t ht=>h t (List.mem_append.2 (.inl ht))]
  have:=h t (List.mem_append.2 (.inr (List.mem_singleton.2 rfl)))
  omega
theorem uU {X:Nat→Rat} (n:Nat) (h:∀ i,i<n→X i=0):bJ X n=0:=by
 induction n with
 | zero=>rfl
 | succ n ih=>rw [bH,ih fun i hi=>h i (by omega),h n (by omega),Rat.add_zero]
theorem rsum_at (X:Nat→Rat) (a:Rat) {j:Nat}:∀ n,j<n→X j=0→bJ (fun i=>if i=j then a else X i) n=bJ X n+a
 | 0,h,_=>by omega
 | n+1,h,h0=>by
  rw [bH,bH]
  by_cases e:j=n
  ·subst e
   simp only [if_true]
   rw [h0,Rat.add_zero]
   congr 1
   exact dZ fun i hi=>if_neg (by omega)
  ·rw [if_neg (fun e2=>e e2.symm),rsum_at X a n (by omega) h0,Rat.add_assoc,Rat.add_comm a,Rat.add_assoc]
theorem tH {n:Nat} {l:List PT} (h:Inc n l) (Y:Nat→Rat):bJ (fun c=>bV l c*Y c) n=gW Y l:=by
 induction l using oL with
 | h0=>exact uU n fun i _=>Rat.zero_mul _
 | h1 l t ih =>
  have hl:Inc n l:=⟨(List.pairwise_append.1 h.1).1,fun s hs=>h.2 s (List.mem_append.2 (.inl hs))⟩
  have ht:=h.2 t (List.mem_append.2 (.inr (List.mem_singleton.2 rfl)))
  have hlt:∀ s ∈ l,s.var<t.var:=fun s hs=>(List.pairwise_append.1 h.1).2.2 s hs t (List.mem_singleton.2 rfl)
  have hz:bV l t.var.toNat=0:=sprd_ge (n:=t.var.toNat) (fun s hs=>by have:=hlt s hs;omega) (Nat.le_refl _)
  have e:bJ (fun c=>bV (l++[t]) c*Y c) n=bJ (fun c=>if c=t.var.toNat then t.coef*Y t.var.toNat else bV l c*Y c) n:=by
   refine dZ fun c _=>?_
   rw [iO]
   by_cases hc:(c:Int)=t.var
   ·have:c=t.var.toNat:=by omega
    rw [if_pos hc,if_pos this,this]
   ·rw [if_neg hc,if_neg (by omega)]
  rw [e,rsum_at _ _ n (by omega) (by rw [hz,Rat.zero_mul]),ih hl,iM]
  show _=_+(t.coef*Y t.var.toNat+0)
  rw [Rat.add_zero]
def zn (n:Nat) (X:Nat→Rat) (i:Nat):Rat:=if i<n then X i else 0
structure Eqn where
 l:List PT
 r:Rat
def rowT (V:Nat→PV) (t:Nat→PT):Nat→List PT
 | 0=>[]
 | q+1=>rowT V t q++spl (V (t q).var.toNat) (clm V (t q).var.toNat) (t q).coef
def dD (V:Nat→PV) (r:PW) (st:Rat) (c:Nat):List Eqn × Nat :=
 if r.hlo then
  if r.hhi then
   if r.lo-st=r.hi-st then ([⟨rowT V r.t r.nt,r.lo-st⟩],c)
   else ([⟨rowT V r.t r.nt++[⟨c,-1⟩],r.lo-st⟩,⟨[⟨c,1⟩,⟨((c+1:Nat):Int),1⟩],(r.hi-st)-(r.lo-st)⟩],c+2)
  else ([⟨rowT V r.t r.nt++[⟨c,-1⟩],r.lo-st⟩],c+1)
 else if r.hhi then ([⟨rowT V r.t r.nt++[⟨c,1⟩],r.hi-st⟩],c+1)
 else ([],c)
def bC (V:Nat→PV) (R:Nat→PW) (st:Nat→Rat) (n:Nat):Nat→List Eqn × Nat
 | 0=>([],clm V n)
 | i+1=>((bC V R st n i).1++(dD V (R i) (st i) (bC V R st n i).2).1,(dD V (R i) (st i) (bC V R st n i).2).2)
def aZ (V:Nat→PV) (A:List Eqn × Nat):Nat→List Eqn × Nat
 | 0=>A
 | j+1=>if (V j).hlo && (V j).hhi then ((aZ V A j).1++[⟨[⟨(clm V j:Nat),1⟩,⟨((aZ V A j).2:Nat),1⟩],(V j).hi-(V j).lo⟩],(aZ V A j).2+1) else aZ V A j
end Go.Proofs.YtmeimjakdheidaaGreatDoor
namespace Go.Proofs.YtmeimjakdheidaaGreatDoor
open Go.RowKit
structure Kx (R F:Nat) (L:List TypeId) (w w':World):Prop where
 os:w'.os=w.os
 tape:w'.tape=w.tape
 output:w'.output=w.output
 size:w.heap.size≤w'.heap.size
 low:∀ k,k<F→k≠R→w'.heap[k]? = w.heap[k]?
 high:∀ (k:Nat) (cur:Array Value) (T:TypeId) (f:Nat × Nat),w.heap[k]? = some (Obj.cells cur T f)→T ∉ L→w'.heap[k]? = w.heap[k]?
theorem Kx.refl (R F:Nat) (L:List TypeId) (w:World):Kx R F L w w:=⟨rfl,rfl,rfl,Nat.le_refl _,fun _ _ _=>rfl,fun _ _ _ _ _ _=>rfl⟩
theorem Kx.trans {R F:Nat} {L:List TypeId} {a b c:World} (h:Kx R F L a b) (k:Kx R F L b c):Kx R F L a c :=
 ⟨k.os.trans h.os,k.tape.trans h.tape,k.output.trans h.output,Nat.le_trans h.size k.size,fun i h1 h2=>(k.low i h1 h2).trans (h.low i h1 h2),fun i cur T f h1 h2=>by
  have e:=h.high i cur T f h1 h2
  exact (k.high i cur T f (e.trans h1) h2).trans e⟩
theorem Kx.up {R F:Nat} {L L':List TypeId} {a b:World} (h:Kx R F L a b) (hL:∀ T ∈ L,T ∈ L'):Kx R F L' a b :=
 ⟨h.os,h.tape,h.output,h.size,h.low,fun i cur T f h1 h2=>h.high i cur T f h1 fun e=>h2 (hL _ e)⟩
theorem Kx.bel {R F:Nat} {L:List TypeId} {a b c:World} (h:Kx R F L a b) (k:Below b.heap.size b c) (hF:F≤b.heap.size):Kx R F L a c :=
 ⟨k.os.trans h.os,k.tape.trans h.tape,k.output.trans h.output,Nat.le_trans h.size k.size,fun i h1 h2=>(k.block i (by omega)).trans (h.low i h1 h2),fun i cur T f h1 h2=>by
  have e:=h.high i cur T f h1 h2
  exact (k.block i (Array.getElem?_eq_some_iff.1 (e.trans h1)).1).trans e⟩
theorem Kx.below {R F:Nat} {L:List TypeId} {a b:World} (h:Kx R F L a b) (hF:R≤F):Below R a b:=⟨h.os,h.tape,h.output,h.size,fun k hk=>h.low k (by omega) (by omega)⟩
theorem dU {R F:Nat} {L:List TypeId} {b c:World} (k:Below b.heap.size b c) (hF:F≤b.heap.size):Kx R F L b c:=(Kx.refl R F L b).bel k hF
theorem Kx.off {R F:Nat} {L:List TypeId} {a b c:World} (h:Kx R F L a b) {t:TypeId} {cs:Array Value} (hr:Rw t b R cs) (ht:t ∈ L) (k:Off R b c):Kx R F L a c :=
 ⟨k.os.trans h.os,k.tape.trans h.tape,k.output.trans h.output,Nat.le_trans h.size (Nat.le_of_eq k.size.symm),fun i h1 h2=>(k.block i h2).trans (h.low i h1 h2),fun i cur T f h1 h2=>by
  have e:=h.high i cur T f h1 h2
  refine (k.block i fun e2=>?_).trans e
  subst e2
  unfold Rw at hr
  rw [e,h1] at hr
  simp only [Option.some.injEq,Obj.cells.injEq] at hr
  exact h2 (hr.2.1 ▸ ht)⟩
theorem Kx.grown {R F:Nat} {L:List TypeId} {a b c:World} (h:Kx R F L a b) {B:Nat} {T:TypeId} {d:Nat} {v:Value} {n:Nat} {E:Nat→List Value} (hs:SL b B T d v n E) (hT:T ∈ L) (hB:F≤B) (hF:F≤b.heap.size) (k:b.grownBy c v.ownBlock):Kx R F L a c:=by
 have hlt:=hs.lt
 refine ⟨k.os.trans h.os,k.tape.trans h.tape,k.output.trans h.output,Nat.le_trans h.size k.size,fun i h1 h2=>(k.block i (by omega) fun e=>by have:=(hlt i e.symm).1;omega).trans (h.low i h1 h2),fun i cur U f h1 h2=>?_⟩
 have e:=h.high i cur U f h1 h2
 refine (k.block i (Array.getElem?_eq_some_iff.1 (e.trans h1)).1 fun e2=>?_).trans e
 obtain ⟨vs,g1,_⟩:=hs
 rcases g1.2 with ⟨rfl,_⟩|⟨g,cap,cu,e1,_,f1,_⟩
 ·simp [Value.ownBlock] at e2
 ·subst e1
  simp [Value.ownBlock] at e2
  subst e2
  rw [e,h1] at f1
  simp only [Option.some.injEq,Obj.cells.injEq] at f1
  exact h2 (f1.2.1 ▸ hT)
theorem Kx.fresh {R F:Nat} {L:List TypeId} {a b c:World} (h:Kx R F L a b) {row:Option Nat} (k:b.grownBy c row) (hr:∀ i,row=some i→a.heap.size≤i) (hF:F≤a.heap.size):Kx R F L a c:=by
 have hs:=h.size
 refine ⟨k.os.trans h.os,k.tape.trans h.tape,k.output.trans h.output,Nat.le_trans h.size k.size,fun i h1 h2=>(k.block i (by omega) fun e=>by have:=hr i e.symm;omega).trans (h.low i h1 h2),fun i cur U f h1 h2=>?_⟩
 have hi:=(Array.getElem?_eq_some_iff.1 h1).1
 exact (k.block i (by omega) fun e=>by have:=hr i e.symm;omega).trans (h.high i cur U f h1 h2)
theorem Rw.kxh {t:TypeId} {w w':World} {R F Q:Nat} {L:List TypeId} {cs:Array Value} (h:Rw t w Q cs) (k:Kx R F L w w') (ht:t ∉ L):Rw t w' Q cs:=(k.high Q _ _ _ h ht).trans h
theorem Rw.kxl {t:TypeId} {w w':World} {R F Q:Nat} {L:List TypeId} {cs:Array Value} (h:Rw t w Q cs) (k:Kx R F L w w') (h1:Q<F) (h2:Q≠R):Rw t w' Q cs:=(k.low Q h1 h2).trans h
theorem wW {w w':World} {R F:Nat} {L:List TypeId} {B:Nat} {T:TypeId} {c:Nat} {v:Value} {n:Nat} {vs:List Value} (h:w.ownsRow B T c v n vs) (k:Kx R F L w w') (hT:T ∉ L):w'.ownsRow B T c v n vs:=by
 refine ⟨h.1,?_⟩
 rcases h.2 with hn|⟨g,cap,cur,e1,e2,hgb,rest⟩
 ·exact .inl hn
 ·exact .inr ⟨g,cap,cur,e1,e2,(k.high g _ _ _ hgb hT).trans hgb,rest⟩
theorem SL.kxh {w w':World} {R F:Nat} {L:List TypeId} {B:Nat} {T:TypeId} {c:Nat} {v:Value} {n:Nat} {E:Nat→List Value} (h:SL w B T c v n E) (k:Kx R F L w w') (hT:T ∉ L):SL w' B T c v n E:=by
 obtain ⟨vs,h1,h2⟩:=h
 exact ⟨vs,wW h1 k hT,h2⟩
theorem Got.kx {w w':World} {R F:Nat} {L:List TypeId} {B:Nat} {v:Value} {x:Int} {S:Nat} (h:Got w B v x S) (k:Kx R F L w w') (hL:118 ∉ L):Got w' B v x S:=by
 obtain ⟨xs,h1,h2⟩:=h
 exact ⟨xs,wW h1 k hL,h2⟩
theorem GR.kx {w w':World} {R F:Nat} {L:List TypeId} {B:Nat} {f:Bool} {c:Option Addr} {n k:Nat} {c':Option Addr} {n' k':Nat} {r:Rat} {S:Nat} (h:GR w B f c n k c' n' k' r S) (hk:Kx R F L w w') (hL:118 ∉ L):GR w' B f c n k c' n' k' r S:=by
 refine ⟨?_,h.2.kx hk hL,h.3⟩
 obtain ⟨a,n2,c2,h1,h2⟩:=h.1
 exact ⟨a,n2,c2,h1,h2.kx hk hL⟩
theorem RL.kx {w w':World} {R F:Nat} {L:List TypeId} {B:Nat} {v:Value} {n:Nat} {X:Nat→Rat} {S:Nat} (h:RL w B v n X S) (hk:Kx R F L w w') (hL:118 ∉ L) (hL2:27 ∉ L):RL w' B v n X S:=by
 obtain ⟨vs,h1,h2⟩:=h
 refine ⟨vs,wW h1 hk hL2,fun i hi=>?_⟩
 obtain ⟨p,a,na,ca,d,nd,cd,g1,g2,g3,g4⟩:=h2 i hi
 exact ⟨p,a,na,ca,d,nd,cd,g1,g2,g3,g4.kx hk hL⟩
theorem TC.kx {w w':World} {R F:Nat} {L:List TypeId} {B:Nat} {cs:List Value} {t:PT} {Y:Nat} (h:TC w B cs t Y) (hk:Kx R F L w w') (hL:118 ∉ L):TC w' B cs t Y:=by
 obtain ⟨p,a,na,ca,d,nd,cd,e,g⟩:=h
 exact ⟨p,a,na,ca,d,nd,cd,e,g.kx hk hL⟩
theorem TB.kx {w w':World} {R F:Nat} {L:List TypeId} (h:TB w) (hk:Kx R F L w w') (h1:2<F) (h2:2≠R):TB w' :=
 ⟨fun j hj=>by rw [World.cell?_of_block (w:=w) (hk.low _ h1 h2)];exact h.1 j hj,Nat.lt_of_lt_of_le h.2 hk.size⟩
def TM (w:World) (B:Nat) (v:Value) (l:List PT) (S:Nat):Prop:=∃ E,SL w B 52 4 v l.length E∧∀ i t,l[i]? = some t→TC w 0 (E i) t S
theorem TM.nil (w:World) (B S:Nat):TM w B (.slice none 0 0) [] S:=⟨fun _=>[],SL.nil _ _ _ _ _,fun i t h=>by simp at h⟩
theorem TM.kx {w w':World} {R F:Nat} {L:List TypeId} {B:Nat} {v:Value} {l:List PT} {S:Nat} (h:TM w B v l S) (hk:Kx R F L w w') (hL:118 ∉ L) (hL2:52 ∉ L):TM w' B v l S:=by
 obtain ⟨E,h1,h2⟩:=h
 exact ⟨E,h1.kxh hk hL2,fun i t hi=>(h2 i t hi).kx hk hL⟩
theorem TM.below {w w':World} {B:Nat} {v:Value} {l:List PT} {S:Nat} (h:TM w B v l S) (hb:Below w.heap.size w w'):TM w' B v l S:=by
 obtain ⟨E,h1,h2⟩:=h
 exact ⟨E,h1.below hb,fun i t hi=>(h2 i t hi).below hb⟩
theorem TM.mono {w:World} {B B':Nat} {v:Value} {l:List PT} {S:Nat} (h:TM w B v l S) (hB:B'≤B):TM w B' v l S:=by
 obtain ⟨E,h1,h2⟩:=h
 exact ⟨E,h1.mono hB,h2⟩
theorem TM.form {w:World} {B:Nat} {v:Value} {l:List PT} {S:Nat} (h:TM w B v l S):∃ a cap,v = .slice a l.length cap∧l.length≤cap:=by
 obtain ⟨E,h1,h2⟩:=h
 exact h1.form
theorem TM.app {w:World} {B:Nat} {v:Value} {l k:List PT} {S:Nat} {E D:Nat→List Value} (h:SL w B 52 4 v (l.length+k.length) (fun i=>if i<l.length then E i else D (i-l.length))) (hE:∀ i t,l[i]? = some t→TC w 0 (E i) t S) (hD:∀ i t,k[i]? = some t→TC w 0 (D i) t S):TM w B v (l++k) S:=by
 refine ⟨_,by rw [List.length_append];exact h,fun i t ht=>?_⟩
 by_cases hi:i<l.length
 ·rw [List.getElem?_append_left hi] at ht
  simp only [hi,if_true]
  exact hE i t ht
 ·rw [List.getElem?_append_right (by omega)] at ht
  simp only [hi,if_false]
  exact hD _ t ht
def EC (w:World) (B:Nat) (cs:List Value) (e:Eqn) (S:Nat):Prop:=∃ tv p a na ca d nd cd,cs=[tv,.bool p,.slice a na ca,.slice d nd cd]∧TM w B tv e.l S∧GR w 0 p a na ca d nd cd e.r S
theorem EC.kx {w w':World} {R F:Nat} {L:List TypeId} {B:Nat} {cs:List Value} {e:Eqn} {S:Nat} (h:EC w B cs e S) (hk:Kx R F L w w') (hL:118 ∉ L) (hL2:52 ∉ L):EC w' B cs e S:=by
 obtain ⟨tv,p,a,na,ca,d,nd,cd,e,h1,h2⟩:=h
 exact ⟨tv,p,a,na,ca,d,nd,cd,e,h1.kx hk hL hL2,h2.kx hk hL⟩
def EM (w:World) (B:Nat) (v:Value) (l:List Eqn) (S:Nat):Prop:=∃ E,SL w B 74 4 v l.length E∧∀ i e,l[i]? = some e→EC w B (E i) e S
theorem EM.nil (w:World) (B S:Nat):EM w B (.slice none 0 0) [] S:=⟨fun _=>[],SL.nil _ _ _ _ _,fun i t h=>by simp at h⟩
theorem EM.kx {w w':World} {R F:Nat} {L:List TypeId} {B:Nat} {v:Value} {l:List Eqn} {S:Nat} (h:EM w B v l S) (hk:Kx R F L w w') (hL:118 ∉ L) (hL2:52 ∉ L) (hL3:74 ∉ L):EM w' B v l S:=by
 obtain ⟨E,h1,h2⟩:=h
 exact ⟨E,h1.kxh hk hL3,fun i t hi=>(h2 i t hi).kx hk hL hL2⟩
theorem EM.form {w:World} {B:Nat} {v:Value} {l:List Eqn} {S:Nat} (h:EM w B v l S):∃ a cap,v = .slice a l.length cap∧l.length≤cap:=by
 obtain ⟨E,h1,h2⟩:=h
 exact h1.form
theorem wpAnyG.two {P:Program} {ops:Array Oper} {Q:Exit→Act→World→Prop} {md:Region.Mode} {T:Array Bool→World→Prop} (i j:Nat) {f:Nat} {L:Array Bool} {a:Act} {w:World} (hr:Region.ready md ops L=[i,j]) (hi:i<ops.size) (hj:j<ops.size) (wi:Region.wanted ops[i] (yielded ops a.tmps)=true) (wj:Region.wanted ops[j] (yielded ops a.tmps)=true)
 (h1:∀ K:Act→World→Prop,(∀ a' w',T (L.setIfInBounds i true) w'→wpAnyG P md ops Q T f (L.setIfInBounds i true) a' w'→K a' w')→ops[i].wp P a w K Q)
 (h2:∀ K:Act→World→Prop,(∀ a' w',T (L.setIfInBounds j true) w'→wpAnyG P md ops Q T f (L.setIfInBounds j true) a' w'→K a' w')→ops[j].wp P a w K Q):wpAnyG P md ops Q T (f+1) L a w:=by
 refine ⟨fun h0=>(by rw [hr] at h0;cases h0),fun k hk=>?_⟩
 rw [hr] at hk
 rcases (by simpa using hk:k=i∨k=j) with rfl|rfl
 ·unfold wpOp
  rw [Array.getElem?_eq_getElem hi]
  simp only [wi,if_true]
  exact .inl (h1 _ fun a' w' h1 h2=>⟨h1,h2⟩)
 ·unfold wpOp
  rw [Array.getElem?_eq_getElem hj]
  simp only [wj,if_true]
  exact .inl (h2 _ fun a' w' h1 h2=>⟨h1,h2⟩)
def FnE (f:FuncId):Prop:=∀ args w,(callFunc f args).run Tryz.prog w = .ok (.enter f args) w
theorem oM {o:Oper} {a:Act} {w:World} {K:Act→World→Prop} {Q:Exit→Act→World→Prop} (x:Operand) (xs:Array Operand) (ats:Array TypeId) (f:FuncId) (caps:Array Value) (ho:o.op = .call { callee:=.value x,args:=xs,argTypes:=ats }) (hx:a.eval x = .func (.func f) #[] caps) (hf:FnE f)
 {Post:Ending→World→Prop} (hC:Calls Tryz.prog f (xs.map a.eval++caps) w Post) (hP:∀ e w',Post e w'→∃ v,e = .returned v∧K (a.put o.dst v) w'):Oper.wp Tryz.prog o a w K Q:=by
 obtain ⟨dst,op,ty,pos,after,guard⟩:=o
 simp only at ho
 subst ho
 have e:execOp a.eval { dst,op:=.call { callee:=.value x,args:=xs,argTypes:=ats },type:=ty,pos,after,guard } = callFunc f (xs.map a.eval++caps):=by
  show (Deferred.ofValue (a.eval x) (xs.map a.eval) >>= _)=_
  rw [hx]
  show callFunc f ((#[]++xs.map a.eval)++caps)=_
  rw [Array.empty_append]
 unfold Oper.wp
 rw [e,hf]
 rw [Oper.upon_enter]
 exact hC.mono fun e w' h=>by obtain ⟨v,rfl,hk⟩:=hP e w' h;exact hk
theorem kM {o:Oper} {ops:Array Oper} {rest:List Oper} {a:Act} {w:World} {Q:Exit→Act→World→Prop} (hgd:o.guard=none) (x:Operand) (xs:Array Operand) (ats:Array TypeId) (f:FuncId) (caps:Array Value) (ho:o.op = .call { callee:=.value x,args:=xs,argTypes:=ats }) (hx:a.eval x = .func (.func f) #[] caps) (hf:FnE f)
 {Post:Ending→World→Prop} (hC:Calls Tryz.prog f (xs.map a.eval++caps) w Post) (hP:∀ e w',Post e w'→∃ v,e = .returned v∧wpList Tryz.prog ops Q rest (a.put o.dst v) w'):wpList Tryz.prog ops Q (o::rest) a w :=
 wpList_plain hgd fun _ hK=>oM x xs ats f caps ho hx hf hC fun e w' h=>by obtain ⟨v,rfl,hk⟩:=hP e w' h;exact ⟨v,rfl,hK _ _ hk⟩
theorem fe1:FnE 78:=fun _ _=>by kernel_rfl
theorem fe3:FnE 81:=fun _ _=>by kernel_rfl
theorem fe4:FnE 82:=fun _ _=>by kernel_rfl
theorem fe6:FnE 84:=fun _ _=>by kernel_rfl
theorem fe7:FnE 85:=fun _ _=>by kernel_rfl
theorem fe8:FnE 86:=fun _ _=>by kernel_rfl
end Go.Proofs.YtmeimjakdheidaaGreatDoor

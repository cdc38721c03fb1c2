import Derived.Test.YtdcocflnafcikaaGreatDoorPuE
import Derived.Test.YtdcocflnafcikaaGreatDoorPtGAll
import Derived.Test.YtdcocflnafcikaaGreatDoorPqGAll
import Derived.Test.YtdcocflnafcikaaGreatDoorPqCAll
import Derived.Laws.OwnMore
namespace Go.Proofs.YtdcocflnafcikaaGreatDoor
open Go.RowKit
theorem lq_fr {w:World} {a:Option Addr} {n:Nat} {X:Nat→Rat} {Z:Nat→Nat} (h:LQ w a n X Z):∃ F:Nat→Fr,LF w a n F∧∀ i,i<n→FrOk (F i) (Z i)∧frq (F i)=X i:=by
 rcases h with h|⟨b,o,rfl,h⟩
 ·exact ⟨fun _=>⟨false,[],[]⟩,.inl h,fun i hi=>by omega⟩
 ·have H:∀ i,∃ f:Fr,i<n→F3 w b (o+i*3) f∧FrOk f (Z i)∧frq f=X i:=fun i=>by
   by_cases hi:i<n
   ·obtain ⟨f,h1,h2,h3⟩:=c3_fr (h i hi)
    exact ⟨f,fun _=>⟨h1,h2,h3⟩⟩
   ·exact ⟨⟨false,[],[]⟩,fun h=>absurd h hi⟩
  obtain ⟨F,hF⟩:=Classical.axiomOfChoice H
  exact ⟨F,.inr ⟨b,o,rfl,fun i hi=>(hF i hi).1⟩,fun i hi=>(hF i hi).2⟩
theorem fr_lq {w:World} {g n:Nat} {F:Nat→Fr} {X:Nat→Rat} {Z:Nat→Nat} (h:∀ i,i<n→F3 w g (i*3) (F i)) (hF:∀ i,i<n→FrOk (F i) (Z i)∧frq (F i)=X i):LQ w (some ⟨g,0,none⟩) n X Z :=
 .inr ⟨g,0,rfl,fun i hi=>by
  have h1:=(h i hi).c3 (hF i hi).1
  rw [(hF i hi).2] at h1
  rw [Nat.zero_add]
  exact h1⟩
theorem run_append_none {P:Program} (w:World) (base:Nat) (t ty e:TypeId) (i:TypeInfo) (size:Nat) (ht:P.underlying t=some (.slice e)) (hi:P.info? e=some i)
  (v:Value) (n:Nat) (xs:List Value) (hown:w.ownsRow base e size v n xs) (c:Nat) :
  (Builtin.append_ #[t,t] ty #[v,.slice none 0 c]).run P w = .ok v w:=by
 rcases hown.2 with ⟨rfl,rfl⟩|⟨g,cap,cur,rfl,_,_,hnc,_⟩
 ·simp [Builtin.append_,run_underlying ht,sizeOf,typeInfo,hi,Builtin.lenOf,Builtin.firstCells]
 ·simp [Builtin.append_,run_underlying ht,sizeOf,typeInfo,hi,Builtin.lenOf,Builtin.firstCells,hnc,storeCells]
theorem wpList_appendCat (w:World) {ops:Array Oper} {rest:List Oper} {o:Oper} {a:Act} {Q:Exit→Act→World→Prop} (hgd:o.guard=none) (s x:Operand)
  (ho:o.op = .call { callee:=.builtin .append,args:=#[s,x],argTypes:=#[43,43] }) (B:Nat) (v:Value) (n:Nat) (xs:List Value) (hs:a.eval s=v) (hown:w.ownsRow B 27 3 v n xs)
  (ya:Option Addr) (m c:Nat) (hx:a.eval x = .slice ya m c) (cs:List Value) (hl:cs.length=m*3) (hsrc:m=0∨∃ ad,ya=some ad∧∀ j u,cs[j]? = some u→w.cell? (ad.add j)=some u) (h1:∀ u ∈ cs,u.oneCell'=true) (hlen:n+m≤1000000000) (hB:B≤w.heap.size)
  (hK:∀ v' w',w'.ownsRow B 27 3 v' (n+m) (xs++cs)→w.grownBy w' v.ownBlock→wpList Tryz.prog ops Q rest (a.put o.dst v') w') :
  wpList Tryz.prog ops Q (o::rest) a w:=by
 obtain ⟨i0,z,hi,hz,hs3,hb56,hz3⟩:=info3
 rcases ya with _|ad
 ·have hm:m=0:=by
   rcases hsrc with h|⟨ad,h,_⟩
   ·exact h
   ·cases h
  subst hm
  have hc:cs=[]:=List.eq_nil_of_length_eq_zero (by simpa using hl)
  subst hc
  have hr:=run_append_none (P:=Tryz.prog) w B 43 o.type 27 i0 3 Tryz.underlying43 hi v n xs hown c
  refine wpList_plain hgd fun K hK'=>?_
  unfold Oper.wp execOp
  simp only [ho,resolve,invoke,builtin,Sem.run_bind,Sem.run_pure,Result.andThen_ok,List.map_toArray,List.map_cons,List.map_nil,hs,hx,hr]
  refine hK' _ _ (hK _ _ ?_ ⟨rfl,rfl,rfl,Nat.le_refl _,fun _ _ _=>rfl⟩)
  rw [List.append_nil]
  exact hown
 ·refine wpList_append_own w hgd s x 43 ho B 27 i0 z 3 56 Tryz.underlying43 hi hz hs3 hb56 hz3 (by decide) v n xs hs hown ad m c cs hx hl ?_ h1 (by unfold maxLen;omega) (by omega) hB (fun v' w' r1 r2 _=>hK v' w' r1 r2)
  rcases hsrc with h|⟨ad',h,hc⟩
  ·subst h
   have hc:cs=[]:=List.eq_nil_of_length_eq_zero (by simpa using hl)
   subst hc
   intro j u hj
   cases hj
  ·cases h
   exact hc
theorem Addr.add_mid' (b o j:Nat):(⟨b,o,none⟩:Addr).add j=⟨b,o+j,none⟩:=by unfold Addr.add;split <;> simp_all
theorem flat_get {c:Nat} {D:Nat→List Value}:∀ (m:Nat),(∀ i,i<m→(D i).length=c)→((List.range m).flatMap D).length=m*c∧∀ i,i<m→∀ j,j<c→((List.range m).flatMap D)[i*c+j]? = (D i)[j]?
 | 0,_=>⟨by simp,fun i hi=>by omega⟩
 | m+1,h=>by
  obtain ⟨h1,h2⟩:=flat_get m (fun i hi=>h i (by omega))
  have e:(List.range (m+1)).flatMap D=(List.range m).flatMap D++D m:=by rw [List.range_succ,List.flatMap_append];simp
  rw [e]
  refine ⟨by rw [List.length_append,h1,h m (by omega),Nat.add_mul,Nat.one_mul],fun i hi j hj=>?_⟩
  by_cases hm:i<m
  ·have h5:(i+1)*c≤m*c:=Nat.mul_le_mul_right c hm
   rw [Nat.add_mul,Nat.one_mul] at h5
   rw [List.getElem?_append_left (by omega)]
   exact h2 i hm j hj
  ·obtain rfl:i=m:=by omega
   rw [List.getElem?_append_right (by omega),h1,Nat.add_sub_cancel_left]
theorem wpList_appendCV (w:World) {ops:Array Oper} {rest:List Oper} {o:Oper} {a:Act} {Q:Exit→Act→World→Prop} (hgd:o.guard=none) (s x:Operand)
  (ho:o.op = .call { callee:=.builtin .append,args:=#[s,x],argTypes:=#[43,43] }) (B:Nat) (v:Value) (n:Nat) (E:Nat→List Value) (hs:a.eval s=v) (hown:SL w B 27 3 v n E)
  (ya:Option Addr) (m c:Nat) (hx:a.eval x = .slice ya m c) (D:Nat→List Value) (hD:∀ i,i<m→(D i).length=3∧∀ u ∈ D i,u.oneCell'=true) (hsrc:m=0∨∃ b o',ya=some ⟨b,o',none⟩∧∀ i,i<m→∀ j u,(D i)[j]? = some u→w.cell? ⟨b,o'+i*3+j,none⟩=some u) (hlen:n+m≤1000000000) (hB:B≤w.heap.size)
  (hK:∀ va' cap w',SL w' B 27 3 (.slice va' (n+m) cap) (n+m) (fun i=>if i<n then E i else D (i-n))→w.grownBy w' v.ownBlock→wpList Tryz.prog ops Q rest (a.put o.dst (.slice va' (n+m) cap)) w') :
  wpList Tryz.prog ops Q (o::rest) a w:=by
 obtain ⟨vs,g1,g2⟩:=hown
 obtain ⟨f1,f2⟩:=flat_get (c:=3) (D:=D) m (fun i hi=>(hD i hi).1)
 refine wpList_appendCat w hgd s x ho B v n vs hs g1 ya m c hx ((List.range m).flatMap D) f1 ?_ (fun u hu=>?_) hlen hB (fun v' w' r1 r2=>?_)
 ·rcases hsrc with h|⟨b,o',e,h⟩
  ·exact .inl h
  ·refine .inr ⟨_,e,fun j u hj=>?_⟩
   have hlt:j<m*3:=by rw [← f1];exact (List.getElem?_eq_some_iff.1 hj).1
   have e1:j=j/3*3+j%3:=by omega
   have h2:=f2 (j/3) (by omega) (j%3) (by omega)
   rw [← e1,hj] at h2
   rw [Addr.add_mid',show o'+j=o'+j/3*3+j%3 by omega]
   exact h (j/3) (by omega) (j%3) u h2.symm
 ·obtain ⟨i,hi,hu⟩:=List.mem_flatMap.1 hu
  exact (hD i (by simpa using hi)).2 u hu
 ·have hS:SL w' B 27 3 v' (n+m) (fun i=>if i<n then E i else D (i-n)):=by
   refine ⟨_,r1,fun i hi j u hu=>?_⟩
   have hl:vs.length=n*3:=g1.1
   by_cases e:i<n
   ·simp only [e,if_true] at hu
    obtain ⟨k1,k2⟩:=g2 i e j u hu
    have hlt:i*3+j<vs.length:=(List.getElem?_eq_some_iff.1 k2).1
    exact ⟨k1,by rw [List.getElem?_append_left hlt];exact k2⟩
   ·simp only [e,if_false] at hu
    have k1:j<3:=by have:=(List.getElem?_eq_some_iff.1 hu).1;rw [(hD (i-n) (by omega)).1] at this;exact this
    refine ⟨k1,?_⟩
    rw [List.getElem?_append_right (by omega),hl,show i*3+j-n*3=(i-n)*3+j by omega,f2 (i-n) (by omega) j k1]
    exact hu
  obtain ⟨va',cap,rfl,_⟩:=hS.form
  exact hK va' cap w' hS r2
end Go.Proofs.YtdcocflnafcikaaGreatDoor

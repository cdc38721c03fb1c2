import Derived.Test.YtmeimjakdheidaaGreatDoorShN
import Derived.Test.YtmeimjakdheidaaGreatDoorPqEAll
namespace Go.Proofs.YtmeimjakdheidaaGreatDoor
open Go.RowKit
theorem oN (V:Nat→PV) (t:Nat→PT):∀ q,(∀ i j,i<j→j<q→(t i).var<(t j).var)→∀ m:Nat,(∀ i,i<q→0≤(t i).var∧(t i).var<(m:Int))→Inc (clm V m) (rowT V t q)
 | 0,_,m,_=>Inc.nil _
 | q+1,hup,m,hm=>by
  have hq:=hm q (by omega)
  have h1:=oN V t q (fun i j a b=>hup i j a (by omega)) (t q).var.toNat (fun i hi=>⟨(hm i (by omega)).1,by have:=hup i q hi (by omega);omega⟩)
  obtain ⟨s1,s2⟩:=wU (V (t q).var.toNat) (clm V (t q).var.toNat) (t q).coef
  refine h1.app (s1.up (nN V (by omega))) (yY V (by omega)) s2
def EqO (A:List Eqn × Nat):Prop:=∀ e ∈ A.1,Inc A.2 e.l
theorem eqs_ok {V:Nat→PV} {r:PW} {n c:Nat} (hup:∀ i j,i<j→j<r.nt→(r.t i).var<(r.t j).var) (hm:∀ i,i<r.nt→0≤(r.t i).var∧(r.t i).var<(n:Int)) (hc:clm V n≤c) (st:Rat):EqO (dD V r st c)∧c≤(dD V r st c).2:=by
 have h0:=oN V r.t r.nt hup n hm
 have hs:∀ x:Rat,Inc (c+1) (rowT V r.t r.nt++[⟨(c:Nat),x⟩]):=fun x=>h0.app ⟨List.pairwise_singleton _ _,fun t ht=>by rw [List.mem_singleton.1 ht];show 0≤(c:Int)∧(c:Int)<((c+1:Nat):Int);omega⟩ (by omega) (fun t ht=>by rw [List.mem_singleton.1 ht];show ((clm V n:Nat):Int)≤(c:Int);omega)
 have hw:Inc (c+2) [⟨(c:Nat),1⟩,⟨((c+1:Nat):Int),1⟩]:=⟨by simp;omega,fun t ht=>by
  simp at ht
  rcases ht with rfl|rfl <;> (dsimp only;omega)⟩
 unfold dD EqO
 split
 ·split
  ·split
   ·exact ⟨fun e he=>by rw [List.mem_singleton.1 he];exact h0.up hc,Nat.le_refl _⟩
   ·refine ⟨fun e he=>?_,by show c≤c+2;omega⟩
    simp at he
    rcases he with rfl|rfl
    ·exact (hs _).up (by show c+1≤c+2;omega)
    ·exact hw
  ·exact ⟨fun e he=>by rw [List.mem_singleton.1 he];exact hs _,by show c≤c+1;omega⟩
 ·split
  ·exact ⟨fun e he=>by rw [List.mem_singleton.1 he];exact hs _,by show c≤c+1;omega⟩
  ·exact ⟨fun e he=>(by cases he),Nat.le_refl _⟩
theorem rows_ok {V:Nat→PV} {R:Nat→PW} {st:Nat→Rat} {n:Nat}:∀ i,(∀ k,k<i→(∀ a b,a<b→b<(R k).nt→((R k).t a).var<((R k).t b).var)∧∀ q,q<(R k).nt→0≤((R k).t q).var∧((R k).t q).var<(n:Int))→EqO (bC V R st n i)∧clm V n≤(bC V R st n i).2
 | 0,_=>⟨fun e he=>(by cases he),Nat.le_refl _⟩
 | i+1,h=>by
  obtain ⟨h1,h2⟩:=rows_ok (V:=V) (R:=R) (st:=st) (n:=n) i (fun k hk=>h k (by omega))
  obtain ⟨h3,h4⟩:=eqs_ok (V:=V) (r:=R i) (c:=(bC V R st n i).2) (h i (by omega)).1 (h i (by omega)).2 h2 (st i)
  refine ⟨fun e he=>?_,Nat.le_trans h2 h4⟩
  rcases List.mem_append.1 he with h5|h5
  ·exact (h1 e h5).up h4
  ·exact h3 e h5
theorem vars_ok {V:Nat→PV} {A:List Eqn × Nat} {n:Nat} (hA:EqO A) (hn:clm V n≤A.2):∀ j,j≤n→EqO (aZ V A j)∧A.2≤(aZ V A j).2
 | 0,_=>⟨hA,Nat.le_refl _⟩
 | j+1,hj=>by
  obtain ⟨h1,h2⟩:=vars_ok hA hn j (by omega)
  have h3:=nN V (j:=j) (n:=n) (by omega)
  have h4:=oJ (V j)
  unfold aZ
  split
  ·refine ⟨fun e he=>?_,by show A.2≤(aZ V A j).2+1;omega⟩
   rcases List.mem_append.1 he with h5|h5
   ·exact (h1 e h5).up (by show (aZ V A j).2≤(aZ V A j).2+1;omega)
   ·rw [List.mem_singleton.1 h5]
    refine ⟨by simp;omega,fun t ht=>?_⟩
    simp at ht
    rcases ht with rfl|rfl <;> (dsimp only;omega)
  ·exact ⟨h1,h2⟩
theorem Inc.len {n:Nat} {l:List PT} (h:Inc n l):l.length≤n:=by
 induction l using oL generalizing n with
 | h0=>exact Nat.zero_le _
 | h1 l t ih =>
  have ht:=h.2 t (List.mem_append.2 (.inr (List.mem_singleton.2 rfl)))
  have hl:Inc t.var.toNat l:=⟨(List.pairwise_append.1 h.1).1,fun s hs=>⟨(h.2 s (List.mem_append.2 (.inl hs))).1,by have:=(List.pairwise_append.1 h.1).2.2 s hs t (List.mem_singleton.2 rfl);omega⟩⟩
  have:=ih hl
  rw [List.length_append]
  show l.length+1≤n
  omega
theorem uZ (X Y:Nat→Rat):∀ n,bJ (fun j=>X j+Y j) n=bJ X n+bJ Y n
 | 0=>(Rat.add_zero 0).symm
 | n+1=>by rw [bH,bH,bH,uZ X Y n];exact rat_swap _ _ _ _
theorem sprd_wd {l:List PT} {d:Nat} {D:Int} (hD:0<D) (hd:D<pw d) (h:∀ t ∈ l,Wd d D t.coef) (c:Nat):Wd d D (bV l c):=by
 induction l using oL with
 | h0=>exact Wd.zero hD hd
 | h1 l t ih =>
  rw [iO]
  split
  ·exact h t (List.mem_append.2 (.inr (List.mem_singleton.2 rfl)))
  ·exact ih fun s hs=>h s (List.mem_append.2 (.inl hs))
end Go.Proofs.YtmeimjakdheidaaGreatDoor

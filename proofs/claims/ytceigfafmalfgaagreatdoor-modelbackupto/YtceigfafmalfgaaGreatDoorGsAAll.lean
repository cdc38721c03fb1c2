import Derived.Test.YtceigfafmalfgaaGreatDoorPqE
namespace Go.Proofs.YtceigfafmalfgaaGreatDoor
open Go.RowKit
def gsum (t:Nat→PT) (k:Nat) (x:Int):Rat:=rsum (fun i=>if (t i).var=x then (t i).coef else 0) k
end Go.Proofs.YtceigfafmalfgaaGreatDoor
namespace Go.Proofs.YtceigfafmalfgaaGreatDoor
def ps (t:Nat→PT) (Z:Nat→Nat) (x:Int):Nat→List (Rat × Nat)
 | 0=>[]
 | k+1=>if (t k).var=x then ps t Z x k++[((t k).coef,Z k)] else ps t Z x k
def lX (l:List (Rat × Nat)) (i:Nat):Rat:=(l.getD i (0,1)).1
def lZ (l:List (Rat × Nat)) (i:Nat):Nat:=(l.getD i (0,1)).2
theorem getD_lt {l:List (Rat × Nat)} {a:Rat × Nat} {i:Nat} (h:i<l.length):(l++[a]).getD i (0,1)=l.getD i (0,1):=by
 rw [List.getD_eq_getElem?_getD,List.getD_eq_getElem?_getD,List.getElem?_append_left h]
theorem getD_eq (l:List (Rat × Nat)) (a:Rat × Nat):(l++[a]).getD l.length (0,1)=a:=by
 rw [List.getD_eq_getElem?_getD,List.getElem?_append_right (Nat.le_refl _),Nat.sub_self];rfl
theorem lX_lt {l:List (Rat × Nat)} {a:Rat × Nat} {i:Nat} (h:i<l.length):lX (l++[a]) i=lX l i:=by unfold lX;rw [getD_lt h]
theorem lX_eq (l:List (Rat × Nat)) (a:Rat × Nat):lX (l++[a]) l.length=a.1:=by unfold lX;rw [getD_eq]
theorem lZ_lt {l:List (Rat × Nat)} {a:Rat × Nat} {i:Nat} (h:i<l.length):lZ (l++[a]) i=lZ l i:=by unfold lZ;rw [getD_lt h]
theorem lZ_eq (l:List (Rat × Nat)) (a:Rat × Nat):lZ (l++[a]) l.length=a.2:=by unfold lZ;rw [getD_eq]
theorem tot_congr {Z Y:Nat→Nat} {n:Nat} (h:∀ i,i<n→Z i=Y i):tot Z n=tot Y n:=by
 induction n with
 | zero=>rfl
 | succ n ih=>show tot Z n+Z n+1=tot Y n+Y n+1;rw [ih (fun i hi=>h i (by omega)),h n (by omega)]
theorem rsum_snoc (l:List (Rat × Nat)) (a:Rat × Nat):rsum (lX (l++[a])) (l.length+1)=rsum (lX l) l.length+a.1:=by
 rw [rsum_succ,lX_eq,rsum_congr (Y:=lX l) fun i hi=>lX_lt hi]
theorem tot_snoc (l:List (Rat × Nat)) (a:Rat × Nat):tot (lZ (l++[a])) (l.length+1)=tot (lZ l) l.length+a.2+1:=by
 show tot (lZ (l++[a])) l.length+lZ (l++[a]) l.length+1=_
 rw [lZ_eq,tot_congr (Y:=lZ l) fun i hi=>lZ_lt hi]
theorem gsum_ps (t:Nat→PT) (Z:Nat→Nat) (x:Int):∀ k,rsum (lX (ps t Z x k)) (ps t Z x k).length=gsum t k x
 | 0=>rfl
 | k+1=>by
  have ih:=gsum_ps t Z x k
  unfold gsum at ih ⊢
  rw [rsum_succ,← ih]
  show rsum (lX (if (t k).var=x then ps t Z x k++[((t k).coef,Z k)] else ps t Z x k)) (if (t k).var=x then ps t Z x k++[((t k).coef,Z k)] else ps t Z x k).length=_
  split
  ·rw [List.length_append];exact rsum_snoc _ _
  ·rw [Rat.add_zero]
theorem ps_sz {t:Nat→PT} {Z:Nat→Nat} (x:Int):∀ k,(∀ q,q<k→SzR (t q).coef (Z q)∧1≤Z q)→∀ i,i<(ps t Z x k).length→SzR (lX (ps t Z x k) i) (lZ (ps t Z x k) i)∧1≤lZ (ps t Z x k) i
 | 0,_,i,hi=>by simp [ps] at hi
 | k+1,h,i,hi=>by
  have ih:=ps_sz (t:=t) (Z:=Z) x k (fun q hq=>h q (by omega))
  revert hi
  show i<(if (t k).var=x then ps t Z x k++[((t k).coef,Z k)] else ps t Z x k).length→SzR (lX (if (t k).var=x then ps t Z x k++[((t k).coef,Z k)] else ps t Z x k) i) (lZ (if (t k).var=x then ps t Z x k++[((t k).coef,Z k)] else ps t Z x k) i)∧1≤lZ (if (t k).var=x then ps t Z x k++[((t k).coef,Z k)] else ps t Z x k) i
  split
  ·intro hi
   rw [List.length_append,List.length_cons,List.length_nil] at hi
   rcases (by omega:i<(ps t Z x k).length∨i=(ps t Z x k).length) with h2|rfl
   ·rw [lX_lt h2,lZ_lt h2];exact ih i h2
   ·rw [lX_eq,lZ_eq];exact h k (by omega)
  ·exact ih i
theorem ps_len (t:Nat→PT) (Z:Nat→Nat) (x:Int):∀ k,(ps t Z x k).length≤k
 | 0=>Nat.le_refl _
 | k+1=>by
  have ih:=ps_len t Z x k
  show (if (t k).var=x then ps t Z x k++[((t k).coef,Z k)] else ps t Z x k).length≤k+1
  split
  ·rw [List.length_append,List.length_cons,List.length_nil];omega
  ·omega
def zs (t:Nat→PT) (Z:Nat→Nat) (x:Int):Nat→Nat
 | 0=>0
 | k+1=>zs t Z x k+if (t k).var=x then Z k+1 else 0
theorem zs_tot (t:Nat→PT) (Z:Nat→Nat) (x:Int):∀ k,tot (lZ (ps t Z x k)) (ps t Z x k).length=zs t Z x k+1
 | 0=>rfl
 | k+1=>by
  have ih:=zs_tot t Z x k
  show tot (lZ (if (t k).var=x then ps t Z x k++[((t k).coef,Z k)] else ps t Z x k)) (if (t k).var=x then ps t Z x k++[((t k).coef,Z k)] else ps t Z x k).length=zs t Z x k+(if (t k).var=x then Z k+1 else 0)+1
  split
  ·rw [List.length_append]
   have:=tot_snoc (ps t Z x k) ((t k).coef,Z k)
   show tot _ ((ps t Z x k).length+1)=_
   omega
  ·omega
theorem zs_le (t:Nat→PT) (Z:Nat→Nat) (x:Int):∀ k,zs t Z x k+1≤tot Z k
 | 0=>Nat.le_refl _
 | k+1=>by
  have ih:=zs_le t Z x k
  show zs t Z x k+(if (t k).var=x then Z k+1 else 0)+1≤tot Z k+Z k+1
  split <;> omega
theorem rsum_tight {X:Nat→Rat} {Z:Nat→Nat} {n:Nat} (h:∀ i,i<n→SzR (X i) (Z i)):∀ k,k+1≤n→SzR (rsum X (k+1)) (tot Z (k+1)-2)
 | 0,hk=>by
  have e:rsum X 1=X 0:=by show 0+X 0=X 0;rw [Rat.zero_add]
  rw [e]
  exact (h 0 (by omega)).le (by show Z 0≤1+Z 0+1-2;omega)
 | k+1,hk=>by
  have ih:=rsum_tight h k (by omega)
  have h2:=ih.add (h (k+1) (by omega))
  have e:rsum X (k+1+1)=rsum X (k+1)+X (k+1):=rfl
  rw [e]
  refine h2.le ?_
  show tot Z (k+1)-2+Z (k+1)+1≤tot Z (k+1)+Z (k+1)+1-2
  have:2≤tot Z (k+1):=by have:=tot_pos Z k;show 2≤tot Z k+Z k+1;omega
  omega
theorem gsum_sz {t:Nat→PT} {Z:Nat→Nat} {k:Nat} (x:Int) (h:∀ q,q<k→SzR (t q).coef (Z q)∧1≤Z q) (hne:ps t Z x k≠[]):SzR (gsum t k x) (zs t Z x k-1)∧2≤zs t Z x k:=by
 obtain ⟨l,hl⟩:∃ l,(ps t Z x k).length=l+1:=⟨(ps t Z x k).length-1,by have:=List.length_pos_iff.2 hne;omega⟩
 have h1:=ps_sz x k h
 have h2:=rsum_tight (X:=lX (ps t Z x k)) (Z:=lZ (ps t Z x k)) (n:=l+1) (fun i hi=>(h1 i (by omega)).1) l (Nat.le_refl _)
 rw [← hl,gsum_ps,zs_tot] at h2
 refine ⟨h2.le (by omega),?_⟩
 have h3:=zs_tot t Z x k
 rw [hl] at h3
 have h4:=tot_mono (lZ (ps t Z x k)) (show 1≤l+1 by omega)
 have h5:=(h1 0 (by omega)).2
 have e:tot (lZ (ps t Z x k)) 1=1+lZ (ps t Z x k) 0+1:=rfl
 omega
structure Gath (t:Nat→PT) (nt n:Nat) (u:Nat→PT) (m:Nat):Prop where
 lt:∀ i,i<m→0≤(u i).var∧(u i).var<(n:Int)
 up:∀ i j,i<j→j<m→(u i).var<(u j).var
 co:∀ i,i<m→(u i).coef=gsum t nt (u i).var∧gsum t nt (u i).var≠0
 all:∀ x:Int,0≤x→x<(n:Int)→gsum t nt x≠0→∃ i,i<m∧(u i).var=x
theorem gsum_ne {t:Nat→PT} {Z:Nat→Nat} {k:Nat} {x:Int} (h:gsum t k x≠0):ps t Z x k≠[]:=by
 intro e
 apply h
 rw [← gsum_ps t Z x k,e]
 rfl
theorem once_sum (u:Nat→PT) (v:Int) (c:Nat):∀ m,(∀ i j,i<j→j<m→(u i).var<(u j).var)→tot (fun i=>if v=(u i).var then c else 0) m≤m+1+c
 | 0,_=>by show 1≤0+1+c;omega
 | m+1,h=>by
  have ih:=once_sum u v c m (fun i j h1 h2=>h i j h1 (by omega))
  show tot _ m+(if v=(u m).var then c else 0)+1≤m+1+1+c
  split
  ·rename_i e
   have h0:tot (fun i=>if v=(u i).var then c else 0) m=tot (fun _=>0) m:=tot_congr fun i hi=>by
    have:=h i m hi (by omega)
    rw [if_neg]
    omega
   have h1:∀ m,tot (fun _=>0) m=m+1:=fun m=>by
    induction m with
    | zero=>rfl
    | succ m ih=>show tot _ m+0+1=_;omega
   rw [h0,h1]
   omega
  ·omega
theorem tot_add (Y Z:Nat→Nat):∀ m,tot (fun i=>Y i+Z i) m+(m+1)=tot Y m+tot Z m
 | 0=>rfl
 | m+1=>by
  have ih:=tot_add Y Z m
  show tot _ m+(Y m+Z m)+1+(m+1+1)=tot Y m+Y m+1+(tot Z m+Z m+1)
  omega
theorem zs_sum {u:Nat→PT} {m:Nat} (t:Nat→PT) (Z:Nat→Nat) (h:∀ i j,i<j→j<m→(u i).var<(u j).var):∀ k,tot (fun i=>zs t Z (u i).var k) m≤m+tot Z k
 | 0=>by
  have h1:∀ m,tot (fun _=>0) m=m+1:=fun m=>by
   induction m with
   | zero=>rfl
   | succ m ih=>show tot _ m+0+1=_;omega
  show tot (fun _=>0) m≤m+1
  rw [h1]
  exact Nat.le_refl _
 | k+1=>by
  have ih:=zs_sum t Z h k
  have h1:=tot_add (fun i=>zs t Z (u i).var k) (fun i=>if (t k).var=(u i).var then Z k+1 else 0) m
  have h2:=once_sum u (t k).var (Z k+1) m h
  have e:tot (fun i=>zs t Z (u i).var (k+1)) m=tot (fun i=>zs t Z (u i).var k+if (t k).var=(u i).var then Z k+1 else 0) m:=rfl
  rw [e]
  show _≤m+(tot Z k+Z k+1)
  omega
theorem tot_sub {Y Z:Nat→Nat}:∀ m,(∀ i,i<m→Y i+1=Z i)→tot Y m+m=tot Z m
 | 0,_=>rfl
 | m+1,h=>by
  have ih:=tot_sub m (fun i hi=>h i (by omega))
  have:=h m (by omega)
  show tot Y m+Y m+1+(m+1)=tot Z m+Z m+1
  omega
theorem Gath.tot {t:Nat→PT} {nt n:Nat} {u:Nat→PT} {m:Nat} (h:Gath t nt n u m) {Z:Nat→Nat} (hz:∀ q,q<nt→SzR (t q).coef (Z q)∧1≤Z q) :
  (∀ i,i<m→SzR (u i).coef (zs t Z (u i).var nt-1)∧1≤zs t Z (u i).var nt-1)∧tot (fun i=>zs t Z (u i).var nt-1) m≤tot Z nt:=by
 have h1:∀ i,i<m→SzR (gsum t nt (u i).var) (zs t Z (u i).var nt-1)∧2≤zs t Z (u i).var nt:=fun i hi=>gsum_sz _ hz (gsum_ne (h.co i hi).2)
 refine ⟨fun i hi=>⟨by rw [(h.co i hi).1];exact (h1 i hi).1,by have:=(h1 i hi).2;omega⟩,?_⟩
 have h2:=zs_sum t Z h.up nt
 have h3:=tot_sub (Y:=fun i=>zs t Z (u i).var nt-1) (Z:=fun i=>zs t Z (u i).var nt) m (fun i hi=>by have:=(h1 i hi).2;show _-1+1=_;omega)
 omega
structure Gi (t:Nat→PT) (nt:Nat) (ks:List Int) (i:Nat) (u:Nat→PT) (m:Nat):Prop where
 mem:∀ q,q<m→(u q).var ∈ ks.take i
 up:∀ p q,p<q→q<m→(u p).var<(u q).var
 co:∀ q,q<m→(u q).coef=gsum t nt (u q).var∧gsum t nt (u q).var≠0
 all:∀ x,x ∈ ks.take i→gsum t nt x≠0→∃ q,q<m∧(u q).var=x
theorem Gi.start (t:Nat→PT) (nt:Nat) (ks:List Int) (u:Nat→PT):Gi t nt ks 0 u 0:=⟨fun q h=>by omega,fun p q _ h=>by omega,fun q h=>by omega,fun x h=>by simp at h⟩
theorem take_snoc {ks:List Int} {i:Nat} {x:Int} (h:ks[i]? = some x):ks.take (i+1)=ks.take i++[x]:=by rw [List.take_add_one,h];rfl
theorem Gi.skip {t:Nat→PT} {nt:Nat} {ks:List Int} {i:Nat} {u:Nat→PT} {m:Nat} (h:Gi t nt ks i u m) {x:Int} (hx:ks[i]? = some x) (h0:gsum t nt x=0):Gi t nt ks (i+1) u m:=by
 refine ⟨fun q hq=>?_,h.up,h.co,fun y hy hy0=>?_⟩
 ·rw [take_snoc hx];exact List.mem_append_left _ (h.mem q hq)
 ·rw [take_snoc hx,List.mem_append,List.mem_singleton] at hy
  rcases hy with hy|rfl
  ·exact h.all y hy hy0
  ·exact absurd h0 hy0
theorem Gi.step {t:Nat→PT} {nt:Nat} {ks:List Int} {i:Nat} {u:Nat→PT} {m:Nat} (h:Gi t nt ks i u m) (hp:ks.Pairwise (· < ·)) {x:Int} (hx:ks[i]? = some x) (h0:gsum t nt x≠0):Gi t nt ks (i+1) (fun q=>if q<m then u q else ⟨x,gsum t nt x⟩) (m+1):=by
 have hlt:∀ y,y ∈ ks.take i→y<x:=fun y hy=>by
  obtain ⟨hi,hi2⟩:=List.getElem?_eq_some_iff.1 hx
  obtain ⟨q,hq,e⟩:=List.mem_iff_getElem.1 hy
  rw [List.length_take] at hq
  rw [List.getElem_take] at e
  rw [← e,← hi2]
  exact List.pairwise_iff_getElem.1 hp q i (by omega) hi (by omega)
 refine ⟨fun q hq=>?_,fun p q hpq hq=>?_,fun q hq=>?_,fun y hy hy0=>?_⟩
 ·show (if q<m then u q else ⟨x,gsum t nt x⟩:PT).var ∈ _
  rw [take_snoc hx,List.mem_append,List.mem_singleton]
  split
  ·exact .inl (h.mem q (by omega))
  ·exact .inr rfl
 ·show (if p<m then u p else ⟨x,gsum t nt x⟩:PT).var<(if q<m then u q else ⟨x,gsum t nt x⟩:PT).var
  rw [if_pos (show p<m by omega)]
  split
  ·exact h.up p q hpq (by omega)
  ·exact hlt _ (h.mem p (by omega))
 ·show (if q<m then u q else ⟨x,gsum t nt x⟩:PT).coef=gsum t nt (if q<m then u q else ⟨x,gsum t nt x⟩:PT).var∧gsum t nt (if q<m then u q else ⟨x,gsum t nt x⟩:PT).var≠0
  split
  ·exact h.co q (by omega)
  ·exact ⟨rfl,h0⟩
 ·rw [take_snoc hx,List.mem_append,List.mem_singleton] at hy
  rcases hy with hy|rfl
  ·obtain ⟨q,hq,e⟩:=h.all y hy hy0
   exact ⟨q,by omega,by show (if q<m then u q else _:PT).var=_;rw [if_pos hq];exact e⟩
  ·exact ⟨m,by omega,by show (if m<m then u m else _:PT).var=_;rw [if_neg (Nat.lt_irrefl m)]⟩
theorem Gi.gath {t:Nat→PT} {nt n:Nat} {ks:List Int} {u:Nat→PT} {m:Nat} (h:Gi t nt ks ks.length u m) (h1:∀ x,x ∈ ks→0≤x∧x<(n:Int)) (h2:∀ x:Int,0≤x→x<(n:Int)→gsum t nt x≠0→x ∈ ks):Gath t nt n u m :=
 ⟨fun i hi=>h1 _ (by have:=h.mem i hi;rwa [List.take_length] at this),h.up,h.co,fun x h3 h4 h5=>h.all x (by rw [List.take_length];exact h2 x h3 h4 h5) h5⟩
end Go.Proofs.YtceigfafmalfgaaGreatDoor

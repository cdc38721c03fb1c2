import Derived.Test.YtjiodidemimgmaaGreatDoorR3LiAll
namespace Go.Proofs.YtjiodidemimgmaaGreatDoor
open Go.RowKit
def totB (Z:Nat→Nat):Nat→Nat
 | 0=>0
 | n + 1=>totB Z n + Z n
theorem rsum_lmB (c:Rat) (X:Nat→Rat) (n:Nat):rsum (fun i=>c * X i) n = c * rsum X n:=by
 induction n with
 | zero=>simp [rsum,Rat.mul_zero]
 | succ n ih=>rw [rsum_succ,rsum_succ,ih];grind
theorem rsum_zrB {X:Nat→Rat} (n:Nat) (h:∀ i,i < n→X i = 0):rsum X n = 0:=by
 induction n with
 | zero=>rfl
 | succ n ih=>rw [rsum_succ,ih (fun i hi=>h i (by omega)),h n (by omega),Rat.add_zero]
def skp (j:Nat) (C:Nat→Nat→Rat):Nat→Nat→Rat:=fun i=>if i < j then C i else C (i + 1)
def sgB:Nat→Rat
 | 0=>1
 | n + 1=>-sgB n
def dtm:Nat→Nat→(Nat→Nat→Rat)→Rat
 | 0,_,_=>1
 | n + 1,k,C=>rsum (fun j=>sgB j * C j k * dtm n (k + 1) (skp j C)) (n + 1)
def stc (C:Nat→Nat→Rat) (i:Nat) (v:Nat→Rat):Nat→Nat→Rat:=fun j=>if j = i then v else C j
theorem dtm_succ (n k:Nat) (C:Nat→Nat→Rat):dtm (n + 1) k C = rsum (fun j=>sgB j * C j k * dtm n (k + 1) (skp j C)) (n + 1):=rfl
theorem dtm_congr:∀ (n k:Nat) {C D:Nat→Nat→Rat},(∀ j,j < n→∀ r,k≤r→r < k + n→C j r = D j r)→dtm n k C = dtm n k D
 | 0,_,_,_,_=>rfl
 | n + 1,k,C,D,h=>by
  rw [dtm_succ,dtm_succ]
  refine rsum_congr fun j hj=>?_
  rw [h j hj k (by omega) (by omega),dtm_congr n (k + 1) (C:=skp j C) (D:=skp j D) fun i hi r h1 h2=>?_]
  unfold skp
  split
  ·exact h i (by omega) r (by omega) (by omega)
  ·exact h (i + 1) (by omega) r (by omega) (by omega)
theorem skp_lt {i j:Nat} (C:Nat→Nat→Rat) (v:Nat→Rat) (h:i < j):skp j (stc C i v) = stc (skp j C) i v:=by
 funext t
 simp only [skp,stc]
 repeat' split
 all_goals first | rfl | (exfalso;omega)
theorem skp_eq (j:Nat) (C:Nat→Nat→Rat) (v:Nat→Rat):skp j (stc C j v) = skp j C:=by
 funext t
 simp only [skp,stc]
 repeat' split
 all_goals first | rfl | (exfalso;omega)
theorem skp_gt {i j:Nat} (C:Nat→Nat→Rat) (v:Nat→Rat) (h:j < i):skp j (stc C i v) = stc (skp j C) (i - 1) v:=by
 funext t
 simp only [skp,stc]
 repeat' split
 all_goals first | rfl | (exfalso;omega)
theorem dtm_lin:∀ (n k:Nat) (C:Nat→Nat→Rat) (i:Nat) (a b:Rat) (u v:Nat→Rat),i < n→dtm n k (stc C i fun r=>a * u r + b * v r) = a * dtm n k (stc C i u) + b * dtm n k (stc C i v)
 | 0,_,_,_,_,_,_,_,h=>absurd h (by omega)
 | n + 1,k,C,i,a,b,u,v,h=>by
  rw [dtm_succ,dtm_succ,dtm_succ,← rsum_lmB,← rsum_lmB,← rsum_add]
  refine rsum_congr fun j hj=>?_
  rcases Nat.lt_trichotomy i j with hij | rfl | hij
  ·rw [skp_lt _ _ hij,skp_lt _ _ hij,skp_lt _ _ hij,dtm_lin n (k + 1) (skp j C) i a b u v (by omega)]
   have e:∀ w:Nat→Rat,stc C i w j = C j:=fun w=>by unfold stc;rw [if_neg (by omega)]
   rw [e,e,e]
   grind
  ·rw [skp_eq,skp_eq,skp_eq]
   have e:∀ w:Nat→Rat,stc C i w i = w:=fun w=>by unfold stc;rw [if_pos rfl]
   rw [e,e,e]
   grind
  ·rw [skp_gt _ _ hij,skp_gt _ _ hij,skp_gt _ _ hij,dtm_lin n (k + 1) (skp j C) (i - 1) a b u v (by omega)]
   have e:∀ w:Nat→Rat,stc C i w j = C j:=fun w=>by unfold stc;rw [if_neg (by omega)]
   rw [e,e,e]
   grind
theorem stc_self (C:Nat→Nat→Rat) (i:Nat):stc C i (C i) = C:=by
 funext t
 unfold stc
 repeat' split
 all_goals first | rfl | (subst_vars;rfl) | (exfalso;omega)
theorem stc_comm (C:Nat→Nat→Rat) {i j:Nat} (h:i ≠ j) (u v:Nat→Rat):stc (stc C i u) j v = stc (stc C j v) i u:=by
 funext t
 unfold stc
 repeat' split
 all_goals first | rfl | (subst_vars;rfl) | (exfalso;omega)
def Alt (n:Nat):Prop:=∀ (k:Nat) (C:Nat→Nat→Rat) (i j:Nat),i < j→j < n→C i = C j→dtm n k C = 0
theorem Alt.swap {n:Nat} (h:Alt n) (k:Nat) (C:Nat→Nat→Rat) {i j:Nat} (hij:i < j) (hj:j < n):dtm n k (stc (stc C i (C j)) j (C i)) = - dtm n k C:=by
 -- columns i and j both (C i + C j)
 have e1:∀ u v:Nat→Rat,u = v→dtm n k (stc (stc C i u) j v) = 0:=fun u v e=>h k _ i j hij hj (by
  unfold stc
  rw [if_neg (by omega),if_pos rfl,if_pos rfl,e])
 have l1:∀ u v w:Nat→Rat,dtm n k (stc (stc C i u) j fun r=>1 * v r + 1 * w r) = dtm n k (stc (stc C i u) j v) + dtm n k (stc (stc C i u) j w):=fun u v w=>by
  rw [dtm_lin n k _ j 1 1 v w hj,Rat.one_mul,Rat.one_mul]
 have l2:∀ u v w:Nat→Rat,dtm n k (stc (stc C i fun r=>1 * u r + 1 * w r) j v) = dtm n k (stc (stc C i u) j v) + dtm n k (stc (stc C i w) j v):=fun u v w=>by
  rw [stc_comm C (by omega:i ≠ j) _ v,stc_comm C (by omega:i ≠ j) u v,stc_comm C (by omega:i ≠ j) w v,dtm_lin n k _ i 1 1 u w (by omega),Rat.one_mul,Rat.one_mul]
 have z:=e1 (fun r=>1 * C i r + 1 * C j r) (fun r=>1 * C i r + 1 * C j r) rfl
 rw [l1,l2,l2,e1 (C i) (C i) rfl,e1 (C j) (C j) rfl] at z
 rw [stc_self,stc_self] at z
 generalize dtm n k (stc (stc C i (C j)) j (C i)) = A at *
 generalize dtm n k C = B at *
 clear e1 l1 l2
 grind
def mvc (i j:Nat) (C:Nat→Nat→Rat):Nat→Nat→Rat:=fun t=>if t < i then C t else if t = i then C j else if t≤j then C (t - 1) else C t
theorem Alt.move {n:Nat} (h:Alt n) (k:Nat):∀ (d i:Nat) (C:Nat→Nat→Rat),i + d < n→dtm n k (mvc i (i + d) C) = sgB d * dtm n k C
 | 0,i,C,_=>by
  have e:mvc i (i + 0) C = C:=by
   funext t
   simp only [mvc]
   repeat' split
   all_goals first | rfl | (exfalso;omega) | (congr 1 <;> omega) | simp_all
  rw [e]
  unfold sgB
  rw [Rat.one_mul]
 | d + 1,i,C,hi=>by
  have e:mvc i (i + (d + 1)) C = mvc i (i + d) (stc (stc C (i + d) (C (i + d + 1))) (i + d + 1) (C (i + d))):=by
   funext t
   simp only [mvc,stc]
   repeat' split
   all_goals first | rfl | (exfalso;omega) | (congr 1 <;> omega) | simp_all
  rw [e,h.move k d i _ (by omega),h.swap k C (by omega) (by omega)]
  show _ = -sgB d * _
  grind
theorem sgB_sq:∀ d,sgB d * sgB d = 1
 | 0=>Rat.mul_one 1
 | d + 1=>by have:=sgB_sq d;show -sgB d * -sgB d = 1;grind
theorem sgB_add (a:Nat):∀ b,sgB (a + b) = sgB a * sgB b
 | 0=>by show sgB a = sgB a * 1;grind
 | b + 1=>by have:=sgB_add a b;show -sgB (a + b) = sgB a * -sgB b;grind
theorem rsum_pair {X:Nat→Rat} {i j:Nat} (hij:i < j):∀ n,j < n→(∀ t,t < n→t ≠ i→t ≠ j→X t = 0)→rsum X n = X i + X j
 | 0,h,_=>absurd h (by omega)
 | n + 1,h,hz=>by
  rw [rsum_succ]
  by_cases hj:j = n
  ·subst hj
   congr 1
   clear h
   induction j with
   | zero=>omega
   | succ m ih =>
    rw [rsum_succ]
    by_cases hi:i = m
    ·subst hi
     rw [rsum_zrB i fun t ht=>hz t (by omega) (by omega) (by omega),Rat.zero_add]
    ·rw [ih (by omega) (fun t ht h1 h2=>hz t (by omega) h1 (by omega)),hz m (by omega) (by omega) (by omega),Rat.add_zero]
  ·rw [rsum_pair hij n (by omega) (fun t ht h1 h2=>hz t (by omega) h1 h2),hz n (by omega) (by omega) (by omega),Rat.add_zero]
theorem alt_all:∀ n,Alt n
 | 0=>fun _ _ _ _ _ h _=>absurd h (by omega)
 | n + 1=>fun k C i j hij hj e=>by
  have A:=alt_all n
  rw [dtm_succ,rsum_pair hij (n + 1) hj fun t ht h1 h2=>?_]
  ·have m:mvc i (i + (j - 1 - i)) (skp i C) = skp j C:=by
    funext t
    simp only [mvc,skp]
    have e1:i + (j - 1 - i) = j - 1:=by omega
    rw [e1]
    rcases Nat.lt_trichotomy t i with h | h | h
    ·rw [if_pos h,if_pos h,if_pos (by omega)]
    ·subst h
     rw [if_neg (by omega),if_pos rfl,if_neg (by omega),if_pos (by omega),show j - 1 + 1 = j from by omega,e]
    ·rw [if_neg (by omega),if_neg (by omega)]
     by_cases h2:t < j
     ·rw [if_pos (by omega),if_neg (by omega),if_pos h2,show t - 1 + 1 = t from by omega]
     ·rw [if_neg (by omega),if_neg (by omega),if_neg h2]
   have M:=A.move (k + 1) (j - 1 - i) i (skp i C) (by omega)
   rw [m] at M
   rw [M,e]
   have s1:sgB j = -(sgB i * sgB (j - 1 - i)):=by
    rw [← sgB_add,show j = i + (j - 1 - i) + 1 from by omega]
    show -sgB (i + (j - 1 - i)) = _
    rw [show i + (j - 1 - i) + 1 - 1 - i = j - 1 - i from by omega]
   have s2:=sgB_sq (j - 1 - i)
   rw [s1]
   generalize sgB (j - 1 - i) = u at *
   generalize sgB i = x at *
   generalize dtm n (k + 1) (skp i C) = y at *
   generalize C j k = z at *
   have:-(x * u) * z * (u * y) = -(x * z * y) * (u * u):=by grind
   rw [this,s2]
   grind
  ·have:dtm n (k + 1) (skp t C) = 0:=by
    refine A (k + 1) _ (if i < t then i else i - 1) (if j < t then j else j - 1) ?_ ?_ ?_
    ·split <;> split <;> omega
    ·split <;> omega
    ·simp only [skp]
     have a1:(if (if i < t then i else i - 1) < t then C (if i < t then i else i - 1) else C ((if i < t then i else i - 1) + 1)) = C i:=by
      by_cases h:i < t
      ·rw [if_pos h,if_pos h]
      ·rw [if_neg h,if_neg (by omega),show i - 1 + 1 = i from by omega]
     have a2:(if (if j < t then j else j - 1) < t then C (if j < t then j else j - 1) else C ((if j < t then j else j - 1) + 1)) = C j:=by
      by_cases h:j < t
      ·rw [if_pos h,if_pos h]
      ·rw [if_neg h,if_neg (by omega),show j - 1 + 1 = j from by omega]
     rw [a1,a2,e]
   rw [this,Rat.mul_zero]
theorem dtm_unit:∀ (n k:Nat) {C:Nat→Nat→Rat},(∀ j,j < n→∀ r,k≤r→r < k + n→C j r = if r = k + j then 1 else 0)→dtm n k C = 1
 | 0,_,_,_=>rfl
 | n + 1,k,C,h=>by
  have hs:∀ m,m≤n→rsum (fun j=>sgB j * C j k * dtm n (k + 1) (skp j C)) (m + 1) = dtm n (k + 1) (skp 0 C):=by
   intro m
   induction m with
   | zero =>
    intro _
    show 0 + sgB 0 * C 0 k * _ = _
    rw [h 0 (by omega) k (by omega) (by omega),if_pos (Nat.add_zero k).symm]
    show 0 + 1 * 1 * _ = _
    rw [Rat.zero_add,Rat.one_mul,Rat.one_mul]
   | succ m ih =>
    intro hm
    rw [rsum_succ,ih (by omega),h (m + 1) (by omega) k (by omega) (by omega),if_neg (by omega),Rat.mul_zero,Rat.zero_mul,Rat.add_zero]
  rw [dtm_succ,hs n (by omega)]
  refine dtm_unit n (k + 1) fun j hj r h1 h2=>?_
  show (if j < 0 then C j else C (j + 1)) r = _
  rw [if_neg (by omega),h (j + 1) (by omega) r (by omega) (by omega)]
  simp only [show k + (j + 1) = k + 1 + j from by omega]
theorem dtm_comb (n k:Nat) (C:Nat→Nat→Rat) (x:Nat→Rat) (i:Nat) (hi:i < n):∀ m,m≤n→dtm n k (stc C i fun r=>rsum (fun j=>x j * C j r) m) = if i < m then x i * dtm n k C else 0
 | 0,_=>by
  rw [if_neg (by omega)]
  have z:=dtm_lin n k C i 0 0 (C i) (C i) hi
  rw [Rat.zero_mul,Rat.zero_add] at z
  rw [← z]
  congr 2
  funext r
  show 0 = 0 * C i r + 0 * C i r
  rw [Rat.zero_mul,Rat.zero_add]
 | m + 1,hm=>by
  have l:=dtm_lin n k C i 1 (x m) (fun r=>rsum (fun j=>x j * C j r) m) (C m) hi
  have e:(fun r=>rsum (fun j=>x j * C j r) (m + 1)) = fun r=>1 * rsum (fun j=>x j * C j r) m + x m * C m r:=by
   funext r
   rw [rsum_succ,Rat.one_mul]
  rw [e,l,dtm_comb n k C x i hi m (by omega),Rat.one_mul]
  by_cases h:i = m
  ·subst h
   rw [if_neg (by omega),if_pos (by omega),stc_self,Rat.zero_add]
  ·have z:dtm n k (stc C i (C m)) = 0:=by
    rcases Nat.lt_or_gt_of_ne h with h2 | h2
    ·exact alt_all n k _ i m h2 (by omega) (by simp [stc])
    ·exact alt_all n k _ m i h2 (by omega) (by simp [stc])
   rw [z,Rat.mul_zero,Rat.add_zero]
   by_cases h3:i < m
   ·rw [if_pos h3,if_pos (by omega)]
   ·rw [if_neg h3,if_neg (by omega)]
theorem cramer {n k:Nat} {C:Nat→Nat→Rat} {x v:Nat→Rat} {i:Nat} (hi:i < n) (h:∀ r,k≤r→r < k + n→v r = rsum (fun j=>x j * C j r) n):dtm n k (stc C i v) = x i * dtm n k C:=by
 have e:=dtm_comb n k C x i hi n (by omega)
 rw [if_pos hi] at e
 rw [← e]
 refine dtm_congr n k fun j hj r h1 h2=>?_
 simp only [stc]
 split
 ·exact h r h1 h2
 ·rfl
def pds (d:Nat→Nat):Nat→Nat→Nat
 | 0,_=>1
 | n + 1,k=>d k * pds d n (k + 1)
theorem dtm_scale (d:Nat→Nat):∀ (n k:Nat) (C:Nat→Nat→Rat),dtm n k (fun j r=>(d r:Rat) * C j r) = (pds d n k:Rat) * dtm n k C
 | 0,_,_=>by show (1:Rat) = (1:Nat) * 1;rw [Rat.mul_one];rfl
 | n + 1,k,C=>by
  rw [dtm_succ,dtm_succ,← rsum_lmB]
  refine rsum_congr fun j hj=>?_
  have e:skp j (fun j r=>(d r:Rat) * C j r) = fun i r=>(d r:Rat) * skp j C i r:=by
   funext i r
   simp only [skp]
   split <;> rfl
  rw [e,dtm_scale d n (k + 1) (skp j C)]
  show _ = ((d k * pds d n (k + 1):Nat):Rat) * _
  rw [show ((d k * pds d n (k + 1):Nat):Rat) = (d k:Rat) * (pds d n (k + 1):Rat) from Rat.natCast_mul ..]
  grind
theorem totB_skp (f:Nat→Nat) (j:Nat):∀ n,(j≤n→totB (fun i=>if i < j then f i else f (i + 1)) n + f j = totB f (n + 1))∧(n≤j→totB (fun i=>if i < j then f i else f (i + 1)) n = totB f n)
 | 0=>⟨fun h=>by
  obtain rfl:j = 0:=by omega
  rfl,fun _=>rfl⟩
 | n + 1=>by
  obtain ⟨h1,h2⟩:=totB_skp f j n
  refine ⟨fun h=>?_,fun h=>?_⟩
  ·show totB _ n + (if n < j then f n else f (n + 1)) + f j = totB f (n + 1) + f (n + 1)
   by_cases hj:n < j
   ·obtain rfl:j = n + 1:=by omega
    rw [if_pos hj,h2 (by omega)]
    rfl
   ·have:=h1 (by omega)
    rw [if_neg hj]
    omega
  ·show totB _ n + (if n < j then f n else f (n + 1)) = totB f n + f n
   rw [if_pos (by omega),h2 (by omega)]
theorem sgB_or:∀ d,sgB d = 1∨sgB d = -1
 | 0=>.inl rfl
 | d + 1=>by
  show -sgB d = 1∨-sgB d = -1
  rcases sgB_or d with h | h
  ·exact .inr (by rw [h])
  ·exact .inl (by rw [h,Rat.neg_neg])
theorem dtm_bd:∀ (n k:Nat) (Z:Nat→Nat→Int) (M:Nat→Nat),(∀ r,k≤r→r < k + n→totB (fun j=>(Z j r).natAbs) n≤M r)→∃ z:Int,dtm n k (fun j r=>(Z j r:Rat)) = z∧z.natAbs≤pds M n k
 | 0,_,_,_,_=>⟨1,rfl,Nat.le_refl _⟩
 | n + 1,k,Z,M,h=>by
  have hj:∀ j,j < n + 1→∃ z:Int,dtm n (k + 1) (skp j fun j r=>(Z j r:Rat)) = z∧z.natAbs≤pds M n (k + 1):=fun j hj=>by
   obtain ⟨z,e,b⟩:=dtm_bd n (k + 1) (fun i r=>if i < j then Z i r else Z (i + 1) r) M fun r h1 h2=>by
    have a:=(totB_skp (fun j=>(Z j r).natAbs) j n).1 (by omega)
    have e:(fun i=>(if i < j then Z i r else Z (i + 1) r).natAbs) = fun i=>if i < j then (Z i r).natAbs else (Z (i + 1) r).natAbs:=by
     funext i;split <;> rfl
    rw [e]
    have:=h r (by omega) (by omega)
    omega
   refine ⟨z,?_,b⟩
   rw [← e]
   congr 1
   funext i r
   simp only [skp]
   split <;> rfl
  have hs:∀ m,m≤n + 1→∃ z:Int,rsum (fun j=>sgB j * (Z j k:Rat) * dtm n (k + 1) (skp j fun j r=>(Z j r:Rat))) m = z∧z.natAbs≤totB (fun j=>(Z j k).natAbs) m * pds M n (k + 1):=by
   intro m
   induction m with
   | zero=>exact fun _=>⟨0,rfl,by simp⟩
   | succ m ih =>
    intro hm
    obtain ⟨z,e,b⟩:=ih (by omega)
    obtain ⟨y,e2,b2⟩:=hj m (by omega)
    rw [rsum_succ,e,e2]
    have b3:(Z m k * y).natAbs≤(Z m k).natAbs * pds M n (k + 1):=by
     rw [Int.natAbs_mul]
     exact Nat.mul_le_mul_left _ b2
    have b4:totB (fun j=>(Z j k).natAbs) (m + 1) * pds M n (k + 1) = totB (fun j=>(Z j k).natAbs) m * pds M n (k + 1) + (Z m k).natAbs * pds M n (k + 1):=Nat.add_mul ..
    rcases sgB_or m with hs | hs
    ·refine ⟨z + Z m k * y,?_,?_⟩
     ·rw [hs,Rat.one_mul,Rat.intCast_add,Rat.intCast_mul]
     ·rw [b4];omega
    ·refine ⟨z - Z m k * y,?_,?_⟩
     ·rw [hs,Rat.intCast_sub,Rat.intCast_mul];grind
     ·rw [b4];omega
  obtain ⟨z,e,b⟩:=hs (n + 1) (by omega)
  refine ⟨z,e,Nat.le_trans b ?_⟩
  exact Nat.mul_le_mul_right _ (h k (by omega) (by omega))
theorem rsum_upd (X:Nat→Rat) (a:Rat) {p:Nat}:∀ n,p < n→rsum (fun i=>if i = p then a else X i) n = rsum X n - X p + a
 | 0,h=>absurd h (by omega)
 | n + 1,h=>by
  rw [rsum_succ,rsum_succ]
  by_cases hp:n = p
  ·subst hp
   rw [if_pos rfl,rsum_congr (Y:=X) fun i hi=>if_neg (by omega)]
   grind
  ·rw [if_neg hp,rsum_upd X a n (by omega)]
   grind
structure Pvt (n:Nat) (A T:Nat→Nat→Rat) (b:Nat→Nat):Prop where
 comb:∀ c r,r < n→A c r = rsum (fun i=>T c i * A (b i) r) n
 ne:dtm n 0 (fun i=>A (b i)) ≠ 0
def pvt (T:Nat→Nat→Rat) (p q:Nat):Nat→Nat→Rat:=fun c i=>if i = p then T c p / T q p else T c i - T q i * (T c p / T q p)
theorem Pvt.pivot {n:Nat} {A T:Nat→Nat→Rat} {b:Nat→Nat} (h:Pvt n A T b) {p q:Nat} (hp:p < n) (hq:T q p ≠ 0):Pvt n A (pvt T p q) (fun i=>if i = p then q else b i):=by
 constructor
 ·intro c r hr
  have e1:=h.comb c r hr
  have e2:=h.comb q r hr
  have e3:rsum (fun i=>pvt T p q c i * A (if i = p then q else b i) r) n = rsum (fun i=>if i = p then T c p / T q p * A q r else T c i * A (b i) r + -(T c p / T q p) * (T q i * A (b i) r)) n:=rsum_congr fun i hi=>by
   unfold pvt
   by_cases hi:i = p
   ·rw [if_pos hi,if_pos hi,if_pos hi]
   ·rw [if_neg hi,if_neg hi,if_neg hi];grind
  rw [e3,rsum_upd _ _ n hp,rsum_add,rsum_lmB,← e1,← e2]
  have e4:T c p / T q p * T q p = T c p:=Rat.div_mul_cancel hq
  generalize T c p / T q p = f at *
  rw [← e4]
  grind
 ·have e:=cramer (n:=n) (k:=0) (C:=fun i=>A (b i)) (x:=fun i=>T q i) (v:=A q) hp fun r _ hr=>h.comb q r (by omega)
  have e2:(fun i=>A (if i = p then q else b i)) = stc (fun i=>A (b i)) p (A q):=by
   funext i
   simp only [stc]
   split <;> rfl
  rw [e2,e]
  exact fun h2=>(Rat.mul_eq_zero.1 h2).elim hq h.ne
theorem Pvt.first {n:Nat} {A:Nat→Nat→Rat} {b:Nat→Nat} (h:∀ i,i < n→∀ r,r < n→A (b i) r = if r = i then 1 else 0):Pvt n A A b:=by
 constructor
 ·intro c r hr
  have e:rsum (fun i=>A c i * A (b i) r) n = rsum (fun i=>if i = r then A c r else (fun _=>(0:Rat)) i) n:=rsum_congr fun i hi=>by
   rw [h i hi r hr]
   by_cases hir:i = r
   ·rw [if_pos hir.symm,if_pos hir,hir,Rat.mul_one]
   ·rw [if_neg (Ne.symm hir),if_neg hir,Rat.mul_zero]
  rw [e,rsum_upd _ _ n hr,rsum_zrB n fun _ _=>rfl]
  grind
 ·rw [dtm_unit n 0 fun j hj r h1 h2=>by rw [h j hj r (by omega),Nat.zero_add]]
  decide
theorem totB_upd (f:Nat→Nat) {p:Nat}:∀ n,p < n→totB (fun i=>if i = p then 0 else f i) n + f p = totB f n
 | 0,h=>absurd h (by omega)
 | n + 1,h=>by
  show totB _ n + (if n = p then 0 else f n) + f p = totB f n + f n
  by_cases hp:n = p
  ·subst hp
   rw [if_pos rfl]
   have:∀ m,m≤n→totB (fun i=>if i = n then 0 else f i) m = totB f m:=by
    intro m
    induction m with
    | zero=>exact fun _=>rfl
    | succ m ih =>
     intro hm
     show totB _ m + (if m = n then 0 else f m) = totB f m + f m
     rw [ih (by omega),if_neg (by omega)]
   rw [this n (by omega)]
   rfl
  ·have:=totB_upd f (p:=p) n (by omega)
   rw [if_neg hp]
   omega
theorem totB_ext {f g:Nat→Nat}:∀ n,(∀ i,i < n→f i = g i)→totB f n = totB g n
 | 0,_=>rfl
 | n + 1,h=>by
  show totB f n + f n = totB g n + g n
  rw [totB_ext n fun i hi=>h i (by omega),h n (by omega)]
theorem totB_inj {s:Nat→Nat} {N:Nat}:∀ (n:Nat) (f:Nat→Nat),(∀ i,i < n→s i < N)→(∀ i j,i < n→j < n→s i = s j→i = j)→totB (fun i=>f (s i)) n≤totB f N
 | 0,_,_,_=>Nat.zero_le _
 | n + 1,f,h1,h2=>by
  have a:=totB_inj n (fun c=>if c = s n then 0 else f c) (fun i hi=>h1 i (by omega)) (fun i j hi hj=>h2 i j (by omega) (by omega))
  have b:=totB_upd f N (h1 n (by omega))
  have e:totB (fun i=>if s i = s n then 0 else f (s i)) n = totB (fun i=>f (s i)) n:=totB_ext n fun i hi=>if_neg fun e=>by
   have:=h2 i n (by omega) (by omega) e
   omega
  rw [e] at a
  show totB (fun i=>f (s i)) n + f (s n)≤_
  omega
theorem rat_bd {q:Rat} {y z:Int} (h:q * (z:Rat) = y) (hz:z ≠ 0):q.num.natAbs≤y.natAbs∧q.den≤z.natAbs:=by
 have hq:q = Rat.divInt y z:=by
  have hz':(z:Rat) ≠ 0:=by simpa using hz
  rw [Rat.divInt_eq_div,← h,Rat.mul_div_cancel hz']
 have hd:(q.den:Int) ≠ 0:=by have:=q.den_nz;omega
 have e:q.num * z = y * q.den:=(Rat.divInt_eq_divInt_iff hd hz).1 ((Rat.num_divInt_den q).trans hq)
 have e2:q.num.natAbs * z.natAbs = y.natAbs * q.den:=by
  have:=congrArg Int.natAbs e
  rwa [Int.natAbs_mul,Int.natAbs_mul,Int.natAbs_natCast] at this
 have hr:=q.reduced
 have h1:q.den ∣ z.natAbs:=hr.symm.dvd_of_dvd_mul_left ⟨y.natAbs,by rw [e2,Nat.mul_comm]⟩
 have h2:q.num.natAbs ∣ y.natAbs:=hr.dvd_of_dvd_mul_right ⟨z.natAbs,e2.symm⟩
 refine ⟨?_,Nat.le_of_dvd (by omega) h1⟩
 by_cases hy:y = 0
 ·subst hy
  have:q = 0:=by rw [hq,Rat.zero_divInt]
  rw [this]
  exact Nat.le_refl _
 ·exact Nat.le_of_dvd (by omega) h2
theorem pds_ne {d:Nat→Nat}:∀ n k,(∀ r,k≤r→r < k + n→d r ≠ 0)→pds d n k ≠ 0
 | 0,_,_=>by show (1:Nat) ≠ 0;decide
 | n + 1,k,h=>Nat.mul_ne_zero (h k (by omega) (by omega)) (pds_ne n (k + 1) fun r h1 h2=>h r (by omega) (by omega))
theorem Pvt.size {n N:Nat} {A T:Nat→Nat→Rat} {b:Nat→Nat} (h:Pvt n A T b) {d M:Nat→Nat} {Z:Nat→Nat→Int} (hd:∀ r,r < n→d r ≠ 0) (hZ:∀ c,c < N→∀ r,r < n→(d r:Rat) * A c r = Z c r) (hb:∀ i,i < n→b i < N) (hi:∀ i j,i < n→j < n→b i = b j→i = j) (hM:∀ r,r < n→totB (fun c=>(Z c r).natAbs) N≤M r) {c i:Nat} (hc:c < N) (hn:i < n) :
  (T c i = 0∨T c i = 1)∨(T c i).num.natAbs≤pds M n 0∧(T c i).den≤pds M n 0:=by
 have e:=cramer (n:=n) (k:=0) (C:=fun i=>A (b i)) (x:=fun i=>T c i) (v:=A c) hn fun r _ hr=>h.comb c r (by omega)
 by_cases hcb:∃ j,j < n∧b j = c
 ·obtain ⟨j,hj,rfl⟩:=hcb
  left
  by_cases hij:i = j
  ·subst hij
   right
   rw [show A (b i) = (fun i=>A (b i)) i from rfl,stc_self] at e
   have:=h.ne
   have e2:(T (b i) i - 1) * dtm n 0 (fun i=>A (b i)) = 0:=by grind
   rcases Rat.mul_eq_zero.1 e2 with h1 | h1
   ·grind
   ·exact absurd h1 this
  ·left
   have z:dtm n 0 (stc (fun i=>A (b i)) i (A (b j))) = 0:=by
    rcases Nat.lt_or_gt_of_ne hij with h2 | h2
    ·exact alt_all n 0 _ i j h2 (by omega) (by simp [stc])
    ·exact alt_all n 0 _ j i h2 (by omega) (by simp [stc])
   rw [z] at e
   rcases Rat.mul_eq_zero.1 e.symm with h1 | h1
   ·exact h1
   ·exact absurd h1 h.ne
 ·right
  have W:∀ s:Nat→Nat,(∀ i,i < n→s i < N)→(∀ i j,i < n→j < n→s i = s j→i = j)→∃ z:Int,(pds d n 0:Rat) * dtm n 0 (fun i=>A (s i)) = z∧z.natAbs≤pds M n 0:=fun s h1 h2=>by
   obtain ⟨z,e1,e2⟩:=dtm_bd n 0 (fun i r=>Z (s i) r) M fun r _ hr=>Nat.le_trans (totB_inj n (fun c=>(Z c r).natAbs) h1 h2) (hM r (by omega))
   refine ⟨z,?_,e2⟩
   rw [← dtm_scale,← e1]
   exact dtm_congr n 0 fun j hj r _ hr=>hZ _ (h1 j hj) r (by omega)
  obtain ⟨z,e1,b1⟩:=W b hb hi
  obtain ⟨y,e2,b2⟩:=W (fun j=>if j = i then c else b j) (fun j hj=>by split;exact hc;exact hb j hj) (fun j k hj hk ee=>by
   by_cases h1:j = i
   ·by_cases h2:k = i
    ·omega
    ·rw [if_pos h1,if_neg h2] at ee
     exact absurd ⟨k,hk,ee.symm⟩ hcb
   ·by_cases h2:k = i
    ·rw [if_neg h1,if_pos h2] at ee
     exact absurd ⟨j,hj,ee⟩ hcb
    ·rw [if_neg h1,if_neg h2] at ee
     exact hi j k hj hk ee)
  have e3:(fun j=>A (if j = i then c else b j)) = stc (fun i=>A (b i)) i (A c):=by
   funext j
   simp only [stc]
   split <;> rfl
  rw [e3,e] at e2
  have hp:(pds d n 0:Rat) ≠ 0:=by
   have:=pds_ne (d:=d) n 0 fun r _ hr=>hd r (by omega)
   exact_mod_cast this
  have hz:z ≠ 0:=fun h0=>by
   rw [h0] at e1
   rcases Rat.mul_eq_zero.1 e1 with h1 | h1
   ·exact hp h1
   ·exact h.ne h1
  have:=rat_bd (q:=T c i) (y:=y) (z:=z) (by rw [← e1,← e2];grind) hz
  exact ⟨Nat.le_trans this.1 b2,Nat.le_trans this.2 b1⟩
def hgt (q:Rat):Nat:=q.num.natAbs + q.den
def hpr (X:Nat→Rat):Nat→Nat
 | 0=>1
 | n + 1=>hpr X n * hgt (X n)
def dnp (X:Nat→Rat):Nat→Nat
 | 0=>1
 | n + 1=>dnp X n * (X n).den
theorem dnp_le (X:Nat→Rat):∀ n,dnp X n≤hpr X n
 | 0=>Nat.le_refl _
 | n + 1=>Nat.mul_le_mul (dnp_le X n) (Nat.le_add_left _ _)
theorem dnp_ne (X:Nat→Rat):∀ n,dnp X n ≠ 0
 | 0=>by show (1:Nat) ≠ 0;decide
 | n + 1=>Nat.mul_ne_zero (dnp_ne X n) (X n).den_nz
theorem rat_den (q:Rat):(q.den:Rat) * q = (q.num:Rat):=by
 have h:=Rat.num_divInt_den q
 rw [Rat.divInt_eq_div] at h
 have hd:((q.den:Int):Rat) ≠ 0:=by
  have:=q.den_nz
  simpa using this
 have e:q * ((q.den:Int):Rat) = q.num:=by
  have:=Rat.div_mul_cancel (a:=(q.num:Rat)) hd
  rw [h] at this
  exact this
 rw [Rat.mul_comm]
 exact e
theorem row_whole (X:Nat→Rat):∀ n,∃ Z:Nat→Int,(∀ c,c < n→(dnp X n:Rat) * X c = Z c)∧totB (fun c=>(Z c).natAbs) n≤hpr X n
 | 0=>⟨fun _=>0,fun _ h=>absurd h (by omega),Nat.zero_le _⟩
 | n + 1=>by
  obtain ⟨Z,h1,h2⟩:=row_whole X n
  have e1:((dnp X n * (X n).den:Nat):Rat) = (dnp X n:Rat) * ((X n).den:Rat):=Rat.natCast_mul ..
  refine ⟨fun c=>if c = n then (dnp X n:Int) * (X n).num else Z c * ((X n).den:Int),fun c hc=>?_,?_⟩
  ·show ((dnp X n * (X n).den:Nat):Rat) * X c = _
   rw [e1]
   by_cases h:c = n
   ·subst h
    simp only [if_pos]
    rw [Rat.mul_assoc,rat_den,Rat.intCast_mul]
    rfl
   ·simp only [if_neg h]
    rw [Rat.intCast_mul,← h1 c (by omega)]
    show _ = _ * ((X n).den:Rat)
    grind
  ·show totB _ n + _≤hpr X n * hgt (X n)
   have e2:totB (fun c=>(if c = n then (dnp X n:Int) * (X n).num else Z c * ((X n).den:Int)).natAbs) n = totB (fun c=>(Z c).natAbs) n * (X n).den:=by
    have:∀ m,m≤n→totB (fun c=>(if c = n then (dnp X n:Int) * (X n).num else Z c * ((X n).den:Int)).natAbs) m = totB (fun c=>(Z c).natAbs) m * (X n).den:=by
     intro m
     induction m with
     | zero=>exact fun _=>(Nat.zero_mul _).symm
     | succ m ih =>
      intro hm
      show totB _ m + (if m = n then (dnp X n:Int) * (X n).num else Z m * ((X n).den:Int)).natAbs = (totB _ m + (Z m).natAbs) * (X n).den
      rw [ih (by omega),if_neg (by omega),Int.natAbs_mul,Int.natAbs_natCast,Nat.add_mul]
    exact this n (by omega)
   rw [e2]
   simp only [if_pos]
   rw [Int.natAbs_mul,Int.natAbs_natCast]
   have a1:=Nat.mul_le_mul_right (X n).den h2
   have a2:=Nat.mul_le_mul_right (X n).num.natAbs (dnp_le X n)
   have a3:hpr X n * hgt (X n) = hpr X n * (X n).num.natAbs + hpr X n * (X n).den:=Nat.mul_add ..
   omega
theorem hpr_pos (X:Nat→Rat):∀ n,1≤hpr X n
 | 0=>Nat.le_refl _
 | n + 1=>Nat.mul_le_mul (hpr_pos X n) (show 1≤hgt (X n) from by have:=(X n).den_nz;unfold hgt;omega)
theorem pds_pos {M:Nat→Nat}:∀ n k,(∀ r,1≤M r)→1≤pds M n k
 | 0,_,_=>Nat.le_refl _
 | n + 1,k,h=>Nat.mul_le_mul (h k) (pds_pos n (k + 1) h)
theorem Pvt.hgt {n N:Nat} {A T:Nat→Nat→Rat} {b:Nat→Nat} (h:Pvt n A T b) (hb:∀ i,i < n→b i < N) (hi:∀ i j,i < n→j < n→b i = b j→i = j) {c i:Nat} (hc:c < N) (hn:i < n) :
  (T c i).num.natAbs≤pds (fun r=>hpr (fun c=>A c r) N) n 0∧(T c i).den≤pds (fun r=>hpr (fun c=>A c r) N) n 0:=by
 have hp:1≤pds (fun r=>hpr (fun c=>A c r) N) n 0:=pds_pos n 0 fun r=>hpr_pos _ _
 rcases h.size (N:=N) (d:=fun r=>dnp (fun c=>A c r) N) (M:=fun r=>hpr (fun c=>A c r) N) (Z:=fun c r=>Classical.choose (row_whole (fun c=>A c r) N) c)
  (fun r _=>dnp_ne _ _) (fun c hc r _=>(Classical.choose_spec (row_whole (fun c=>A c r) N)).1 c hc) hb hi (fun r _=>(Classical.choose_spec (row_whole (fun c=>A c r) N)).2) hc hn with (h | h) | h
 ·rw [h]
  exact ⟨Nat.zero_le _,hp⟩
 ·rw [h]
  exact ⟨hp,hp⟩
 ·exact h
end Go.Proofs.YtjiodidemimgmaaGreatDoor

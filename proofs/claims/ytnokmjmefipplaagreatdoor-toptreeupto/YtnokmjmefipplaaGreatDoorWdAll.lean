import Derived.Test.YtnokmjmefipplaaGreatDoorPqDAll
import Derived.Test.YtnokmjmefipplaaGreatDoorPqF
namespace Go.Proofs.YtnokmjmefipplaaGreatDoor
open Go.RowKit
def iR (t:Nat→PT) (k:Nat) (x:Int):Rat:=aQ (fun i=>if (t i).var = x then (t i).coef else 0) k
theorem yO {f:Nat→Rat}:∀ m,(∀ i,i < m→f i = 0)→aQ f m = 0
 | 0,_=>rfl
 | m + 1,h=>by rw [aS,yO m (fun i hi=>h i (by omega)),h m (by omega),Rat.add_zero]
theorem yP (c:Rat) (v:Int) (X:Nat→Rat):∀ m:Nat,aQ (fun x=>(if v = (x:Int) then c else 0) * X x) m = if 0≤v∧v < (m:Int) then c * X v.toNat else 0
 | 0=>by rw [if_neg (by omega)];rfl
 | m + 1=>by
  rw [aS,yP c v X m]
  by_cases h:v = (m:Int)
  ·subst h
   rw [if_neg (by omega),if_pos rfl,if_pos (by omega),Rat.zero_add];rfl
  ·rw [if_neg h,Rat.zero_mul,Rat.add_zero]
   by_cases h2:0≤v∧v < (m:Int)
   ·rw [if_pos h2,if_pos (by omega)]
   ·rw [if_neg h2,if_neg (by omega)]
theorem aL4 (r:PW) (X:Nat→Rat) (m:Nat):∀ k,aQ (tv r X m) k = aQ (fun x=>iR r.t k (x:Int) * X x) m
 | 0=>by
  refine (yO m fun i _=>?_).symm
  exact Rat.zero_mul _
 | k + 1=>by
  have h:∀ x:Nat,iR r.t (k + 1) (x:Int) * X x = iR r.t k (x:Int) * X x + (if (r.t k).var = (x:Int) then (r.t k).coef else 0) * X x:=fun x=>by
   show (iR r.t k (x:Int) + if (r.t k).var = (x:Int) then (r.t k).coef else 0) * X x = _
   exact Rat.add_mul _ _ _
  rw [aS,aL4 r X m k,bG (Y:=fun x=>iR r.t k (x:Int) * X x + (if (r.t k).var = (x:Int) then (r.t k).coef else 0) * X x) (fun x _=>h x),pI,yP]
  rfl
theorem aE5 (k:Rat) (V:Nat→PV) (X:Nat→Rat) (m:Nat):aQ (prt k V X) (m + 1) = k + aQ (fun j=>(V j).obj * X j) m:=by
 induction m with
 | zero=>show 0 + k = k + 0;rw [Rat.zero_add,Rat.add_zero]
 | succ m ih=>rw [aS,ih,aS,Rat.add_assoc];rfl
theorem jA {r s:Rat}:cs r s < 0↔r < s:=by
 unfold cs
 rw [Int.sign_neg_iff,Rat.lt_iff]
 omega
theorem iC {r s:Rat}:0 < cs r s↔s < r:=by
 unfold cs
 rw [Int.sign_pos_iff,Rat.lt_iff]
 omega
theorem iM {a lo hi:Rat} {hlo hhi:Bool}:eF a hlo lo hhi hi = true↔(hlo = true→lo≤a)∧(hhi = true→a≤hi):=by
 unfold eF
 rw [show (decide (cs a lo < 0)) = decide (a < lo) from decide_eq_decide.2 jA,show (decide (0 < cs a hi)) = decide (hi < a) from decide_eq_decide.2 iC]
 cases hlo <;> cases hhi <;> simp [Rat.not_lt]
theorem aA9 {X Y:Nat→Rat} {n:Nat} (h:∀ i,i < n→X i≤Y i):aQ X n≤aQ Y n:=by
 induction n with
 | zero=>exact Rat.le_refl
 | succ n ih =>
  rw [aS,aS]
  have h1:=ih (fun i hi=>h i (by omega))
  have h2:=h n (by omega)
  grind
theorem pU (X:Nat→Rat) (n:Nat):aQ (fun i=>-X i) n = -aQ X n:=by
 induction n with
 | zero=>show (0:Rat) = -0;grind
 | succ n ih=>rw [aS,aS,ih];grind
theorem aE6 (X Y:Nat→Rat) (n:Nat):aQ (fun i=>X i - Y i) n = aQ X n - aQ Y n:=by
 induction n with
 | zero=>show (0:Rat) = 0 - 0;grind
 | succ n ih=>rw [aS,aS,aS,ih];grind
theorem nI (c:Rat) (X:Nat→Rat) (n:Nat):aQ (fun i=>c * X i) n = c * aQ X n:=by
 induction n with
 | zero=>show (0:Rat) = c * 0;grind
 | succ n ih=>rw [aS,aS,ih];grind
theorem aD1 (f:Nat→Nat→Rat) (m n:Nat):aQ (fun j=>aQ (fun i=>f i j) m) n = aQ (fun i=>aQ (fun j=>f i j) n) m:=by
 induction n with
 | zero =>
  show (0:Rat) = aQ (fun _=>(0:Rat)) m
  induction m with
  | zero=>rfl
  | succ m ih=>rw [aS,← ih];grind
 | succ n ih =>
  rw [aS,ih,← pI]
  exact bG fun i _=>rfl
def pb (m lo hi:Rat):Rat:=if 0 < m then m * lo else if m < 0 then m * hi else 0
def okb (m:Rat) (hlo hhi:Bool):Prop:=(0 < m→hlo = true)∧(m < 0→hhi = true)
theorem aL5 {m a lo hi:Rat} {hlo hhi:Bool} (h:eF a hlo lo hhi hi = true) (hk:okb m hlo hhi):pb m lo hi≤m * a:=by
 rw [iM] at h
 unfold pb
 by_cases h0:0 < m
 ·rw [if_pos h0]
  have h1:=h.1 (hk.1 h0)
  have h2:0≤m * (a - lo):=Rat.mul_nonneg (Rat.le_of_lt h0) (by grind)
  grind
 ·rw [if_neg h0]
  by_cases h1:m < 0
  ·rw [if_pos h1]
   have h2:=h.2 (hk.2 h1)
   have h3:0≤(-m) * (hi - a):=Rat.mul_nonneg (by grind) (by grind)
   grind
  ·rw [if_neg h1]
   have:m = 0:=by grind
   subst this
   grind
def lft (P:Prob) (Y:Nat→Rat) (j:Nat):Rat:=(P.V j).obj - aQ (fun i=>Y i * iR (P.R i).t (P.R i).nt (j:Int)) P.rn
def pv (P:Prob) (Y:Nat→Rat):Rat:=P.k + aQ (fun i=>pb (Y i) (P.R i).lo (P.R i).hi) P.rn + aQ (fun j=>pb (lft P Y j) (P.V j).lo (P.V j).hi) P.vn
def okp (P:Prob) (Y:Nat→Rat):Prop:=(∀ i,i < P.rn→okb (Y i) (P.R i).hlo (P.R i).hhi)∧∀ j,j < P.vn→okb (lft P Y j) (P.V j).hlo (P.V j).hhi
def vlu (P:Prob) (X:Nat→Rat):Rat:=aQ (prt P.k P.V X) (P.vn + 1)
theorem jC (P:Prob) (X:Nat→Rat):vlu P X = P.k + aQ (fun j=>(P.V j).obj * X j) P.vn:=aE5 _ _ _ _
theorem aI8 (P:Prob) (X Y:Nat→Rat):aQ (fun j=>lft P Y j * X j) P.vn = aQ (fun j=>(P.V j).obj * X j) P.vn - aQ (fun i=>Y i * cv (P.R i) X P.vn) P.rn:=by
 have e1:aQ (fun j=>lft P Y j * X j) P.vn = aQ (fun j=>(P.V j).obj * X j - aQ (fun i=>Y i * (iR (P.R i).t (P.R i).nt (j:Int) * X j)) P.rn) P.vn:=bG fun j _=>by
  unfold lft
  have:aQ (fun i=>Y i * (iR (P.R i).t (P.R i).nt (j:Int) * X j)) P.rn = aQ (fun i=>Y i * iR (P.R i).t (P.R i).nt (j:Int)) P.rn * X j:=by
   rw [← rsum_mul]
   exact bG fun i _=>by grind
  rw [this]
  grind
 rw [e1,aE6,aD1]
 congr 1
 exact bG fun i _=>by
  rw [nI]
  unfold cv
  rw [aL4]
theorem uA {P:Prob} {n:Nat} {X Y:Nat→Rat} (h:bY P n X) (ok:okp P Y):pv P Y≤vlu P X:=by
 have h1:aQ (fun i=>pb (Y i) (P.R i).lo (P.R i).hi) P.rn≤aQ (fun i=>Y i * cv (P.R i) X P.vn) P.rn:=aA9 fun i hi=>aL5 (h.2.2 i hi) (ok.1 i hi)
 have h2:aQ (fun j=>pb (lft P Y j) (P.V j).lo (P.V j).hi) P.vn≤aQ (fun j=>lft P Y j * X j) P.vn:=aA9 fun j hj=>aL5 (h.2.1 j hj) (ok.2 j hj)
 rw [aI8] at h2
 rw [jC]
 unfold pv
 grind
def Prob.turn (P:Prob):Prob:={ P with k:=-P.k,V:=fun j=>{ P.V j with obj:=-(P.V j).obj } }
theorem aD2 {P:Prob} {n:Nat} {X:Nat→Rat}:bY P.turn n X↔bY P n X:=Iff.rfl
theorem aE7 (P:Prob) (X:Nat→Rat):vlu P.turn X = -vlu P X:=by
 rw [jC,jC]
 have e:aQ (fun j=>(P.turn.V j).obj * X j) P.turn.vn = -aQ (fun j=>(P.V j).obj * X j) P.vn:=by
  rw [← pU]
  exact bG fun j _=>by show -(P.V j).obj * X j = _;grind
 rw [e]
 show -P.k + _ = _
 grind
def pvS (P:Prob) (Y:Nat→Rat):Rat:=if P.mx = true then -pv P.turn (fun i=>-Y i) else pv P Y
def okS (P:Prob) (Y:Nat→Rat):Prop:=if P.mx = true then okp P.turn (fun i=>-Y i) else okp P Y
def btr (P:Prob) (a b:Rat):Prop:=if P.mx = true then b < a else a < b
theorem weak {P:Prob} {n:Nat} {X Y:Nat→Rat} (h:bY P n X) (ok:okS P Y):¬ btr P (vlu P X) (pvS P Y):=by
 unfold btr pvS
 unfold okS at ok
 by_cases hm:P.mx = true
 ·rw [if_pos hm,if_pos hm]
  rw [if_pos hm] at ok
  have h1:=uA (aD2.2 h) ok
  rw [aE7] at h1
  grind
 ·rw [if_neg hm,if_neg hm]
  rw [if_neg hm] at ok
  have h1:=uA h ok
  grind
def Prob.bare (P:Prob):Prob:={ P with mx:=false,k:=0,V:=fun j=>{ P.V j with obj:=0 } }
theorem aD3 {P:Prob} {n:Nat} {X Y:Nat→Rat} (ok:okp P.bare Y) (h0:0 < pv P.bare Y):¬ bY P n X:=by
 intro h
 have h1:=uA (P:=P.bare) (X:=X) (n:=n) h ok
 have e:vlu P.bare X = 0:=by
  rw [jC]
  have e1:aQ (fun j=>(P.bare.V j).obj * X j) P.bare.vn = aQ (fun j=>(0:Rat) * X j) P.bare.vn:=bG fun j _=>rfl
  rw [e1,nI]
  show (0:Rat) + 0 * _ = 0
  grind
 rw [e] at h1
 grind
def Crs (P:Prob):Prop:=(∃ j,j < P.vn∧(P.V j).hlo = true∧(P.V j).hhi = true∧(P.V j).hi < (P.V j).lo)∨∃ i,i < P.rn∧(P.R i).hlo = true∧(P.R i).hhi = true∧(P.R i).hi < (P.R i).lo
theorem aE8 {P:Prob} {n:Nat} {X:Nat→Rat} (h:Crs P):¬ bY P n X:=by
 rintro ⟨_,h1,h2⟩
 rcases h with ⟨j,hj,a,b,c⟩ | ⟨i,hi,a,b,c⟩
 ·have:=iM.1 (h1 j hj)
  have h3:=this.1 a
  have h4:=this.2 b
  grind
 ·have:=iM.1 (h2 i hi)
  have h3:=this.1 a
  have h4:=this.2 b
  grind
def Dir (P:Prob) (Z:Nat→Rat):Prop:=(∀ j,j < P.vn→((P.V j).hlo = true→0≤Z j)∧((P.V j).hhi = true→Z j≤0))∧∀ i,i < P.rn→((P.R i).hlo = true→0≤cv (P.R i) Z P.vn)∧((P.R i).hhi = true→cv (P.R i) Z P.vn≤0)
theorem aM6 (r:PW) (t:Rat) (X Z:Nat→Rat) (m k:Nat):tv r (fun j=>X j + t * Z j) m k = tv r X m k + t * tv r Z m k:=by
 unfold tv
 split <;> grind
theorem aM7 (r:PW) (t:Rat) (X Z:Nat→Rat) (m:Nat):cv r (fun j=>X j + t * Z j) m = cv r X m + t * cv r Z m:=by
 unfold cv
 rw [← nI,← pI]
 exact bG fun k _=>aM6 r t X Z m k
def rte (P:Prob) (Z:Nat→Rat):Rat:=aQ (fun j=>(P.V j).obj * Z j) P.vn
theorem aI9 (P:Prob) (t:Rat) (X Z:Nat→Rat):vlu P (fun j=>X j + t * Z j) = vlu P X + t * rte P Z:=by
 rw [jC,jC]
 unfold rte
 rw [← nI,Rat.add_assoc,← pI]
 congr 1
 exact bG fun j _=>by grind
theorem yQ {x d t lo hi:Rat} {hlo hhi:Bool} (ht:0≤t) (h:eF x hlo lo hhi hi = true) (h1:hlo = true→0≤d) (h2:hhi = true→d≤0):eF (x + t * d) hlo lo hhi hi = true:=by
 rw [iM] at *
 refine ⟨fun e=>?_,fun e=>?_⟩
 ·have:=Rat.mul_nonneg ht (h1 e)
  have:=h.1 e
  grind
 ·have:=Rat.mul_nonneg ht (show 0≤-d by have:=h2 e;grind)
  have:=h.2 e
  grind
theorem aE9 {P:Prob} {n:Nat} {X Z:Nat→Rat} {t:Rat} (ht:0≤t) (h:bY P n X) (hd:Dir P Z):bY P n (fun j=>X j + t * Z j):=by
 refine ⟨h.1,fun j hj=>yQ ht (h.2.1 j hj) (hd.1 j hj).1 (hd.1 j hj).2,fun i hi=>?_⟩
 rw [aM7]
 exact yQ ht (h.2.2 i hi) (hd.2 i hi).1 (hd.2 i hi).2
def Wd (d:Nat) (D:Int) (r:Rat):Prop:=0 < D∧D < pw d∧∃ m:Int,r * (D:Rat) = (m:Rat)∧(m.natAbs:Int) < pw d
theorem Wd.sz {d:Nat} {D:Int} {r:Rat} (h:Wd d D r) (h1:1≤d):SzR r d:=by
 obtain ⟨h0,hd,m,e,hm⟩:=h
 have hD0:(D:Rat) ≠ 0:=by
  intro e
  have:D = 0:=by exact_mod_cast e
  omega
 have e2:r = Rat.divInt m D:=by rw [Rat.divInt_eq_div,← e,Rat.div_def,Rat.mul_assoc,Rat.mul_inv_cancel _ hD0,Rat.mul_one]
 rw [e2]
 exact qM hm (by omega) h1
theorem Wd.mul {d e:Nat} {D E:Int} {r s:Rat} (h:Wd d D r) (k:Wd e E s):Wd (d + e) (D * E) (r * s):=by
 obtain ⟨h1,h2,m,h3,h4⟩:=h
 obtain ⟨k1,k2,n,k3,k4⟩:=k
 refine ⟨Int.mul_pos h1 k1,(dN (Int.le_of_lt h1) h2 (Int.le_of_lt k1) k2).1,m * n,?_,mul_lt h4 k4⟩
 rw [Rat.intCast_mul,Rat.intCast_mul,← h3,← k3]
 grind
theorem Wd.one {e:Nat} {E:Int} (hE:0 < E) (he:E < pw e):Wd e E 1:=⟨hE,he,E,Rat.one_mul _,by omega⟩
theorem Wd.lift {d e:Nat} {D E:Int} {r:Rat} (h:Wd d D r) (hE:0 < E) (he:E < pw e):Wd (d + e) (D * E) r:=by
 have h1:=h.mul (Wd.one hE he)
 rwa [Rat.mul_one] at h1
theorem Wd.lift' {d e:Nat} {D E:Int} {r:Rat} (h:Wd d D r) (hE:0 < E) (he:E < pw e):Wd (e + d) (E * D) r:=by
 rw [Int.mul_comm,Nat.add_comm];exact h.lift hE he
theorem Wd.up {d e:Nat} {D:Int} {r:Rat} (h:Wd d D r) (hd:d≤e):Wd e D r:=by
 obtain ⟨h1,h2,m,h3,h4⟩:=h
 have:=bF hd
 exact ⟨h1,by omega,m,h3,by omega⟩
theorem Wd.neg {d:Nat} {D:Int} {r:Rat} (h:Wd d D r):Wd d D (-r):=by
 obtain ⟨h1,h2,m,h3,h4⟩:=h
 exact ⟨h1,h2,-m,by rw [Rat.neg_mul,h3,Rat.intCast_neg],by omega⟩
theorem Wd.zero {d:Nat} {D:Int} (hD:0 < D) (hd:D < pw d):Wd d D 0:=⟨hD,hd,0,by rw [Rat.zero_mul];rfl,by have:=bH d;simpa using this⟩
theorem Wd.add {d:Nat} {D:Int} {r s:Rat} (h:Wd d D r) (k:Wd d D s):Wd (d + 1) D (r + s):=by
 obtain ⟨h1,h2,m,h3,h4⟩:=h
 obtain ⟨_,_,n,k3,k4⟩:=k
 have:=bF (show d≤d + 1 by omega)
 refine ⟨h1,by omega,m + n,by rw [Rat.add_mul,h3,k3,Rat.intCast_add],add_lt h4 k4⟩
theorem Wd.sub {d:Nat} {D:Int} {r s:Rat} (h:Wd d D r) (k:Wd d D s):Wd (d + 1) D (r - s):=by
 rw [Rat.sub_eq_add_neg];exact h.add k.neg
theorem Wd.self {r:Rat} {T:Nat} (h:SzR r T):Wd T (r.den:Int) r:=by
 refine ⟨by have:=r.den_pos;omega,h.2,r.num,?_,h.1⟩
 have hd:(((r.den:Int)):Rat) ≠ 0:=by
  intro e
  have e2:(r.den:Int) = 0:=by exact_mod_cast e
  have:=r.den_pos
  omega
 have e1:r = (r.num:Rat) / ((r.den:Int):Rat):=by rw [← Rat.divInt_eq_div,Rat.num_divInt_den]
 have e2:r * ((r.den:Int):Rat) = (r.num:Rat) / ((r.den:Int):Rat) * ((r.den:Int):Rat):=congrArg (· * ((r.den:Int):Rat)) e1
 rw [e2,Rat.div_mul_cancel hd]
theorem Wd.sum {Y:Nat→Rat} {d n:Nat} {D:Int} (hD:0 < D) (hd:D < pw d) (h:∀ i,i < n→Wd d D (Y i)) (hn:n≤18446744073709551615):∀ k,k≤n→Wd (d + 1) D (aQ Y k):=by
 have H:∀ k,k≤n→∃ m:Int,aQ Y k * (D:Rat) = (m:Rat)∧(m.natAbs:Int)≤(k:Int) * pw d:=by
  intro k
  induction k with
  | zero=>intro _;exact ⟨0,by show (0:Rat) * _ = _;rw [Rat.zero_mul];rfl,by simp⟩
  | succ k ih =>
   intro hk
   obtain ⟨m,h1,h2⟩:=ih (by omega)
   obtain ⟨_,_,q,h3,h4⟩:=h k (by omega)
   refine ⟨m + q,by rw [aS,Rat.add_mul,h1,h3,Rat.intCast_add],?_⟩
   rw [show (((k + 1:Nat):Int) * pw d) = (k:Int) * pw d + pw d by rw [Int.natCast_add,Int.add_mul,Int.natCast_one,Int.one_mul]]
   omega
 intro k hk
 obtain ⟨m,h1,h2⟩:=H k hk
 have e:=bU d
 have p:=bH d
 have h3:(k:Int) * pw d≤18446744073709551615 * pw d:=Int.mul_le_mul_of_nonneg_right (by omega) (Int.le_of_lt p)
 exact ⟨hD,by omega,m,h1,by omega⟩
theorem Wd.fam {Z:Nat→Nat} {D:Nat→Int} {X:Nat→Nat→Rat} {N:Nat→Nat}:∀ n,(∀ i,i < n→0 < D i∧D i < pw (Z i)∧∀ k,k < N i→Wd (Z i) (D i) (X i k))→∃ E,0 < E∧E < pw (tot Z n)∧∀ i,i < n→∀ k,k < N i→Wd (tot Z n) E (X i k)
 | 0,_=>⟨1,by decide,by show (1:Int) < pw 1;decide,fun i hi=>by omega⟩
 | n + 1,h=>by
  obtain ⟨E,e1,e2,e3⟩:=Wd.fam n (fun i hi=>h i (by omega))
  obtain ⟨d1,d2,d3⟩:=h n (by omega)
  have q:=dN (Int.le_of_lt e1) e2 (Int.le_of_lt d1) d2
  have ht:tot Z (n + 1) = tot Z n + Z n + 1:=rfl
  refine ⟨E * D n,Int.mul_pos e1 d1,Int.lt_of_lt_of_le q.1 (bF (by omega)),fun i hi k hk=>?_⟩
  rcases (by omega:i < n∨i = n) with hl | rfl
  ·exact ((e3 i hl k hk).lift d1 d2).up (by omega)
  ·exact ((d3 k hk).lift' e1 e2).up (by omega)
theorem Wd.list {X:Nat→Rat} {Z:Nat→Nat} {n K:Nat} (h:∀ i,i < n→SzR (X i) (Z i)) (hK:tot Z n≤K):∃ D,0 < D∧D < pw K∧∀ i,i < n→Wd K D (X i):=by
 obtain ⟨E,e1,e2,e3⟩:=Wd.fam (Z:=Z) (D:=fun i=>((X i).den:Int)) (X:=fun i _=>X i) (N:=fun _=>1) n (fun i hi=>⟨(Wd.self (h i hi)).1,(Wd.self (h i hi)).2.1,fun _ _=>Wd.self (h i hi)⟩)
 exact ⟨E,e1,Int.lt_of_lt_of_le e2 (bF hK),fun i hi=>(e3 i hi 0 (by decide)).up hK⟩
def rst (P:Prob) (Y:Nat→Rat) (j i k:Nat):Rat:=(P.V j).obj - aQ (fun i'=>Y i' * iR (P.R i').t (P.R i').nt (j:Int)) i - Y i * iR (P.R i).t k (j:Int)
theorem nJ (P:Prob) (Y:Nat→Rat) (j i:Nat):rst P Y j i 0 = (P.V j).obj - aQ (fun i'=>Y i' * iR (P.R i').t (P.R i').nt (j:Int)) i:=by
 unfold rst
 have:iR (P.R i).t 0 (j:Int) = 0:=rfl
 rw [this,Rat.mul_zero]
 grind
theorem aF0 (P:Prob) (Y:Nat→Rat) (j:Nat):rst P Y j 0 0 = (P.V j).obj:=by
 rw [nJ]
 show _ - (0:Rat) = _
 grind
theorem aB0 (P:Prob) (Y:Nat→Rat) (j:Nat):rst P Y j P.rn 0 = lft P Y j:=nJ P Y j P.rn
theorem aJ0 (P:Prob) (Y:Nat→Rat) (j i:Nat):rst P Y j i (P.R i).nt = rst P Y j (i + 1) 0:=by
 rw [nJ,aS]
 unfold rst
 grind
theorem aB1 (P:Prob) (Y:Nat→Rat) (j i k:Nat) (h:((P.R i).t k).var = (j:Int)):rst P Y j i (k + 1) = rst P Y j i k - Y i * ((P.R i).t k).coef:=by
 unfold rst
 have:iR (P.R i).t (k + 1) (j:Int) = iR (P.R i).t k (j:Int) + ((P.R i).t k).coef:=by
  show iR (P.R i).t k (j:Int) + (if ((P.R i).t k).var = (j:Int) then ((P.R i).t k).coef else 0) = _
  rw [if_pos h]
 rw [this]
 grind
theorem aF1 (P:Prob) (Y:Nat→Rat) (j i k:Nat) (h:((P.R i).t k).var ≠ (j:Int)):rst P Y j i (k + 1) = rst P Y j i k:=by
 unfold rst
 have:iR (P.R i).t (k + 1) (j:Int) = iR (P.R i).t k (j:Int):=by
  show iR (P.R i).t k (j:Int) + (if ((P.R i).t k).var = (j:Int) then ((P.R i).t k).coef else 0) = _
  rw [if_neg h,Rat.add_zero]
 rw [this]
theorem PQ.row {w:World} {P:Prob} (hP:PQ w P) {i:Nat} (hi:i < P.rn):∃ b o,RowAt w b o (P.R i) (P.ZR i):=by
 rcases hP.r with h0 | ⟨b,o,_,h⟩
 ·omega
 ·exact ⟨_,_,h i hi⟩
theorem PQ.var {w:World} {P:Prob} (hP:PQ w P) {j:Nat} (hj:j < P.vn):∃ b o,VarAt w b o (P.V j) (P.ZV j):=by
 rcases hP.v with h0 | ⟨b,o,_,h⟩
 ·omega
 ·exact ⟨_,_,h j hj⟩
theorem PQ.coefs {w:World} {P:Prob} (hP:PQ w P):∃ E,0 < E∧E < pw (tot P.ZR P.rn)∧∀ i,i < P.rn→∀ k,k < (P.R i).nt→Wd (tot P.ZR P.rn) E ((P.R i).t k).coef:=by
 have H:∀ i,∃ D:Int,i < P.rn→0 < D∧D < pw (P.ZR i)∧∀ k,k < (P.R i).nt→Wd (P.ZR i) D ((P.R i).t k).coef:=fun i=>by
  by_cases hi:i < P.rn
  ·obtain ⟨b,o,hR⟩:=hP.row hi
   obtain ⟨a,cap,Z,_,h2,h3,_⟩:=hR.terms
   obtain ⟨D,d1,d2,d3⟩:=Wd.list (X:=fun k=>((P.R i).t k).coef) h2.sz h3
   exact ⟨D,fun _=>⟨d1,d2,d3⟩⟩
  ·exact ⟨1,fun h=>absurd h hi⟩
 obtain ⟨D,hD⟩:=Classical.axiomOfChoice H
 exact Wd.fam (X:=fun i k=>((P.R i).t k).coef) (N:=fun i=>(P.R i).nt) P.rn hD
theorem PQ.nt_le {w:World} {P:Prob} (hP:PQ w P) {i:Nat} (hi:i < P.rn):(P.R i).nt≤P.K:=by
 obtain ⟨b,o,hR⟩:=hP.row hi
 obtain ⟨a,cap,Z,_,h2,h3,_⟩:=hR.terms
 have:=aT Z (P.R i).nt
 have:=bI (Z:=P.ZR) hi
 have:=hP.all
 omega
theorem PQ.rests {w:World} {P:Prob} (hP:PQ w P) {Y:Nat→Rat} {Zy:Nat→Nat} {Ky:Nat} (hy:∀ i,i < P.rn→SzR (Y i) (Zy i)) (hty:tot Zy P.rn≤Ky) (hK:P.K≤1048576) :
 ∃ D Dy:Int,0 < D∧D < pw (P.K + Ky)∧0 < Dy∧Dy < pw Ky∧(∃ E:Int,D = Dy * E∧0 < E∧E < pw P.K)∧(∀ i,i < P.rn→Wd Ky Dy (Y i))∧∀ j,j < P.vn→∀ i k,(i < P.rn∧k≤(P.R i).nt∨i≤P.rn∧k = 0)→Wd (P.K + Ky + 4) D (rst P Y j i k):=by
 obtain ⟨Dc,c1,c2,c3⟩:=hP.coefs
 obtain ⟨Dy,y1,y2,y3⟩:=Wd.list hy hty
 obtain ⟨Do,o1,o2,o3⟩:=Wd.list (X:=fun j=>(P.V j).obj) (Z:=P.ZV) (n:=P.vn) (K:=tot P.ZV P.vn) (fun j hj=>by
  obtain ⟨b,o,hV⟩:=hP.var hj
  exact hV.sobj) (Nat.le_refl _)
 have hall:=hP.all
 have hrn:P.rn≤1048576:=by have:=aT P.ZR P.rn;omega
 have hg:∀ j i,i < P.rn→∀ k,k≤(P.R i).nt→Wd (tot P.ZR P.rn + 1) Dc (iR (P.R i).t k (j:Int)):=fun j i hi k hk=>by
  refine Wd.sum c1 c2 (n:=(P.R i).nt) (fun q hq=>?_) (by have:=hP.nt_le hi;omega) k hk
  split
  ·exact c3 i hi q hq
  ·exact Wd.zero c1 c2
 have qyc:=dN (Int.le_of_lt y1) y2 (Int.le_of_lt c1) c2
 have qyc0:0 < Dy * Dc:=Int.mul_pos y1 c1
 have qE:=dN (Int.le_of_lt c1) c2 (Int.le_of_lt o1) o2
 have qE0:0 < Dc * Do:=Int.mul_pos c1 o1
 have hyg:∀ j i,i < P.rn→∀ k,k≤(P.R i).nt→Wd (Ky + (tot P.ZR P.rn + 1)) (Dy * Dc) (Y i * iR (P.R i).t k (j:Int)):=fun j i hi k hk=>(y3 i hi).mul (hg j i hi k hk)
 have e:Dy * Dc * Do = Dy * (Dc * Do):=Int.mul_assoc _ _ _
 have hsum:∀ j i,i≤P.rn→Wd (Ky + (tot P.ZR P.rn + 1) + 1) (Dy * Dc) (aQ (fun i'=>Y i' * iR (P.R i').t (P.R i').nt (j:Int)) i):=fun j i hi =>
  Wd.sum qyc0 (Int.lt_of_lt_of_le qyc.1 (bF (by omega))) (n:=P.rn) (fun q hq=>hyg j q hq _ (Nat.le_refl _)) (by omega) i hi
 have hob:∀ j,j < P.vn→Wd (Ky + (tot P.ZR P.rn + 1) + 1 + tot P.ZV P.vn) (Dy * Dc * Do) (P.V j).obj:=fun j hj=>((o3 j hj).lift' qyc0 qyc.1).up (by omega)
 have hD:Dy * Dc * Do < pw (P.K + Ky):=by
  have q:=dN qyc.2 qyc.1 (Int.le_of_lt o1) o2
  exact Int.lt_of_lt_of_le q.1 (bF (by omega))
 refine ⟨Dy * Dc * Do,Dy,Int.mul_pos qyc0 o1,hD,y1,y2,⟨Dc * Do,e,qE0,Int.lt_of_lt_of_le qE.1 (bF (by omega))⟩,y3,fun j hj i k hik=>?_⟩
 rcases hik with ⟨hi,hk⟩ | ⟨hi,rfl⟩
 ·have h1:=(hob j hj).sub ((hsum j i (by omega)).lift o1 o2)
  have h2:=((hyg j i hi k hk).lift o1 o2).up (show _≤Ky + (tot P.ZR P.rn + 1) + 1 + tot P.ZV P.vn + 1 by omega)
  exact (h1.sub h2).up (by omega)
 ·rw [nJ]
  exact ((hob j hj).sub ((hsum j i hi).lift o1 o2)).up (by omega)
def asks (mx:Bool) (m:Rat):Bool:=decide (0 < m) != mx
def mlt (P:Prob) (Y:Nat→Rat) (q:Nat):Rat:=if q < P.rn then Y q else lft P Y (q - P.rn)
def plo (P:Prob) (q:Nat):Rat:=if q < P.rn then (P.R q).lo else (P.V (q - P.rn)).lo
def phi (P:Prob) (q:Nat):Rat:=if q < P.rn then (P.R q).hi else (P.V (q - P.rn)).hi
def phl (P:Prob) (q:Nat):Bool:=if q < P.rn then (P.R q).hlo else (P.V (q - P.rn)).hlo
def phh (P:Prob) (q:Nat):Bool:=if q < P.rn then (P.R q).hhi else (P.V (q - P.rn)).hhi
def bch (P:Prob) (Y:Nat→Rat) (q:Nat):Rat:=if asks P.mx (mlt P Y q) = true then plo P q else phi P q
def bhas (P:Prob) (Y:Nat→Rat) (q:Nat):Bool:=if asks P.mx (mlt P Y q) = true then phl P q else phh P q
def prp (P:Prob) (Y:Nat→Rat) (q:Nat):Rat:=mlt P Y q * bch P Y q
def okq (P:Prob) (Y:Nat→Rat) (q:Nat):Prop:=mlt P Y q = 0∨bhas P Y q = true
theorem yR (f:Nat→Rat) (a:Nat):∀ b,aQ f (a + b) = aQ f a + aQ (fun i=>f (a + i)) b
 | 0=>by show aQ f a = aQ f a + 0;rw [Rat.add_zero]
 | b + 1=>by show aQ f (a + b) + f (a + b) = aQ f a + (aQ (fun i=>f (a + i)) b + f (a + b));rw [yR f a b,Rat.add_assoc]
theorem rG (m lo hi:Rat):pb m lo hi = m * (if asks false m = true then lo else hi):=by
 unfold pb asks
 by_cases h:0 < m
 ·rw [if_pos h,if_pos (by simp [h])]
 ·rw [if_neg h]
  by_cases h1:m < 0
  ·rw [if_pos h1,if_neg (by simp [h])]
  ·have:m = 0:=by grind
   rw [if_neg h1,this,Rat.zero_mul]
theorem rH (m lo hi:Rat):pb (-m) lo hi = -(m * (if asks true m = true then lo else hi)):=by
 unfold pb asks
 by_cases h:0 < m
 ·rw [if_neg (by grind),if_pos (by grind),if_neg (by simp [h])]
  grind
 ·by_cases h1:m < 0
  ·rw [if_pos (by grind),if_pos (by simp [h])]
   grind
  ·have:m = 0:=by grind
   subst this
   rw [if_neg (by grind),if_neg (by grind)]
   grind
theorem iV (m:Rat) (a b:Bool):okb m a b↔(m = 0∨(if asks false m = true then a else b) = true):=by
 unfold okb asks
 by_cases h:0 < m
 ·rw [if_pos (by simp [h])]
  constructor
  ·exact fun k=>.inr (k.1 h)
  ·rintro (k | k)
   ·grind
   ·exact ⟨fun _=>k,fun k2=>by grind⟩
 ·rw [if_neg (by simp [h])]
  by_cases h1:m < 0
  ·constructor
   ·exact fun k=>.inr (k.2 h1)
   ·rintro (k | k)
    ·grind
    ·exact ⟨fun k2=>absurd k2 h,fun _=>k⟩
  ·have:m = 0:=by grind
   exact ⟨fun _=>.inl this,fun _=>⟨fun k2=>absurd k2 h,fun k2=>absurd k2 h1⟩⟩
theorem iW (m:Rat) (a b:Bool):okb (-m) a b↔(m = 0∨(if asks true m = true then a else b) = true):=by
 unfold okb asks
 by_cases h:0 < m
 ·rw [if_neg (by simp [h])]
  constructor
  ·exact fun k=>.inr (k.2 (by grind))
  ·rintro (k | k)
   ·grind
   ·exact ⟨fun k2=>by grind,fun _=>k⟩
 ·rw [if_pos (by simp [h])]
  by_cases h1:m < 0
  ·constructor
   ·exact fun k=>.inr (k.1 (by grind))
   ·rintro (k | k)
    ·grind
    ·exact ⟨fun _=>k,fun k2=>by grind⟩
  ·have:m = 0:=by grind
   exact ⟨fun _=>.inl this,fun _=>⟨fun k2=>by grind,fun k2=>by grind⟩⟩
theorem uB (P:Prob) (Y:Nat→Rat) (j:Nat):lft P.turn (fun i=>-Y i) j = -lft P Y j:=by
 unfold lft
 show -(P.V j).obj - aQ (fun i=>-Y i * iR (P.R i).t (P.R i).nt (j:Int)) P.rn = _
 have:aQ (fun i=>-Y i * iR (P.R i).t (P.R i).nt (j:Int)) P.rn = -aQ (fun i=>Y i * iR (P.R i).t (P.R i).nt (j:Int)) P.rn:=by
  rw [← pU]
  exact bG fun i _=>by grind
 rw [this]
 grind
theorem aB2 {P:Prob} {Y:Nat→Rat} {i:Nat} (h:i < P.rn):prp P Y i = Y i * (if asks P.mx (Y i) = true then (P.R i).lo else (P.R i).hi):=by
 unfold prp bch mlt plo phi
 simp only [if_pos h]
theorem aB3 {P:Prob} {Y:Nat→Rat} (j:Nat):prp P Y (P.rn + j) = lft P Y j * (if asks P.mx (lft P Y j) = true then (P.V j).lo else (P.V j).hi):=by
 unfold prp bch mlt plo phi
 simp only [if_neg (show ¬ P.rn + j < P.rn by omega),Nat.add_sub_cancel_left]
theorem sF {P:Prob} {Y:Nat→Rat} {i:Nat} (h:i < P.rn):okq P Y i↔(Y i = 0∨(if asks P.mx (Y i) = true then (P.R i).hlo else (P.R i).hhi) = true):=by
 unfold okq bhas mlt phl phh
 simp only [if_pos h]
theorem sG {P:Prob} {Y:Nat→Rat} (j:Nat):okq P Y (P.rn + j)↔(lft P Y j = 0∨(if asks P.mx (lft P Y j) = true then (P.V j).hlo else (P.V j).hhi) = true):=by
 unfold okq bhas mlt phl phh
 simp only [if_neg (show ¬ P.rn + j < P.rn by omega),Nat.add_sub_cancel_left]
theorem aJ1 (P:Prob) (Y:Nat→Rat):pvS P Y = P.k + aQ (prp P Y) (P.rn + P.vn):=by
 rw [yR,bG (Y:=fun i=>Y i * (if asks P.mx (Y i) = true then (P.R i).lo else (P.R i).hi)) (fun i hi=>aB2 hi),bG (n:=P.vn) (Y:=fun j=>lft P Y j * (if asks P.mx (lft P Y j) = true then (P.V j).lo else (P.V j).hi)) (fun j _=>aB3 j)]
 unfold pvS
 by_cases hm:P.mx = true
 ·rw [if_pos hm,hm]
  have e1:aQ (fun i=>pb (-Y i) (P.R i).lo (P.R i).hi) P.rn = -aQ (fun i=>Y i * (if asks true (Y i) = true then (P.R i).lo else (P.R i).hi)) P.rn:=by
   rw [← pU]
   exact bG fun i _=>rH _ _ _
  have e2:aQ (fun j=>pb (lft P.turn (fun i=>-Y i) j) (P.V j).lo (P.V j).hi) P.vn = -aQ (fun j=>lft P Y j * (if asks true (lft P Y j) = true then (P.V j).lo else (P.V j).hi)) P.vn:=by
   rw [← pU]
   exact bG fun j _=>by rw [uB,rH]
  have e3:pv P.turn (fun i=>-Y i) = -P.k + aQ (fun i=>pb (-Y i) (P.R i).lo (P.R i).hi) P.rn + aQ (fun j=>pb (lft P.turn (fun i=>-Y i) j) (P.V j).lo (P.V j).hi) P.vn:=rfl
  rw [e3,e1,e2]
  grind
 ·rw [if_neg hm]
  have hf:P.mx = false:=by cases h:P.mx;rfl;exact absurd h hm
  rw [hf]
  unfold pv
  rw [bG (n:=P.rn) (fun i _=>rG (Y i) (P.R i).lo (P.R i).hi),bG (n:=P.vn) (fun j _=>rG (lft P Y j) (P.V j).lo (P.V j).hi),Rat.add_assoc]
theorem aB4 (P:Prob) (Y:Nat→Rat):okS P Y↔∀ q,q < P.rn + P.vn→okq P Y q:=by
 have H:okS P Y↔(∀ i,i < P.rn→okq P Y i)∧∀ j,j < P.vn→okq P Y (P.rn + j):=by
  unfold okS
  by_cases hm:P.mx = true
  ·rw [if_pos hm]
   unfold okp
   refine ⟨fun h=>⟨fun i hi=>?_,fun j hj=>?_⟩,fun h=>⟨fun i hi=>?_,fun j hj=>?_⟩⟩
   ·rw [sF hi,hm];exact (iW _ _ _).1 (h.1 i hi)
   ·rw [sG,hm]
    have h2:=h.2 j hj
    rw [uB] at h2
    exact (iW _ _ _).1 h2
   ·have h2:=h.1 i hi
    rw [sF (P:=P) hi,hm] at h2
    exact (iW _ _ _).2 h2
   ·have h2:=h.2 j hj
    rw [sG,hm] at h2
    rw [uB]
    exact (iW _ _ _).2 h2
  ·rw [if_neg hm]
   have hf:P.mx = false:=by cases h:P.mx;rfl;exact absurd h hm
   unfold okp
   refine ⟨fun h=>⟨fun i hi=>?_,fun j hj=>?_⟩,fun h=>⟨fun i hi=>?_,fun j hj=>?_⟩⟩
   ·rw [sF hi,hf];exact (iV _ _ _).1 (h.1 i hi)
   ·rw [sG,hf];exact (iV _ _ _).1 (h.2 j hj)
   ·have h2:=h.1 i hi
    rw [sF hi,hf] at h2
    exact (iV _ _ _).2 h2
   ·have h2:=h.2 j hj
    rw [sG,hf] at h2
    exact (iV _ _ _).2 h2
 rw [H]
 refine ⟨fun h q hq=>?_,fun h=>⟨fun i hi=>h i (by omega),fun j hj=>h _ (by omega)⟩⟩
 by_cases e:q < P.rn
 ·exact h.1 q e
 ·have h2:=h.2 (q - P.rn) (by omega)
  rwa [Nat.add_sub_cancel' (Nat.le_of_not_lt e)] at h2
theorem PQ.parts {w:World} {P:Prob} (hP:PQ w P) {Y:Nat→Rat} {Zy:Nat→Nat} {Ky:Nat} (hy:∀ i,i < P.rn→SzR (Y i) (Zy i)) (hty:tot Zy P.rn≤Ky) (hK:P.K≤1048576) :
 (∀ j,j < P.vn→∀ i k,(i < P.rn∧k≤(P.R i).nt∨i≤P.rn∧k = 0)→SzR (rst P Y j i k) (P.K + Ky + 4)) ∧
  ∃ E:Int,0 < E∧E < pw (P.K + P.K + Ky + 4)∧Wd (P.K + P.K + Ky + 4) E P.k∧∀ q,q < P.rn + P.vn→Wd (P.K + P.K + Ky + 4) E (prp P Y q):=by
 obtain ⟨D,Dy,d1,d2,y1,y2,⟨F,hF,f1,f2⟩,y3,d3⟩:=hP.rests hy hty hK
 refine ⟨fun j hj i k h=>(d3 j hj i k h).sz (by omega),?_⟩
 obtain ⟨Br,r1,r2,r3⟩:=Wd.list (X:=fun i=>if asks P.mx (Y i) = true then (P.R i).lo else (P.R i).hi) (Z:=P.ZR) (n:=P.rn) (K:=tot P.ZR P.rn) (fun i hi=>by
  obtain ⟨b,o,hR⟩:=hP.row hi
  show SzR (if asks P.mx (Y i) = true then (P.R i).lo else (P.R i).hi) (P.ZR i)
  split
  ·exact hR.slo
  ·exact hR.shi) (Nat.le_refl _)
 obtain ⟨Bv,v1,v2,v3⟩:=Wd.list (X:=fun j=>if asks P.mx (lft P Y j) = true then (P.V j).lo else (P.V j).hi) (Z:=P.ZV) (n:=P.vn) (K:=tot P.ZV P.vn) (fun j hj=>by
  obtain ⟨b,o,hV⟩:=hP.var hj
  show SzR (if asks P.mx (lft P Y j) = true then (P.V j).lo else (P.V j).hi) (P.ZV j)
  split
  ·exact hV.slo
  ·exact hV.shi) (Nat.le_refl _)
 have hall:=hP.all
 have hk:=Wd.self hP.sk
 have k1:=hk.1
 have k2:=hk.2.1
 generalize (P.k.den:Int) = Dk at *
 -- the numbers that are put beside
 have a1:=dN (Int.le_of_lt r1) r2 (Int.le_of_lt v1) v2
 have a0:0 < Br * Bv:=Int.mul_pos r1 v1
 have b1:=dN a1.2 a1.1 (Int.le_of_lt d1) d2
 have b0:0 < Br * Bv * D:=Int.mul_pos a0 d1
 have c1:=dN (Int.le_of_lt k1) k2 (Int.le_of_lt v1) v2
 have c0:0 < Dk * Bv:=Int.mul_pos k1 v1
 have g1:=dN c1.2 c1.1 (Int.le_of_lt f1) f2
 have g0:0 < Dk * Bv * F:=Int.mul_pos c0 f1
 have h1:=dN (Int.le_of_lt k1) k2 (Int.le_of_lt r1) r2
 have h0:0 < Dk * Br:=Int.mul_pos k1 r1
 have W1:Wd (P.K + P.K + Ky + 4) (Dk * (Br * Bv * D)) P.k:=(hk.lift b0 b1.1).up (by omega)
 refine ⟨Dk * (Br * Bv * D),W1.1,W1.2.1,W1,fun q hq=>?_⟩
 by_cases e:q < P.rn
 ·rw [aB2 e]
  have h2:=((y3 q e).mul (r3 q e)).lift g0 g1.1
  have e2:Dy * Br * (Dk * Bv * F) = Dk * (Br * Bv * D):=by rw [hF];grind
  rw [e2] at h2
  exact h2.up (by omega)
 ·obtain ⟨j,rfl⟩:∃ j,q = P.rn + j:=⟨q - P.rn,by omega⟩
  rw [aB3]
  have h3:=d3 j (by omega) P.rn 0 (.inr ⟨Nat.le_refl _,rfl⟩)
  rw [aB0] at h3
  have h2:=(h3.mul (v3 j (by omega))).lift h0 h1.1
  have e2:D * Bv * (Dk * Br) = Dk * (Br * Bv * D):=by grind
  rw [e2] at h2
  exact h2.up (by omega)
end Go.Proofs.YtnokmjmefipplaaGreatDoor

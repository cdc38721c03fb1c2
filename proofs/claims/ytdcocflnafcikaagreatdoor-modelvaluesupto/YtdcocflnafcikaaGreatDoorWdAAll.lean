import Derived.Test.YtdcocflnafcikaaGreatDoorPqEAll
import Derived.Test.YtdcocflnafcikaaGreatDoorPqGAll
namespace Go.Proofs.YtdcocflnafcikaaGreatDoor
open Go.RowKit
def vlu (P:Prob) (X:Nat→Rat):Rat:=rsum (prt P.k P.V X) (P.vn+1)
def Wd (d:Nat) (D:Int) (r:Rat):Prop:=0<D∧D<pw d∧∃ m:Int,r*(D:Rat)=(m:Rat)∧(m.natAbs:Int)<pw d
theorem Wd.sz {d:Nat} {D:Int} {r:Rat} (h:Wd d D r) (h1:1≤d):SzR r d:=by
 obtain ⟨h0,hd,m,e,hm⟩:=h
 have hD0:(D:Rat)≠0:=by
  intro e
  have:D=0:=by exact_mod_cast e
  omega
 have e2:r=Rat.divInt m D:=by rw [Rat.divInt_eq_div,← e,Rat.div_def,Rat.mul_assoc,Rat.mul_inv_cancel _ hD0,Rat.mul_one]
 rw [e2]
 exact divInt_sz hm (by omega) h1
theorem Wd.mul {d e:Nat} {D E:Int} {r s:Rat} (h:Wd d D r) (k:Wd e E s):Wd (d+e) (D*E) (r*s):=by
 obtain ⟨h1,h2,m,h3,h4⟩:=h
 obtain ⟨k1,k2,n,k3,k4⟩:=k
 refine ⟨Int.mul_pos h1 k1,(mul_pw (Int.le_of_lt h1) h2 (Int.le_of_lt k1) k2).1,m*n,?_,mul_lt h4 k4⟩
 rw [Rat.intCast_mul,Rat.intCast_mul,← h3,← k3]
 grind
theorem Wd.one {e:Nat} {E:Int} (hE:0<E) (he:E<pw e):Wd e E 1:=⟨hE,he,E,Rat.one_mul _,by omega⟩
theorem Wd.lift {d e:Nat} {D E:Int} {r:Rat} (h:Wd d D r) (hE:0<E) (he:E<pw e):Wd (d+e) (D*E) r:=by
 have h1:=h.mul (Wd.one hE he)
 rwa [Rat.mul_one] at h1
theorem Wd.lift' {d e:Nat} {D E:Int} {r:Rat} (h:Wd d D r) (hE:0<E) (he:E<pw e):Wd (e+d) (E*D) r:=by
 rw [Int.mul_comm,Nat.add_comm];exact h.lift hE he
theorem Wd.up {d e:Nat} {D:Int} {r:Rat} (h:Wd d D r) (hd:d≤e):Wd e D r:=by
 obtain ⟨h1,h2,m,h3,h4⟩:=h
 have:=pw_mono hd
 exact ⟨h1,by omega,m,h3,by omega⟩
theorem Wd.zero {d:Nat} {D:Int} (hD:0<D) (hd:D<pw d):Wd d D 0:=⟨hD,hd,0,by rw [Rat.zero_mul];rfl,by have:=pw_pos d;simpa using this⟩
theorem Wd.self {r:Rat} {T:Nat} (h:SzR r T):Wd T (r.den:Int) r:=by
 refine ⟨by have:=r.den_pos;omega,h.2,r.num,?_,h.1⟩
 have hd:(((r.den:Int)):Rat)≠0:=by
  intro e
  have e2:(r.den:Int)=0:=by exact_mod_cast e
  have:=r.den_pos
  omega
 have e1:r=(r.num:Rat)/((r.den:Int):Rat):=by rw [← Rat.divInt_eq_div,Rat.num_divInt_den]
 have e2:r*((r.den:Int):Rat)=(r.num:Rat)/((r.den:Int):Rat)*((r.den:Int):Rat):=congrArg (· * ((r.den:Int):Rat)) e1
 rw [e2,Rat.div_mul_cancel hd]
theorem Wd.sum {Y:Nat→Rat} {d n:Nat} {D:Int} (hD:0<D) (hd:D<pw d) (h:∀ i,i<n→Wd d D (Y i)) (hn:n≤18446744073709551615):∀ k,k≤n→Wd (d+1) D (rsum Y k):=by
 have H:∀ k,k≤n→∃ m:Int,rsum Y k*(D:Rat)=(m:Rat)∧(m.natAbs:Int)≤(k:Int)*pw d:=by
  intro k
  induction k with
  | zero=>intro _;exact ⟨0,by show (0:Rat)*_=_;rw [Rat.zero_mul];rfl,by simp⟩
  | succ k ih =>
   intro hk
   obtain ⟨m,h1,h2⟩:=ih (by omega)
   obtain ⟨_,_,q,h3,h4⟩:=h k (by omega)
   refine ⟨m+q,by rw [rsum_succ,Rat.add_mul,h1,h3,Rat.intCast_add],?_⟩
   rw [show (((k+1:Nat):Int)*pw d)=(k:Int)*pw d+pw d by rw [Int.natCast_add,Int.add_mul,Int.natCast_one,Int.one_mul]]
   omega
 intro k hk
 obtain ⟨m,h1,h2⟩:=H k hk
 have e:=pw_succ d
 have p:=pw_pos d
 have h3:(k:Int)*pw d≤18446744073709551615*pw d:=Int.mul_le_mul_of_nonneg_right (by omega) (Int.le_of_lt p)
 exact ⟨hD,by omega,m,h1,by omega⟩
theorem Wd.fam {Z:Nat→Nat} {D:Nat→Int} {X:Nat→Nat→Rat} {N:Nat→Nat}:∀ n,(∀ i,i<n→0<D i∧D i<pw (Z i)∧∀ k,k<N i→Wd (Z i) (D i) (X i k))→∃ E,0<E∧E<pw (tot Z n)∧∀ i,i<n→∀ k,k<N i→Wd (tot Z n) E (X i k)
 | 0,_=>⟨1,by decide,by show (1:Int)<pw 1;decide,fun i hi=>by omega⟩
 | n+1,h=>by
  obtain ⟨E,e1,e2,e3⟩:=Wd.fam n (fun i hi=>h i (by omega))
  obtain ⟨d1,d2,d3⟩:=h n (by omega)
  have q:=mul_pw (Int.le_of_lt e1) e2 (Int.le_of_lt d1) d2
  have ht:tot Z (n+1)=tot Z n+Z n+1:=rfl
  refine ⟨E*D n,Int.mul_pos e1 d1,Int.lt_of_lt_of_le q.1 (pw_mono (by omega)),fun i hi k hk=>?_⟩
  rcases (by omega:i<n∨i=n) with hl|rfl
  ·exact ((e3 i hl k hk).lift d1 d2).up (by omega)
  ·exact ((d3 k hk).lift' e1 e2).up (by omega)
theorem Wd.list {X:Nat→Rat} {Z:Nat→Nat} {n K:Nat} (h:∀ i,i<n→SzR (X i) (Z i)) (hK:tot Z n≤K):∃ D,0<D∧D<pw K∧∀ i,i<n→Wd K D (X i):=by
 obtain ⟨E,e1,e2,e3⟩:=Wd.fam (Z:=Z) (D:=fun i=>((X i).den:Int)) (X:=fun i _=>X i) (N:=fun _=>1) n (fun i hi=>⟨(Wd.self (h i hi)).1,(Wd.self (h i hi)).2.1,fun _ _=>Wd.self (h i hi)⟩)
 exact ⟨E,e1,Int.lt_of_lt_of_le e2 (pw_mono hK),fun i hi=>(e3 i hi 0 (by decide)).up hK⟩
theorem PQ.row {w:World} {P:Prob} (hP:PQ w P) {i:Nat} (hi:i<P.rn):∃ b o,RowAt w b o (P.R i) (P.ZR i):=by
 rcases hP.r with h0|⟨b,o,_,h⟩
 ·omega
 ·exact ⟨_,_,h i hi⟩
theorem PQ.var {w:World} {P:Prob} (hP:PQ w P) {j:Nat} (hj:j<P.vn):∃ b o,VarAt w b o (P.V j) (P.ZV j):=by
 rcases hP.v with h0|⟨b,o,_,h⟩
 ·omega
 ·exact ⟨_,_,h j hj⟩
end Go.Proofs.YtdcocflnafcikaaGreatDoor

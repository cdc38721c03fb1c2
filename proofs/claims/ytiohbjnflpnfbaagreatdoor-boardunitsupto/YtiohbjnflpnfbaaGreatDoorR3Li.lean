import Derived.Test.YtiohbjnflpnfbaaGreatDoorR3M
namespace Go.Proofs.YtiohbjnflpnfbaaGreatDoor
open Go.RowKit
theorem TR.up {w:World} {p:Bool} {a:Option Addr} {na ca:Nat} {d:Option Addr} {nd cd:Nat} {r:Rat} {S R:Nat} (h:TR w p a na ca d nd cd r S) (hR:S≤R):TR w p a na ca d nd cd r R:=by
 obtain ⟨x,y,⟨m,⟨xs,h1,h2,h3,h4,h5,h6⟩,h7⟩,⟨ys,g1,g2,g3,g4,g5,g6⟩,g7⟩:=h
 exact ⟨x,y,⟨m,⟨xs,h1,h2,h3,h4,h5,by omega⟩,h7⟩,⟨ys,g1,g2,g3,g4,g5,by omega⟩,g7⟩
def SzR (r:Rat) (T:Nat):Prop:=(r.num.natAbs:Int) < pw T∧(r.den:Int) < pw T
theorem SzR.le {r:Rat} {T R:Nat} (h:SzR r T) (hR:T≤R):SzR r R:=⟨Int.lt_of_lt_of_le h.1 (pw_mono hR),Int.lt_of_lt_of_le h.2 (pw_mono hR)⟩
theorem GR.fit {w:World} {B:Nat} {f:Bool} {c:Option Addr} {n k:Nat} {c':Option Addr} {n' k':Nat} {r:Rat} {S T:Nat} (h:GR w B f c n k c' n' k' r S) (hz:SzR r T):GR w B f c n k c' n' k' r T :=
 ⟨h.1.shrink hz.1,h.2.shrink hz.2⟩
theorem divInt_sz {x y:Int} {T:Nat} (hx:(x.natAbs:Int) < pw T) (hy:(y.natAbs:Int) < pw T) (hT:1≤T):SzR (Rat.divInt x y) T:=by
 have h1:(1:Int) < pw T:=by
  have:=pw_mono hT
  have e:pw 1 = 18446744073709551616:=rfl
  omega
 by_cases hy0:y = 0
 ·subst hy0
  rw [Rat.divInt_zero]
  exact ⟨by show ((0:Int).natAbs:Int) < _;simp;exact Int.lt_trans (by decide) h1,by show ((1:Nat):Int) < _;exact h1⟩
 ·rw [SzR,Rat.num_divInt,Rat.den_divInt,if_neg hy0]
  have hg:(0:Int) < ((Int.gcd y x:Nat):Int):=by
   have:0 < Int.gcd y x:=Int.gcd_pos_of_ne_zero_left _ hy0
   omega
  constructor
  ·have hs:y.sign.natAbs≤1:=by rcases Int.sign_trichotomy y with h | h | h <;> simp [h]
   have h2:(y.sign * x / ((Int.gcd y x:Nat):Int)).natAbs≤(y.sign * x).natAbs:=by
    rw [Int.natAbs_ediv_of_dvd (Int.dvd_mul_of_dvd_right (Int.gcd_dvd_right _ _))]
    exact Nat.div_le_self _ _
   have h3:(y.sign * x).natAbs≤x.natAbs:=by
    rw [Int.natAbs_mul]
    calc y.sign.natAbs * x.natAbs≤1 * x.natAbs:=Nat.mul_le_mul_right _ hs
     _ = x.natAbs:=Nat.one_mul _
   omega
  ·have:=Nat.div_le_self y.natAbs (Int.gcd y x)
   omega
theorem TR.sz {w:World} {p:Bool} {a:Option Addr} {na ca:Nat} {d:Option Addr} {nd cd:Nat} {r:Rat} {S:Nat} (h:TR w p a na ca d nd cd r S) (hS:1≤S):SzR r S:=by
 obtain ⟨x,y,hx,hy,rfl⟩:=h
 have h1:(x.natAbs:Int) < pw S:=by
  obtain ⟨m,⟨xs,e1,e2,e3,e4,e5,e6⟩,rfl⟩:=hx
  have:=val_lt e4
  have:=pw_mono (show xs.length≤S by omega)
  have h0:0≤val xs:=val_nn e4
  unfold ws
  cases p <;> simp <;> omega
 have h2:(y.natAbs:Int) < pw S:=by
  obtain ⟨xs,e1,e2,e3,e4,e5,e6⟩:=hy
  have:=val_lt e4
  have:=pw_mono (show xs.length≤S by omega)
  have h0:0≤val xs:=val_nn e4
  omega
 exact divInt_sz h1 h2 hS
def LQ (w:World) (a:Option Addr) (n:Nat) (X:Nat→Rat) (Z:Nat→Nat):Prop :=
 n = 0∨∃ b o,a = some ⟨b,o,none⟩∧∀ i,i < n→∃ p a na ca d nd cd,w.cell? ⟨b,o + i * 3,none⟩ = some (.bool p)∧w.cell? ⟨b,o + i * 3 + 1,none⟩ = some (.slice a na ca)∧w.cell? ⟨b,o + i * 3 + 2,none⟩ = some (.slice d nd cd)∧TR w p a na ca d nd cd (X i) (Z i)
theorem LQ.below {w w':World} {a:Option Addr} {n:Nat} {X:Nat→Rat} {Z:Nat→Nat} (h:LQ w a n X Z) (hb:Below w.heap.size w w'):LQ w' a n X Z:=by
 rcases h with h | ⟨b,o,rfl,h⟩
 ·exact .inl h
 ·refine .inr ⟨b,o,rfl,fun i hi=>?_⟩
  obtain ⟨p,a,na,ca,d,nd,cd,h1,h2,h3,h4⟩:=h i hi
  exact ⟨p,a,na,ca,d,nd,cd,kept_c hb h1,kept_c hb h2,kept_c hb h3,h4.below hb⟩
def rsum (X:Nat→Rat):Nat→Rat
 | 0=>0
 | n + 1=>rsum X n + X n
theorem rsum_succ (X:Nat→Rat) (n:Nat):rsum X (n + 1) = rsum X n + X n:=rfl
theorem rsum_congr {X Y:Nat→Rat} {n:Nat} (h:∀ i,i < n→X i = Y i):rsum X n = rsum Y n:=by
 induction n with
 | zero=>rfl
 | succ n ih=>rw [rsum_succ,rsum_succ,ih (fun i hi=>h i (by omega)),h n (by omega)]
theorem rsum_add (X Y:Nat→Rat) (n:Nat):rsum (fun i=>X i + Y i) n = rsum X n + rsum Y n:=by
 induction n with
 | zero=>exact (Rat.zero_add 0).symm
 | succ n ih =>
  rw [rsum_succ,rsum_succ,rsum_succ,ih,Rat.add_assoc,Rat.add_assoc]
  congr 1
  rw [← Rat.add_assoc,← Rat.add_assoc,Rat.add_comm (X n)]
theorem sz_zero {T:Nat} (hT:1≤T):SzR 0 T:=by
 have h:=divInt_sz (x:=0) (y:=1) (T:=T) (by have:=pw_pos T;simpa using this) (by have:=pw_mono hT;have e:pw 1 = 18446744073709551616:=rfl;simp;omega) hT
 rwa [Rat.zero_divInt] at h
end Go.Proofs.YtiohbjnflpnfbaaGreatDoor

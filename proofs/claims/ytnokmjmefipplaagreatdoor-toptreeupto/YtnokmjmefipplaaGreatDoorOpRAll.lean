import Derived.Test.YtnokmjmefipplaaGreatDoorR3M
import Derived.Test.YtnokmjmefipplaaGreatDoorOpAll
set_option maxRecDepth 100000
namespace Go.Proofs.YtnokmjmefipplaaGreatDoor
open Go.RowKit
theorem TR.up {w:World} {p:Bool} {a:Option Addr} {na ca:Nat} {d:Option Addr} {nd cd:Nat} {r:Rat} {S R:Nat} (h:TR w p a na ca d nd cd r S) (hR:S≤R):TR w p a na ca d nd cd r R:=by
 obtain ⟨x,y,⟨m,⟨xs,h1,h2,h3,h4,h5,h6⟩,h7⟩,⟨ys,g1,g2,g3,g4,g5,g6⟩,g7⟩:=h
 exact ⟨x,y,⟨m,⟨xs,h1,h2,h3,h4,h5,by omega⟩,h7⟩,⟨ys,g1,g2,g3,g4,g5,by omega⟩,g7⟩
def SzR (r:Rat) (T:Nat):Prop:=(r.num.natAbs:Int) < pw T∧(r.den:Int) < pw T
theorem SzR.le {r:Rat} {T R:Nat} (h:SzR r T) (hR:T≤R):SzR r R:=⟨Int.lt_of_lt_of_le h.1 (bF hR),Int.lt_of_lt_of_le h.2 (bF hR)⟩
theorem GR.fit {w:World} {B:Nat} {f:Bool} {c:Option Addr} {n k:Nat} {c':Option Addr} {n' k':Nat} {r:Rat} {S T:Nat} (h:GR w B f c n k c' n' k' r S) (hz:SzR r T):GR w B f c n k c' n' k' r T :=
 ⟨h.1.shrink hz.1,h.2.shrink hz.2⟩
theorem qM {x y:Int} {T:Nat} (hx:(x.natAbs:Int) < pw T) (hy:(y.natAbs:Int) < pw T) (hT:1≤T):SzR (Rat.divInt x y) T:=by
 have h1:(1:Int) < pw T:=by
  have:=bF hT
  have e:pw 1 = 18446744073709551616:=rfl
  omega
 by_cases hy0:y = 0
 ·subst hy0
  rw [Rat.divInt_zero]
  exact ⟨by show ((0:Int).natAbs:Int) < _;simp;exact Int.lt_trans (by decide) h1,by show ((1:Nat):Int) < _;exact h1⟩
 ·rw [SzR,Rat.num_divInt,Rat.den_divInt,if_neg hy0]
  have hg:(0:Int) < ((Int.gcd y x:Nat):Int):=by
   have:0 < Int.gcd y x:=Int.gcd_pos_of_ne_zero_left _ hy0
   omega
  constructor
  ·have hs:y.sign.natAbs≤1:=by rcases Int.sign_trichotomy y with h | h | h <;> simp [h]
   have h2:(y.sign * x / ((Int.gcd y x:Nat):Int)).natAbs≤(y.sign * x).natAbs:=by
    rw [Int.natAbs_ediv_of_dvd (Int.dvd_mul_of_dvd_right (Int.gcd_dvd_right _ _))]
    exact Nat.div_le_self _ _
   have h3:(y.sign * x).natAbs≤x.natAbs:=by
    rw [Int.natAbs_mul]
    calc y.sign.natAbs * x.natAbs≤1 * x.natAbs:=Nat.mul_le_mul_right _ hs
     _ = x.natAbs:=Nat.one_mul _
   omega
  ·have:=Nat.div_le_self y.natAbs (Int.gcd y x)
   omega
theorem TR.sz {w:World} {p:Bool} {a:Option Addr} {na ca:Nat} {d:Option Addr} {nd cd:Nat} {r:Rat} {S:Nat} (h:TR w p a na ca d nd cd r S) (hS:1≤S):SzR r S:=by
 obtain ⟨x,y,hx,hy,rfl⟩:=h
 have h1:(x.natAbs:Int) < pw S:=by
  obtain ⟨m,⟨xs,e1,e2,e3,e4,e5,e6⟩,rfl⟩:=hx
  have:=gY e4
  have:=bF (show xs.length≤S by omega)
  have h0:0≤val xs:=gX e4
  unfold ws
  cases p <;> simp <;> omega
 have h2:(y.natAbs:Int) < pw S:=by
  obtain ⟨xs,e1,e2,e3,e4,e5,e6⟩:=hy
  have:=gY e4
  have:=bF (show xs.length≤S by omega)
  have h0:0≤val xs:=gX e4
  omega
 exact qM h1 h2 hS
def LQ (w:World) (a:Option Addr) (n:Nat) (X:Nat→Rat) (Z:Nat→Nat):Prop :=
 n = 0∨∃ b o,a = some ⟨b,o,none⟩∧∀ i,i < n→∃ p a na ca d nd cd,w.cell? ⟨b,o + i * 3,none⟩ = some (.bool p)∧w.cell? ⟨b,o + i * 3 + 1,none⟩ = some (.slice a na ca)∧w.cell? ⟨b,o + i * 3 + 2,none⟩ = some (.slice d nd cd)∧TR w p a na ca d nd cd (X i) (Z i)
theorem LQ.below {w w':World} {a:Option Addr} {n:Nat} {X:Nat→Rat} {Z:Nat→Nat} (h:LQ w a n X Z) (hb:Below w.heap.size w w'):LQ w' a n X Z:=by
 rcases h with h | ⟨b,o,rfl,h⟩
 ·exact .inl h
 ·refine .inr ⟨b,o,rfl,fun i hi=>?_⟩
  obtain ⟨p,a,na,ca,d,nd,cd,h1,h2,h3,h4⟩:=h i hi
  exact ⟨p,a,na,ca,d,nd,cd,aF hb h1,aF hb h2,aF hb h3,h4.below hb⟩
def aQ (X:Nat→Rat):Nat→Rat
 | 0=>0
 | n + 1=>aQ X n + X n
theorem aS (X:Nat→Rat) (n:Nat):aQ X (n + 1) = aQ X n + X n:=rfl
theorem bG {X Y:Nat→Rat} {n:Nat} (h:∀ i,i < n→X i = Y i):aQ X n = aQ Y n:=by
 induction n with
 | zero=>rfl
 | succ n ih=>rw [aS,aS,ih (fun i hi=>h i (by omega)),h n (by omega)]
theorem rsum_mul (X:Nat→Rat) (k:Rat) (n:Nat):aQ (fun i=>X i * k) n = aQ X n * k:=by
 induction n with
 | zero=>exact (Rat.zero_mul k).symm
 | succ n ih=>rw [aS,aS,ih,Rat.add_mul]
theorem pI (X Y:Nat→Rat) (n:Nat):aQ (fun i=>X i + Y i) n = aQ X n + aQ Y n:=by
 induction n with
 | zero=>exact (Rat.zero_add 0).symm
 | succ n ih =>
  rw [aS,aS,aS,ih,Rat.add_assoc,Rat.add_assoc]
  congr 1
  rw [← Rat.add_assoc,← Rat.add_assoc,Rat.add_comm (X n)]
def tot (Z:Nat→Nat):Nat→Nat
 | 0=>1
 | n + 1=>tot Z n + Z n + 1
theorem bJ (Z:Nat→Nat) (n:Nat):1≤tot Z n:=by
 induction n with
 | zero=>exact Nat.le_refl _
 | succ n ih=>show 1≤tot Z n + Z n + 1;omega
theorem pJ (Z:Nat→Nat) {k n:Nat} (h:k≤n):tot Z k≤tot Z n:=by
 induction n with
 | zero =>
  obtain rfl:k = 0:=by omega
  exact Nat.le_refl _
 | succ n ih =>
  rcases (by omega:k = n + 1∨k≤n) with rfl | h2
  ·exact Nat.le_refl _
  ·have:=ih h2
   show _≤tot Z n + Z n + 1
   omega
theorem tot_one {Z:Nat→Nat} {n i:Nat} (h:i < n):Z i + 1≤tot Z n:=by
 have:=pJ Z (show i + 1≤n from h)
 have e:tot Z (i + 1) = tot Z i + Z i + 1:=rfl
 have:=bJ Z i
 omega
end Go.Proofs.YtnokmjmefipplaaGreatDoor
namespace Go.Proofs.YtnokmjmefipplaaGreatDoor
open Go.ChangeShapes Go.WideShapes Go.ChangeAt Go.RowKit
theorem qN {H:Type} {enc:TypeId × Value→H} {W:World} {fuel:Nat} {u:Value} {x:DataW H × List MemPlace}
 (hf:DataW.trod enc Tryz.prog W 0 (fun _=>true) true fuel 23 [u] = some x) {K:Nat} (hk:Rows.uptoBulk x.1≤K) :
 ∃ a n cap xs,u = .slice a n cap∧n = xs.length∧n≤cap∧Reads W a xs∧AllW xs∧n≤K:=by
 rcases open_ints Tryz.underlying23 Tryz.underlying80 cellsU64 hf with ⟨hcs,_⟩ | ⟨p,n,c,zs,hcs,_,hl,hm,hz,hx,hcell,hwz⟩
 ·simp only [List.cons.injEq,and_true] at hcs
  exact ⟨_,_,_,[],hcs,rfl,Nat.le_refl _,.inl rfl,AllW.nil,Nat.zero_le _⟩
 ·simp only [List.cons.injEq,and_true] at hcs
  simp only [if_true] at hz
  rw [hx] at hk
  have hlen:(zs.take n).length = n:=by rw [List.length_take];omega
  have hb:n≤K:=by
   have:=tV (H:=H) (lits .u64 (zs.take n)) (lits .u64 (zs.drop n))
   have hk2:Rows.uptoBulk (H:=H) (.slice (lits .u64 (zs.take n)) (lits .u64 (zs.drop n)))≤K:=hk
   have e1:(lits (H:=H) .u64 (zs.take n)).length = (zs.take n).length:=by simp [lits]
   omega
  refine ⟨_,_,_,zs.take n,hcs,hlen.symm,hl,?_,?_,hb⟩
  ·by_cases h0:n = 0
   ·exact .inl (by simp [h0])
   ·obtain ⟨b,o,spot⟩:=p
    have hc:=hcell 0 (by omega)
    have hspot:spot = none:=by simpa [Addr.add] using World.cell?_spot hc
    subst hspot
    refine .inr ⟨b,o,rfl,fun i hi=>?_⟩
    rw [fB (by omega)]
    have:=hcell i (by omega)
    by_cases hi0:i = 0
    ·subst hi0;simpa [Addr.add,lm] using this
    ·simpa [Addr.add,lm,hi0] using this
  ·intro y hy
   have:=hwz y (List.mem_of_mem_take hy)
   simp [Lit.wf,IntKind.min,IntKind.max,IntKind.signed,IntKind.bits] at this
   exact ⟨by omega,by omega⟩
theorem iZ {H:Type} {enc:TypeId × Value→H} {W:World} {fuel:Nat} {cs:List Value} {x:DataW H × List MemPlace} (hsz:cs.length = 3)
 (hf:DataW.trod enc Tryz.prog W 0 (fun _=>true) true fuel 27 cs = some x) :
 ∃ b a n cap a' n' cap' r,cs = [.bool b,.slice a n cap,.slice a' n' cap']∧TR W b a n cap a' n' cap' r (Rows.uptoBulk x.1 - 1)∧2≤Rows.uptoBulk x.1:=by
 obtain ⟨y0,y1,m,hx,_,hy0,hy1⟩:=trod_struct2 Tryz.underlying27 hf
 match cs,hsz with
 | [u0,u1,u2],_ =>
  simp only [yJ,qL,List.drop_zero,List.drop_succ_cons,List.take_succ_cons,List.take_zero] at hy0 hy1
  have hd:x.1 = .agg [y0.1,y1.1]:=by rw [hx]
  obtain ⟨z0,z1,m',hx',_,hz0,hz1⟩:=trod_struct2 Tryz.underlying25 hy0
  simp only [iY,qL,List.drop_zero,List.drop_succ_cons,List.take_succ_cons,List.take_zero] at hz0 hz1
  have hd':y0.1 = .agg [z0.1,z1.1]:=by rw [hx']
  have hB:Rows.uptoBulk x.1 = Rows.uptoBulk y0.1 + (Rows.uptoBulk y1.1 + 0) + 1:=by rw [hd];simp only [Rows.uptoBulk,Rows.uptoBulkAll]
  have hB':Rows.uptoBulk y0.1 = Rows.uptoBulk z0.1 + (Rows.uptoBulk z1.1 + 0) + 1:=by rw [hd'];simp only [Rows.uptoBulk,Rows.uptoBulkAll]
  obtain ⟨a,n,cap,xs,rfl,h1,h2,h3,h4,h5⟩:=qN hz1 (Nat.le_refl _)
  obtain ⟨a',n',cap',ys,rfl,k1,k2,k3,k4,k5⟩:=qN hy1 (Nat.le_refl _)
  have hbool:∃ b,u0 = .bool b:=by
   cases m' with
   | zero=>simp [DataW.trod] at hz0
   | succ m' =>
    simp only [DataW.trod,Tryz.underlying4] at hz0
    cases u0 <;> simp_all
  obtain ⟨b,rfl⟩:=hbool
  exact ⟨b,a,n,cap,a',n',cap',_,rfl,⟨_,_,⟨_,⟨xs,h1,h2,h3,h4,rfl,by omega⟩,rfl⟩,⟨ys,k1,k2,k3,k4,rfl,by omega⟩,rfl⟩,by omega⟩
theorem open_ratB {H:Type} {enc:TypeId × Value→H} {W:World} {base:Nat} {v:Value} {d:DataW H} {p:List MemPlace} (hv:Value.okWide Tryz.prog W .any base 27 v)
 (h:DataW.Trod enc Tryz.prog W 0 (fun _=>true) true 27 v d p) :
 ∃ b a n cap a' n' cap' r,v = .agg #[.bool b,.slice a n cap,.slice a' n' cap']∧TR W b a n cap a' n' cap' r (Rows.uptoBulk d - 1)∧2≤Rows.uptoBulk d:=by
 obtain ⟨cs,rfl,hsz⟩:=okWide_struct Tryz.underlying27 hv
 obtain ⟨fuel,hf⟩:=h
 rw [gJ] at hsz
 obtain ⟨l⟩:=cs
 obtain ⟨b,a,n,cap,a',n',cap',r,e,hT,h2⟩:=iZ (cs:=l) (x:=(d,p)) (by simpa using hsz) (by simpa [Value.cells] using hf)
 subst e
 exact ⟨b,a,n,cap,a',n',cap',r,rfl,hT,h2⟩
def bW {H:Type} (l:List (DataW H)) (i:Nat):Nat:=match l[i]? with
 | some d=>Rows.uptoBulk d - 1
 | none=>0
theorem bulk_take {H:Type} (l:List (DataW H)) (n:Nat):Rows.uptoBulkAll (l.take n)≤Rows.uptoBulkAll l:=by
 induction l generalizing n with
 | nil=>simp
 | cons x r ih =>
  cases n with
  | zero=>simp [Rows.uptoBulkAll]
  | succ n=>simp only [List.take_succ_cons,Rows.uptoBulkAll];have:=ih n;omega
theorem bulk_snoc {H:Type} (l:List (DataW H)) (d:DataW H):Rows.uptoBulkAll (l ++ [d]) = Rows.uptoBulkAll l + Rows.uptoBulk d:=by
 induction l with
 | nil=>simp [Rows.uptoBulkAll]
 | cons x r ih=>simp only [List.cons_append,Rows.uptoBulkAll,ih];omega
theorem yK {H:Type} (l:List (DataW H)) (h:∀ d ∈ l,1≤Rows.uptoBulk d) (n:Nat) (hn:n≤l.length):tot (bW l) n≤Rows.uptoBulkAll (l.take n) + 1:=by
 induction n with
 | zero=>simp [tot,Rows.uptoBulkAll]
 | succ n ih =>
  have hlt:n < l.length:=hn
  have h1:=ih (by omega)
  have h2:=h l[n] (List.getElem_mem hlt)
  rw [List.take_succ_eq_append_getElem hlt,bulk_snoc]
  show tot (bW l) n + bW l n + 1≤_
  have e:bW l n = Rows.uptoBulk l[n] - 1:=by unfold bW;rw [List.getElem?_eq_getElem hlt]
  omega
theorem open_rats {H:Type} {enc:TypeId × Value→H} {W:World} {base:Nat} {v:Value} {d:DataW H} {p:List MemPlace} (hv:Value.okWide Tryz.prog W .any base 32 v)
 (h:DataW.Trod enc Tryz.prog W 0 (fun _=>true) true 32 v d p) :
 ∃ a m cap X Z,v = .slice a m cap∧m≤cap∧m≤Rows.uptoBulk d∧LQ W a m X Z∧(∀ i,i < m→1≤Z i∧SzR (X i) (Z i))∧tot Z m≤Rows.uptoBulk d:=by
 obtain ⟨a,m,cap,rfl⟩:=okWide_slice Tryz.underlying32 hv
 obtain ⟨fuel,hf⟩:=h
 rcases DataW.trod_slice Tryz.underlying32 hf with ⟨hcs,hx⟩ | ⟨ad,len,cap',elems,rest,n,_,hcs,hx,_,hl,_,hlen,hel,_⟩
 ·simp [Value.cells] at hcs
  obtain ⟨rfl,rfl,rfl⟩:=hcs
  refine ⟨_,_,_,fun _=>0,fun _=>0,rfl,Nat.le_refl _,Nat.zero_le _,.inl rfl,fun i hi=>by omega,?_⟩
  exact iK d
 ·simp [Value.cells] at hcs
  obtain ⟨rfl,rfl,rfl⟩:=hcs
  simp only [Prod.mk.injEq] at hx
  obtain ⟨rfl,_⟩:=hx
  have hb:=tV (elems.map (·.1)) (rest.map (·.1))
  simp only [List.length_map] at hb
  have key:∀ j,j < m→∃ cs y,elems[j]? = some y∧cs.length = 3∧(∀ i u,cs[i]? = some u→W.cell? ((ad.add (j * 3)).add i) = some u)∧DataW.trod enc Tryz.prog W 0 (fun _=>true) true n 27 cs = some y:=by
   intro j hj
   have hE:=hel j hj
   rw [gJ,List.getElem?_eq_getElem (by omega)] at hE
   simp only [Option.bind_eq_some_iff] at hE
   obtain ⟨c1,hc1,hy1⟩:=hE
   obtain ⟨_,hlen1,hcell1⟩:=World.cells?_some hc1
   refine ⟨c1,_,List.getElem?_eq_getElem (by omega),hlen1,fun i u hu=>?_,hy1⟩
   have hi:i < c1.length:=(List.getElem?_eq_some_iff.1 hu).1
   rw [hcell1 i (by omega)];exact hu
  have key2:∀ j,j < m→∃ b a n cap a' n' cap' r y,elems[j]? = some y∧W.cell? (ad.add (j * 3)) = some (.bool b)∧W.cell? ((ad.add (j * 3)).add 1) = some (.slice a n cap)∧W.cell? ((ad.add (j * 3)).add 2) = some (.slice a' n' cap')∧TR W b a n cap a' n' cap' r (Rows.uptoBulk y.1 - 1)∧2≤Rows.uptoBulk y.1:=by
   intro j hj
   obtain ⟨cs,y,hy,hc3,hcell,htr⟩:=key j hj
   obtain ⟨b,a,n,cap,a',n',cap',r,rfl,hTR,h2⟩:=iZ hc3 htr
   refine ⟨b,a,n,cap,a',n',cap',r,y,hy,?_,hcell 1 _ rfl,hcell 2 _ rfl,hTR,h2⟩
   have:=hcell 0 _ rfl
   simpa [Addr.add] using this
  have hX:∃ X:Nat→Rat,∀ j,j < m→∃ b a n cap a' n' cap' y,elems[j]? = some y∧W.cell? (ad.add (j * 3)) = some (.bool b)∧W.cell? ((ad.add (j * 3)).add 1) = some (.slice a n cap)∧W.cell? ((ad.add (j * 3)).add 2) = some (.slice a' n' cap')∧TR W b a n cap a' n' cap' (X j) (Rows.uptoBulk y.1 - 1)∧2≤Rows.uptoBulk y.1:=by
   refine ⟨fun j=>if h:j < m then (key2 j h).choose_spec.choose_spec.choose_spec.choose_spec.choose_spec.choose_spec.choose_spec.choose else 0,fun j hj=>?_⟩
   simp only [dif_pos hj]
   exact ⟨_,_,_,_,_,_,_,(key2 j hj).choose_spec.choose_spec.choose_spec.choose_spec.choose_spec.choose_spec.choose_spec.choose_spec⟩
  obtain ⟨X,hX⟩:=hX
  have hZ:∀ j y,elems[j]? = some y→bW (elems.map (·.1)) j = Rows.uptoBulk y.1 - 1:=by
   intro j y hy
   unfold bW
   rw [List.getElem?_map,hy];rfl
  refine ⟨_,m,_,X,bW (elems.map (·.1)),rfl,hl,by omega,?_,fun i hi=>?_,?_⟩
  ·rcases Nat.eq_zero_or_pos m with h0 | h0
   ·exact .inl h0
   ·right
    obtain ⟨b,o,spot⟩:=ad
    have hspot:spot = none:=by
     obtain ⟨_,_,_,_,_,_,_,_,_,hc,_⟩:=hX 0 h0
     simpa [Addr.add] using World.cell?_spot hc
    subst hspot
    refine ⟨b,o,rfl,fun j hj=>?_⟩
    obtain ⟨b1,a1,n1,c1,a2,n2,c2,y,hy,e0,e1,e2,hTR,_⟩:=hX j hj
    have g0:(Addr.mk b o none).add (j * 3) = ⟨b,o + j * 3,none⟩:=by
     rcases Nat.eq_zero_or_pos j with rfl | hj0
     ·simp [Addr.add]
     ·simp [Addr.add];omega
    rw [g0] at e0 e1 e2
    refine ⟨b1,a1,n1,c1,a2,n2,c2,e0,?_,?_,by rw [hZ j y hy];exact hTR⟩
    ·simpa [Addr.add] using e1
    ·simpa [Addr.add] using e2
  ·obtain ⟨b1,a1,n1,c1,a2,n2,c2,y,hy,e0,e1,e2,hTR,h2⟩:=hX i hi
   rw [hZ i y hy]
   exact ⟨by omega,hTR.sz (by omega)⟩
  ·have h1:=yK (elems.map (·.1)) (fun d _=>iK d) m (by simp;omega)
   have h3:=bulk_take (elems.map (·.1)) m
   simp only [Rows.uptoBulk]
   omega
theorem trod_rats {H:Type} {enc:TypeId × Value→H} {W W':World} {v:Value} {d:DataW H} {p:List MemPlace} (h:DataW.Trod enc Tryz.prog W 0 (fun _=>true) true 32 v d p) (bel:Below W.heap.size W W') :
 DataW.Trod enc Tryz.prog W' 0 (fun b=>decide (b < W.heap.size)) true 32 v d p :=
 Below.trod laidOut (by kernel_rfl) (of_decide_eq_true (by kernel_rfl)) h bel (jQ h)
end Go.Proofs.YtnokmjmefipplaaGreatDoor
namespace Go.Proofs.YtnokmjmefipplaaGreatDoor
open Go.ChangeShapes Go.WideShapes Go.ChangeAt Go.RowKit
structure PV where
 nm:ByteArray
 obj:Rat
 hlo:Bool
 lo:Rat
 hhi:Bool
 hi:Rat
 whole:Bool
structure PT where
 var:Int
 coef:Rat
structure PW where
 nm:ByteArray
 nt:Nat
 t:Nat→PT
 hlo:Bool
 lo:Rat
 hhi:Bool
 hi:Rat
def C3 (w:World) (b o:Nat) (r:Rat) (S:Nat):Prop :=
 ∃ p a na ca d nd cd,w.cell? ⟨b,o,none⟩ = some (.bool p)∧w.cell? ⟨b,o + 1,none⟩ = some (.slice a na ca)∧w.cell? ⟨b,o + 2,none⟩ = some (.slice d nd cd)∧TR w p a na ca d nd cd r S
theorem C3.below {w w':World} {b o:Nat} {r:Rat} {S:Nat} (h:C3 w b o r S) (hb:Below w.heap.size w w'):C3 w' b o r S:=by
 obtain ⟨p,a,na,ca,d,nd,cd,h1,h2,h3,h4⟩:=h
 exact ⟨p,a,na,ca,d,nd,cd,aF hb h1,aF hb h2,aF hb h3,h4.below hb⟩
def TermAt (w:World) (b o:Nat) (t:PT) (S:Nat):Prop:=w.cell? ⟨b,o,none⟩ = some (.int .i64 t.var)∧C3 w b (o + 1) t.coef S∧1≤S∧SzR t.coef S∧-9223372036854775808≤t.var∧t.var≤9223372036854775807
theorem TermAt.below {w w':World} {b o:Nat} {t:PT} {S:Nat} (h:TermAt w b o t S) (hb:Below w.heap.size w w'):TermAt w' b o t S:=⟨aF hb h.1,h.2.1.below hb,h.2.2⟩
def LT (w:World) (a:Option Addr) (n:Nat) (t:Nat→PT) (Z:Nat→Nat):Prop :=
 n = 0∨∃ b o,a = some ⟨b,o,none⟩∧∀ i,i < n→TermAt w b (o + i * 4) (t i) (Z i)
theorem LT.below {w w':World} {a:Option Addr} {n:Nat} {t:Nat→PT} {Z:Nat→Nat} (h:LT w a n t Z) (hb:Below w.heap.size w w'):LT w' a n t Z:=by
 rcases h with h | ⟨b,o,rfl,h⟩
 ·exact .inl h
 ·exact .inr ⟨b,o,rfl,fun i hi=>(h i hi).below hb⟩
structure VarAt (w:World) (b o:Nat) (v:PV) (S:Nat):Prop where
 nm:w.cell? ⟨b,o,none⟩ = some (.string v.nm)
 obj:C3 w b (o + 1) v.obj S
 hlo:w.cell? ⟨b,o + 4,none⟩ = some (.bool v.hlo)
 lo:C3 w b (o + 5) v.lo S
 hhi:w.cell? ⟨b,o + 8,none⟩ = some (.bool v.hhi)
 hi:C3 w b (o + 9) v.hi S
 whole:w.cell? ⟨b,o + 12,none⟩ = some (.bool v.whole)
 s1:1≤S
 sobj:SzR v.obj S
 slo:SzR v.lo S
 shi:SzR v.hi S
 snm:v.nm.size≤S
theorem VarAt.below {w w':World} {b o:Nat} {v:PV} {S:Nat} (h:VarAt w b o v S) (hb:Below w.heap.size w w'):VarAt w' b o v S :=
 ⟨aF hb h.nm,h.obj.below hb,aF hb h.hlo,h.lo.below hb,aF hb h.hhi,h.hi.below hb,aF hb h.whole,h.s1,h.sobj,h.slo,h.shi,h.snm⟩
def LV (w:World) (a:Option Addr) (n:Nat) (V:Nat→PV) (Z:Nat→Nat):Prop :=
 n = 0∨∃ b o,a = some ⟨b,o,none⟩∧∀ i,i < n→VarAt w b (o + i * 13) (V i) (Z i)
theorem LV.below {w w':World} {a:Option Addr} {n:Nat} {V:Nat→PV} {Z:Nat→Nat} (h:LV w a n V Z) (hb:Below w.heap.size w w'):LV w' a n V Z:=by
 rcases h with h | ⟨b,o,rfl,h⟩
 ·exact .inl h
 ·exact .inr ⟨b,o,rfl,fun i hi=>(h i hi).below hb⟩
structure RowAt (w:World) (b o:Nat) (r:PW) (S:Nat):Prop where
 nm:w.cell? ⟨b,o,none⟩ = some (.string r.nm)
 terms:∃ a cap Z,w.cell? ⟨b,o + 1,none⟩ = some (.slice a r.nt cap)∧LT w a r.nt r.t Z∧tot Z r.nt≤S∧r.nt≤cap
 hlo:w.cell? ⟨b,o + 2,none⟩ = some (.bool r.hlo)
 lo:C3 w b (o + 3) r.lo S
 hhi:w.cell? ⟨b,o + 6,none⟩ = some (.bool r.hhi)
 hi:C3 w b (o + 7) r.hi S
 s1:1≤S
 slo:SzR r.lo S
 shi:SzR r.hi S
 snm:r.nm.size≤S
theorem RowAt.below {w w':World} {b o:Nat} {r:PW} {S:Nat} (h:RowAt w b o r S) (hb:Below w.heap.size w w'):RowAt w' b o r S:=by
 obtain ⟨a,cap,Z,h1,h2,h3⟩:=h.terms
 exact ⟨aF hb h.nm,⟨a,cap,Z,aF hb h1,h2.below hb,h3⟩,aF hb h.hlo,h.lo.below hb,aF hb h.hhi,h.hi.below hb,h.s1,h.slo,h.shi,h.snm⟩
def LW (w:World) (a:Option Addr) (n:Nat) (R:Nat→PW) (Z:Nat→Nat):Prop :=
 n = 0∨∃ b o,a = some ⟨b,o,none⟩∧∀ i,i < n→RowAt w b (o + i * 10) (R i) (Z i)
theorem LW.below {w w':World} {a:Option Addr} {n:Nat} {R:Nat→PW} {Z:Nat→Nat} (h:LW w a n R Z) (hb:Below w.heap.size w w'):LW w' a n R Z:=by
 rcases h with h | ⟨b,o,rfl,h⟩
 ·exact .inl h
 ·exact .inr ⟨b,o,rfl,fun i hi=>(h i hi).below hb⟩
section
variable {H:Type} {enc:TypeId × Value→H} {W:World}
theorem tX:Tryz.prog.cellsOf 43 = 4:=by kernel_rfl
theorem cellsTerm:Tryz.prog.cellsOf 100 = 4:=by kernel_rfl
theorem cellsVar:Tryz.prog.cellsOf 45 = 13:=by kernel_rfl
theorem cellsRow:Tryz.prog.cellsOf 72 = 10:=by kernel_rfl
theorem wO:Tryz.prog.cellsOf 31 = 7:=by kernel_rfl
theorem tY:Tryz.prog.cellsOf 9 = 1:=by kernel_rfl
theorem nG:Tryz.prog.cellsOf 3 = 1:=by kernel_rfl
theorem cellsTerms:Tryz.prog.cellsOf 70 = 1:=by kernel_rfl
theorem cellsVars:Tryz.prog.cellsOf 28 = 1:=by kernel_rfl
theorem cellsRows:Tryz.prog.cellsOf 29 = 1:=by kernel_rfl
theorem kT {P:Program} {t:TypeId} {f0 f1 f2 f3 f4:Field} {fuel:Nat} {cs:List Value} {x:DataW H × List MemPlace} (ht:P.underlying t = some (.struct #[f0,f1,f2,f3,f4])) (h:DataW.trod enc P W 0 (fun _=>true) true fuel t cs = some x) :
 ∃ y0 y1 y2 y3 y4 n,x.1 = .agg [y0.1,y1.1,y2.1,y3.1,y4.1]∧DataW.trod enc P W 0 (fun _=>true) true n f0.type ((cs.drop f0.offset).take (P.cellsOf f0.type)) = some y0 ∧
  DataW.trod enc P W 0 (fun _=>true) true n f1.type ((cs.drop f1.offset).take (P.cellsOf f1.type)) = some y1∧DataW.trod enc P W 0 (fun _=>true) true n f2.type ((cs.drop f2.offset).take (P.cellsOf f2.type)) = some y2 ∧
  DataW.trod enc P W 0 (fun _=>true) true n f3.type ((cs.drop f3.offset).take (P.cellsOf f3.type)) = some y3∧DataW.trod enc P W 0 (fun _=>true) true n f4.type ((cs.drop f4.offset).take (P.cellsOf f4.type)) = some y4:=by
 obtain ⟨xs,n,_,rfl,hl,hlen,hf⟩:=DataW.trod_struct ht h
 match xs,hlen with
 | [y0,y1,y2,y3,y4],_=>exact ⟨y0,y1,y2,y3,y4,n,by simp,by simpa using hf 0 f0 rfl,by simpa using hf 1 f1 rfl,by simpa using hf 2 f2 rfl,by simpa using hf 3 f3 rfl,by simpa using hf 4 f4 rfl⟩
theorem uT {P:Program} {t:TypeId} {f0 f1 f2 f3:Field} {fuel:Nat} {cs:List Value} {x:DataW H × List MemPlace} (ht:P.underlying t = some (.struct #[f0,f1,f2,f3])) (h:DataW.trod enc P W 0 (fun _=>true) true fuel t cs = some x) :
 ∃ y0 y1 y2 y3 n,x.1 = .agg [y0.1,y1.1,y2.1,y3.1]∧DataW.trod enc P W 0 (fun _=>true) true n f0.type ((cs.drop f0.offset).take (P.cellsOf f0.type)) = some y0 ∧
  DataW.trod enc P W 0 (fun _=>true) true n f1.type ((cs.drop f1.offset).take (P.cellsOf f1.type)) = some y1∧DataW.trod enc P W 0 (fun _=>true) true n f2.type ((cs.drop f2.offset).take (P.cellsOf f2.type)) = some y2 ∧
  DataW.trod enc P W 0 (fun _=>true) true n f3.type ((cs.drop f3.offset).take (P.cellsOf f3.type)) = some y3:=by
 obtain ⟨xs,n,_,rfl,hl,hlen,hf⟩:=DataW.trod_struct ht h
 match xs,hlen with
 | [y0,y1,y2,y3],_=>exact ⟨y0,y1,y2,y3,n,by simp,by simpa using hf 0 f0 rfl,by simpa using hf 1 f1 rfl,by simpa using hf 2 f2 rfl,by simpa using hf 3 f3 rfl⟩
theorem iL {fuel:Nat} {u:Value} {x:DataW H × List MemPlace} {T E:TypeId} {c:Nat} (hT:Tryz.prog.underlying T = some (.slice E)) (hE:Tryz.prog.cellsOf E = c) (hc:0 < c)
 (hf:DataW.trod enc Tryz.prog W 0 (fun _=>true) true fuel T [u] = some x) :
 ∃ a m cap,∃ ys:List (DataW H),u = .slice a m cap∧m≤cap∧ys.length = m∧Rows.uptoBulkAll ys + 1≤Rows.uptoBulk x.1 ∧
  (m = 0∨∃ b o,a = some ⟨b,o,none⟩∧∀ j,j < m→∃ cs n y,ys[j]? = some y.1∧cs.length = c∧(∀ i v,cs[i]? = some v→W.cell? ⟨b,o + j * c + i,none⟩ = some v)∧DataW.trod enc Tryz.prog W 0 (fun _=>true) true n E cs = some y):=by
 rcases DataW.trod_slice hT hf with ⟨hcs,hx⟩ | ⟨ad,len,cap',elems,rest,n,_,hcs,hx,_,hl,_,hlen,hel,_⟩
 ·simp only [List.cons.injEq,and_true] at hcs
  subst hcs hx
  exact ⟨_,_,_,[],rfl,Nat.le_refl _,rfl,by simp [Rows.uptoBulkAll,Rows.uptoBulk],.inl rfl⟩
 ·simp only [List.cons.injEq,and_true] at hcs
  subst hcs hx
  refine ⟨_,_,_,elems.map (·.1),rfl,hl,by simpa using hlen,by simp only [Rows.uptoBulk];omega,?_⟩
  rcases Nat.eq_zero_or_pos len with h0 | h0
  ·exact .inl h0
  ·right
   rw [hE] at hel
   have key:∀ j,j < len→∃ cs y,elems[j]? = some y∧cs.length = c∧(∀ i u,cs[i]? = some u→W.cell? ((ad.add (j * c)).add i) = some u)∧DataW.trod enc Tryz.prog W 0 (fun _=>true) true n E cs = some y:=by
    intro j hj
    have hE:=hel j hj
    rw [List.getElem?_eq_getElem (by omega)] at hE
    simp only [Option.bind_eq_some_iff] at hE
    obtain ⟨c1,hc1,hy1⟩:=hE
    obtain ⟨_,hlen1,hcell1⟩:=World.cells?_some hc1
    refine ⟨c1,_,List.getElem?_eq_getElem (by omega),hlen1,fun i u hu=>?_,hy1⟩
    have hi:i < c1.length:=(List.getElem?_eq_some_iff.1 hu).1
    rw [hcell1 i (by omega)];exact hu
   obtain ⟨b,o,spot⟩:=ad
   have hspot:spot = none:=by
    obtain ⟨cs,y,_,hl1,hc1,_⟩:=key 0 h0
    have h1:=hc1 0 cs[0] (List.getElem?_eq_getElem (by omega))
    simpa [Addr.add] using World.cell?_spot h1
   subst hspot
   refine ⟨b,o,rfl,fun j hj=>?_⟩
   obtain ⟨cs,y,hy,hl1,hc1,ht⟩:=key j hj
   refine ⟨cs,n,y,by rw [List.getElem?_map,hy];rfl,hl1,fun i v hv=>?_,ht⟩
   have h1:=hc1 i v hv
   have g0:((Addr.mk b o none).add (j * c)).add i = ⟨b,o + j * c + i,none⟩:=by
    unfold Addr.add
    by_cases e1:j * c = 0
    ·by_cases e2:i = 0
     ·simp [e1,e2]
     ·simp [e1,e2]
    ·by_cases e2:i = 0
     ·simp [e1,e2]
     ·simp [e1,e2]
   rw [g0] at h1
   exact h1
theorem sD {b o:Nat} {fuel:Nat} {cs:List Value} {x:DataW H × List MemPlace} (hsz:cs.length = 3) (hcell:∀ i v,cs[i]? = some v→W.cell? ⟨b,o + i,none⟩ = some v)
 (hf:DataW.trod enc Tryz.prog W 0 (fun _=>true) true fuel 27 cs = some x):∃ r,C3 W b o r (Rows.uptoBulk x.1 - 1)∧SzR r (Rows.uptoBulk x.1 - 1)∧2≤Rows.uptoBulk x.1:=by
 obtain ⟨p,a,n,cap,a',n',cap',r,rfl,hT,h2⟩:=iZ hsz hf
 exact ⟨r,⟨p,a,n,cap,a',n',cap',hcell 0 _ rfl,hcell 1 _ rfl,hcell 2 _ rfl,hT⟩,hT.sz (by omega),h2⟩
theorem C3.up {w:World} {b o:Nat} {r:Rat} {S R:Nat} (h:C3 w b o r S) (hR:S≤R):C3 w b o r R:=by
 obtain ⟨p,a,na,ca,d,nd,cd,h1,h2,h3,h4⟩:=h
 exact ⟨p,a,na,ca,d,nd,cd,h1,h2,h3,h4.up hR⟩
theorem kU {b o:Nat} {fuel:Nat} {cs:List Value} {x:DataW H × List MemPlace} (hsz:cs.length = 4) (hcell:∀ i v,cs[i]? = some v→W.cell? ⟨b,o + i,none⟩ = some v)
 (hf:DataW.trod enc Tryz.prog W 0 (fun _=>true) true fuel 43 cs = some x):∃ h r,W.cell? ⟨b,o,none⟩ = some (.bool h)∧C3 W b (o + 1) r (Rows.uptoBulk x.1 - 1)∧SzR r (Rows.uptoBulk x.1 - 1)∧2≤Rows.uptoBulk x.1:=by
 obtain ⟨y0,y1,m,hx,_,hy0,hy1⟩:=trod_struct2 Tryz.underlying43 hf
 have hB:Rows.uptoBulk x.1 = Rows.uptoBulk y0.1 + (Rows.uptoBulk y1.1 + 0) + 1:=by rw [hx];simp only [Rows.uptoBulk,Rows.uptoBulkAll]
 match cs,hsz with
 | [u0,u1,u2,u3],_ =>
  simp only [iY,gJ,List.drop_zero,List.drop_succ_cons,List.take_succ_cons,List.take_zero] at hy0 hy1
  obtain ⟨h,hc,hx0⟩:=DataW.trod_bool Tryz.underlying4 hy0
  simp only [List.cons.injEq,and_true] at hc
  subst hc
  obtain ⟨r,h3,hs,h2⟩:=sD (b:=b) (o:=o + 1) rfl (fun i v hv=>by have:=hcell (i + 1) v (by simpa using hv);rwa [show o + (i + 1) = o + 1 + i by omega] at this) hy1
  have e:=SzR.le hs (show Rows.uptoBulk y1.1 - 1≤Rows.uptoBulk x.1 - 1 by omega)
  exact ⟨h,r,hcell 0 _ rfl,h3.up (by omega),e,by omega⟩
theorem open_term {b o:Nat} {fuel:Nat} {cs:List Value} {x:DataW H × List MemPlace} (hsz:cs.length = 4) (hcell:∀ i v,cs[i]? = some v→W.cell? ⟨b,o + i,none⟩ = some v)
 (hf:DataW.trod enc Tryz.prog W 0 (fun _=>true) true fuel 100 cs = some x):∃ t,TermAt W b o t (Rows.uptoBulk x.1 - 1):=by
 obtain ⟨y0,y1,m,hx,_,hy0,hy1⟩:=trod_struct2 Tryz.underlying100 hf
 have hB:Rows.uptoBulk x.1 = Rows.uptoBulk y0.1 + (Rows.uptoBulk y1.1 + 0) + 1:=by rw [hx];simp only [Rows.uptoBulk,Rows.uptoBulkAll]
 match cs,hsz with
 | [u0,u1,u2,u3],_ =>
  simp only [nG,gJ,List.drop_zero,List.drop_succ_cons,List.take_succ_cons,List.take_zero] at hy0 hy1
  obtain ⟨k,hc,hx0,hw⟩:=DataW.trod_int Tryz.underlying3 hy0
  simp only [List.cons.injEq,and_true] at hc
  subst hc
  obtain ⟨r,h3,hs,h2⟩:=sD (b:=b) (o:=o + 1) rfl (fun i v hv=>by have:=hcell (i + 1) v (by simpa using hv);rwa [show o + (i + 1) = o + 1 + i by omega] at this) hy1
  have e:=SzR.le hs (show Rows.uptoBulk y1.1 - 1≤Rows.uptoBulk x.1 - 1 by omega)
  have hw2:-9223372036854775808≤k∧k≤9223372036854775807:=by
   simp [Lit.wf,IntKind.min,IntKind.max,IntKind.signed,IntKind.bits] at hw
   omega
  exact ⟨⟨k,r⟩,hcell 0 _ rfl,h3.up (by omega),by omega,e,hw2.1,hw2.2⟩
theorem pick {α:Type} (d:α) {m:Nat} {P:Nat→α→Prop} (h:∀ j,j < m→∃ t,P j t):∃ f:Nat→α,∀ j,j < m→P j (f j) :=
 ⟨fun j=>if hj:j < m then (h j hj).choose else d,fun j hj=>by simp only [dif_pos hj];exact (h j hj).choose_spec⟩
theorem lW (ys:List (DataW H)):tot (bW ys) ys.length≤Rows.uptoBulkAll ys + 1:=by
 have h1:=yK ys (fun d _=>iK d) ys.length (Nat.le_refl _)
 rwa [List.take_length] at h1
theorem jY {ys:List (DataW H)} {j:Nat} {y:DataW H} (h:ys[j]? = some y):bW ys j = Rows.uptoBulk y - 1:=by unfold bW;rw [h]
theorem open_terms {fuel:Nat} {u:Value} {x:DataW H × List MemPlace} (hf:DataW.trod enc Tryz.prog W 0 (fun _=>true) true fuel 70 [u] = some x) :
 ∃ a m cap t Z,u = .slice a m cap∧m≤cap∧LT W a m t Z∧tot Z m≤Rows.uptoBulk x.1:=by
 obtain ⟨a,m,cap,ys,rfl,hm,hl,hb,h⟩:=iL Tryz.underlying70 cellsTerm (by decide) hf
 have ht:=lW ys
 rw [hl] at ht
 rcases h with h0 | ⟨b,o,rfl,h⟩
 ·exact ⟨a,m,cap,fun _=>⟨0,0⟩,bW ys,rfl,hm,.inl h0,by omega⟩
 ·obtain ⟨t,h⟩:=pick (⟨0,0⟩:PT) (P:=fun j t=>TermAt W b (o + j * 4) t (bW ys j)) (fun j hj=>by
   obtain ⟨cs,n,y,e1,e2,e3,e4⟩:=h j hj
   obtain ⟨t,h1⟩:=open_term e2 e3 e4
   exact ⟨t,by rw [jY e1];exact h1⟩)
  exact ⟨_,m,cap,t,bW ys,rfl,hm,.inr ⟨b,o,rfl,h⟩,by omega⟩
theorem cells_from {b o k m:Nat} {cs:List Value} (hcell:∀ i v,cs[i]? = some v→W.cell? ⟨b,o + i,none⟩ = some v):∀ i v,((cs.drop k).take m)[i]? = some v→W.cell? ⟨b,o + k + i,none⟩ = some v:=by
 intro i v hv
 have h1:cs[k + i]? = some v:=by
  rw [List.getElem?_take] at hv
  split at hv
  ·rw [List.getElem?_drop] at hv;exact hv
  ·cases hv
 have:=hcell _ _ h1
 rwa [← Nat.add_assoc] at this
theorem tZ {s:ByteArray}:s.size + 1≤Rows.uptoBulk (H:=H) (.lit (.string s.data.toList)) + 1:=by
 have e:s.data.toList.length = s.size:=by simp
 simp only [Rows.uptoBulk,e]
 omega
theorem open_var {b o:Nat} {fuel:Nat} {cs:List Value} {x:DataW H × List MemPlace} (hsz:cs.length = 13) (hcell:∀ i v,cs[i]? = some v→W.cell? ⟨b,o + i,none⟩ = some v)
 (hf:DataW.trod enc Tryz.prog W 0 (fun _=>true) true fuel 45 cs = some x):∃ v,VarAt W b o v (Rows.uptoBulk x.1 - 1):=by
 obtain ⟨y0,y1,y2,y3,y4,m,hx,hy0,hy1,hy2,hy3,hy4⟩:=kT Tryz.underlying45 hf
 have hB:Rows.uptoBulk x.1 = Rows.uptoBulk y0.1 + (Rows.uptoBulk y1.1 + (Rows.uptoBulk y2.1 + (Rows.uptoBulk y3.1 + (Rows.uptoBulk y4.1 + 0)))) + 1:=by rw [hx];simp only [Rows.uptoBulk,Rows.uptoBulkAll]
 have l0:=iK y0.1
 have l4:=iK y4.1
 simp only [tY,gJ,tX,iY] at hy0 hy1 hy2 hy3 hy4
 obtain ⟨nm,e0,x0,_⟩:=DataW.trod_string Tryz.underlying9 hy0
 obtain ⟨wh,e4,x4⟩:=DataW.trod_bool Tryz.underlying4 hy4
 have hn:nm.size≤Rows.uptoBulk y0.1:=by
  have:=tZ (H:=H) (s:=nm)
  rw [x0]
  exact Nat.le_of_succ_le_succ this
 obtain ⟨r,c1,s1,g1⟩:=sD (by simp [hsz]) (cells_from hcell) hy1
 obtain ⟨hl,lo,d2,c2,s2,g2⟩:=kU (by simp [hsz]) (cells_from hcell) hy2
 obtain ⟨hh,hi,d3,c3,s3,g3⟩:=kU (by simp [hsz]) (cells_from hcell) hy3
 have q0:=cells_from (W:=W) (b:=b) (o:=o) (k:=0) (m:=1) hcell 0 (.string nm) (by rw [e0];rfl)
 have q4:=cells_from (W:=W) (b:=b) (o:=o) (k:=12) (m:=1) hcell 0 (.bool wh) (by rw [e4];rfl)
 exact ⟨⟨nm,r,hl,lo,hh,hi,wh⟩,q0,c1.up (by omega),d2,c2.up (by omega),d3,c3.up (by omega),q4,by omega,SzR.le s1 (by omega),SzR.le s2 (by omega),SzR.le s3 (by omega),by show nm.size≤_;omega⟩
theorem open_row {b o:Nat} {fuel:Nat} {cs:List Value} {x:DataW H × List MemPlace} (hsz:cs.length = 10) (hcell:∀ i v,cs[i]? = some v→W.cell? ⟨b,o + i,none⟩ = some v)
 (hf:DataW.trod enc Tryz.prog W 0 (fun _=>true) true fuel 72 cs = some x):∃ v,RowAt W b o v (Rows.uptoBulk x.1 - 1):=by
 obtain ⟨y0,y1,y2,y3,m,hx,hy0,hy1,hy2,hy3⟩:=uT Tryz.underlying72 hf
 have hB:Rows.uptoBulk x.1 = Rows.uptoBulk y0.1 + (Rows.uptoBulk y1.1 + (Rows.uptoBulk y2.1 + (Rows.uptoBulk y3.1 + 0))) + 1:=by rw [hx];simp only [Rows.uptoBulk,Rows.uptoBulkAll]
 have l0:=iK y0.1
 have l1:=iK y1.1
 simp only [tY,cellsTerms,tX] at hy0 hy1 hy2 hy3
 obtain ⟨nm,e0,x0,_⟩:=DataW.trod_string Tryz.underlying9 hy0
 have hn:nm.size≤Rows.uptoBulk y0.1:=by
  have:=tZ (H:=H) (s:=nm)
  rw [x0]
  exact Nat.le_of_succ_le_succ this
 have l2:1 < cs.length:=by omega
 have e1:(cs.drop 1).take 1 = [cs[1]]:=by
  rw [List.drop_eq_getElem_cons l2];rfl
 rw [e1] at hy1
 obtain ⟨a,nt,cap,t,Z,eu,hcap,hLT,htot⟩:=open_terms hy1
 obtain ⟨hl,lo,d2,c2,s2,g2⟩:=kU (by simp [hsz]) (cells_from hcell) hy2
 obtain ⟨hh,hi,d3,c3,s3,g3⟩:=kU (by simp [hsz]) (cells_from hcell) hy3
 have q0:=cells_from (W:=W) (b:=b) (o:=o) (k:=0) (m:=1) hcell 0 (.string nm) (by rw [e0];rfl)
 have q1:=hcell 1 (.slice a nt cap) (by rw [List.getElem?_eq_getElem l2,eu])
 exact ⟨⟨nm,nt,t,hl,lo,hh,hi⟩,q0,⟨a,cap,Z,q1,hLT,by show tot Z nt≤_;omega,hcap⟩,d2,c2.up (by omega),d3,c3.up (by omega),by omega,SzR.le s2 (by omega),SzR.le s3 (by omega),by show nm.size≤_;omega⟩
theorem open_vars {fuel:Nat} {u:Value} {x:DataW H × List MemPlace} (hf:DataW.trod enc Tryz.prog W 0 (fun _=>true) true fuel 28 [u] = some x) :
 ∃ a m cap V Z,u = .slice a m cap∧m≤cap∧LV W a m V Z∧tot Z m≤Rows.uptoBulk x.1:=by
 obtain ⟨a,m,cap,ys,rfl,hm,hl,hb,h⟩:=iL Tryz.underlying28 cellsVar (by decide) hf
 have ht:=lW ys
 rw [hl] at ht
 have d0:PV:=⟨ByteArray.mk #[],0,false,0,false,0,false⟩
 rcases h with h0 | ⟨b,o,rfl,h⟩
 ·exact ⟨a,m,cap,fun _=>d0,bW ys,rfl,hm,.inl h0,by omega⟩
 ·obtain ⟨t,h⟩:=pick d0 (P:=fun j t=>VarAt W b (o + j * 13) t (bW ys j)) (fun j hj=>by
   obtain ⟨cs,n,y,e1,e2,e3,e4⟩:=h j hj
   obtain ⟨t,h1⟩:=open_var e2 e3 e4
   exact ⟨t,by rw [jY e1];exact h1⟩)
  exact ⟨_,m,cap,t,bW ys,rfl,hm,.inr ⟨b,o,rfl,h⟩,by omega⟩
theorem open_rows {fuel:Nat} {u:Value} {x:DataW H × List MemPlace} (hf:DataW.trod enc Tryz.prog W 0 (fun _=>true) true fuel 29 [u] = some x) :
 ∃ a m cap R Z,u = .slice a m cap∧m≤cap∧LW W a m R Z∧tot Z m≤Rows.uptoBulk x.1:=by
 obtain ⟨a,m,cap,ys,rfl,hm,hl,hb,h⟩:=iL Tryz.underlying29 cellsRow (by decide) hf
 have ht:=lW ys
 rw [hl] at ht
 have d0:PW:=⟨ByteArray.mk #[],0,fun _=>⟨0,0⟩,false,0,false,0⟩
 rcases h with h0 | ⟨b,o,rfl,h⟩
 ·exact ⟨a,m,cap,fun _=>d0,bW ys,rfl,hm,.inl h0,by omega⟩
 ·obtain ⟨t,h⟩:=pick d0 (P:=fun j t=>RowAt W b (o + j * 10) t (bW ys j)) (fun j hj=>by
   obtain ⟨cs,n,y,e1,e2,e3,e4⟩:=h j hj
   obtain ⟨t,h1⟩:=open_row e2 e3 e4
   exact ⟨t,by rw [jY e1];exact h1⟩)
  exact ⟨_,m,cap,t,bW ys,rfl,hm,.inr ⟨b,o,rfl,h⟩,by omega⟩
structure Prob where
 mx:Bool
 nm:ByteArray
 p:Bool
 a:Option Addr
 na:Nat
 ca:Nat
 d:Option Addr
 nd:Nat
 cd:Nat
 va:Option Addr
 vn:Nat
 vc:Nat
 ra:Option Addr
 rn:Nat
 rc:Nat
 k:Rat
 V:Nat→PV
 ZV:Nat→Nat
 R:Nat→PW
 ZR:Nat→Nat
 S:Nat
 K:Nat
abbrev Prob.val (P:Prob):Value:=.agg #[.bool P.mx,.string P.nm,.bool P.p,.slice P.a P.na P.ca,.slice P.d P.nd P.cd,.slice P.va P.vn P.vc,.slice P.ra P.rn P.rc]
structure PQ (w:World) (P:Prob):Prop where
 k:TR w P.p P.a P.na P.ca P.d P.nd P.cd P.k P.S
 s1:1≤P.S
 sk:SzR P.k P.S
 v:LV w P.va P.vn P.V P.ZV
 r:LW w P.ra P.rn P.R P.ZR
 all:P.S + tot P.ZV P.vn + tot P.ZR P.rn + P.nm.size≤P.K
 vc:P.vn≤P.vc
 rc:P.rn≤P.rc
theorem PQ.below {w w':World} {P:Prob} (h:PQ w P) (hb:Below w.heap.size w w'):PQ w' P:=⟨h.k.below hb,h.s1,h.sk,h.v.below hb,h.r.below hb,h.all,h.vc,h.rc⟩
theorem aT (Z:Nat→Nat) (n:Nat):n + 1≤tot Z n:=by
 induction n with
 | zero=>exact Nat.le_refl _
 | succ n ih=>show n + 1 + 1≤tot Z n + Z n + 1;omega
theorem wP {base:Nat} {v:Value} {dd:DataW H} {pl:List MemPlace} (hv:Value.okWide Tryz.prog W .any base 31 v) (h:DataW.Trod enc Tryz.prog W 0 (fun _=>true) true 31 v dd pl) :
 ∃ P:Prob,v = P.val∧PQ W P∧P.K = Rows.uptoBulk dd:=by
 obtain ⟨cs,rfl,hsz⟩:=okWide_struct Tryz.underlying31 hv
 obtain ⟨fuel,hf⟩:=h
 rw [wO] at hsz
 obtain ⟨l⟩:=cs
 obtain ⟨y0,y1,y2,y3,y4,m,hx,hy0,hy1,hy2,hy3,hy4⟩:=kT (cs:=l) (x:=(dd,pl)) Tryz.underlying31 (by simpa [Value.cells] using hf)
 have hB:Rows.uptoBulk dd = Rows.uptoBulk y0.1 + (Rows.uptoBulk y1.1 + (Rows.uptoBulk y2.1 + (Rows.uptoBulk y3.1 + (Rows.uptoBulk y4.1 + 0)))) + 1:=by
  have hx':dd = .agg [y0.1,y1.1,y2.1,y3.1,y4.1]:=hx
  rw [hx'];simp only [Rows.uptoBulk,Rows.uptoBulkAll]
 match l,hsz with
 | [u0,u1,u2,u3,u4,u5,u6],_ =>
  simp only [tY,gJ,iY,cellsVars,cellsRows,List.drop_zero,List.drop_succ_cons,List.take_succ_cons,List.take_zero] at hy0 hy1 hy2 hy3 hy4
  obtain ⟨mx,e0,_⟩:=DataW.trod_bool Tryz.underlying4 hy0
  obtain ⟨nm,e1,x1,_⟩:=DataW.trod_string Tryz.underlying9 hy1
  simp only [List.cons.injEq,and_true] at e0 e1
  subst e0 e1
  have hn:nm.size≤Rows.uptoBulk y1.1:=by
   have:=tZ (H:=H) (s:=nm)
   rw [x1]
   exact Nat.le_of_succ_le_succ this
  obtain ⟨p,a,na,ca,d,nd,cd,k,e2,hT,h2⟩:=iZ rfl hy2
  simp only [List.cons.injEq,and_true] at e2
  obtain ⟨rfl,rfl,rfl⟩:=e2
  obtain ⟨va,vn,vc,V,ZV,rfl,hvc,hLV,hv2⟩:=open_vars hy3
  obtain ⟨ra,rn,rc,R,ZR,rfl,hrc,hLW,hr2⟩:=open_rows hy4
  exact ⟨⟨mx,nm,p,a,na,ca,d,nd,cd,va,vn,vc,ra,rn,rc,k,V,ZV,R,ZR,Rows.uptoBulk y2.1 - 1,Rows.uptoBulk dd⟩,rfl,⟨hT,by show 1≤Rows.uptoBulk y2.1 - 1;omega,hT.sz (by omega),hLV,hLW,by show Rows.uptoBulk y2.1 - 1 + tot ZV vn + tot ZR rn + nm.size≤Rows.uptoBulk dd;omega,hvc,hrc⟩,rfl⟩
theorem wQ {W':World} {v:Value} {d:DataW H} {p:List MemPlace} (h:DataW.Trod enc Tryz.prog W 0 (fun _=>true) true 31 v d p) (bel:Below W.heap.size W W') :
 DataW.Trod enc Tryz.prog W' 0 (fun b=>decide (b < W.heap.size)) true 31 v d p :=
 Below.trod laidOut (by kernel_rfl) (of_decide_eq_true (by kernel_rfl)) h bel (jQ h)
end
end Go.Proofs.YtnokmjmefipplaaGreatDoor

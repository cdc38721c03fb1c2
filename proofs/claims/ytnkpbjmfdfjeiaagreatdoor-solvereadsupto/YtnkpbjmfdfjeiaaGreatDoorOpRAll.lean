import Derived.Test.YtnkpbjmfdfjeiaaGreatDoorR3M
import Derived.Test.YtnkpbjmfdfjeiaaGreatDoorLxWAll
namespace Go.Proofs.YtnkpbjmfdfjeiaaGreatDoor
open Go.RowKit
theorem TR.up {w:World} {p:Bool} {a:Option Addr} {na ca:Nat} {d:Option Addr} {nd cd:Nat} {r:Rat} {S R:Nat} (h:TR w p a na ca d nd cd r S) (hR:S≤R):TR w p a na ca d nd cd r R:=by
 obtain ⟨x,y,⟨m,⟨xs,h1,h2,h3,h4,h5,h6⟩,h7⟩,⟨ys,g1,g2,g3,g4,g5,g6⟩,g7⟩:=h
 exact ⟨x,y,⟨m,⟨xs,h1,h2,h3,h4,h5,by omega⟩,h7⟩,⟨ys,g1,g2,g3,g4,g5,by omega⟩,g7⟩
def SzR (r:Rat) (T:Nat):Prop:=(r.num.natAbs:Int) < pw T∧(r.den:Int) < pw T
theorem SzR.le {r:Rat} {T R:Nat} (h:SzR r T) (hR:T≤R):SzR r R:=⟨Int.lt_of_lt_of_le h.1 (pw_mono hR),Int.lt_of_lt_of_le h.2 (pw_mono hR)⟩
theorem divInt_sz {x y:Int} {T:Nat} (hx:(x.natAbs:Int) < pw T) (hy:(y.natAbs:Int) < pw T) (hT:1≤T):SzR (Rat.divInt x y) T:=by
 have h1:(1:Int) < pw T:=by
  have:=pw_mono hT
  have e:pw 1 = 18446744073709551616:=rfl
  omega
 by_cases hy0:y = 0
 ·subst hy0
  rw [Rat.divInt_zero]
  exact ⟨by show ((0:Int).natAbs:Int) < _;simp;exact Int.lt_trans (by decide) h1,by show ((1:Nat):Int) < _;exact h1⟩
 ·rw [SzR,Rat.num_divInt,Rat.den_divInt,if_neg hy0]
  have hg:(0:Int) < ((Int.gcd y x:Nat):Int):=by
   have:0 < Int.gcd y x:=Int.gcd_pos_of_ne_zero_left _ hy0
   omega
  constructor
  ·have hs:y.sign.natAbs≤1:=by rcases Int.sign_trichotomy y with h | h | h <;> simp [h]
   have h2:(y.sign * x / ((Int.gcd y x:Nat):Int)).natAbs≤(y.sign * x).natAbs:=by
    rw [Int.natAbs_ediv_of_dvd (Int.dvd_mul_of_dvd_right (Int.gcd_dvd_right _ _))]
    exact Nat.div_le_self _ _
   have h3:(y.sign * x).natAbs≤x.natAbs:=by
    rw [Int.natAbs_mul]
    calc y.sign.natAbs * x.natAbs≤1 * x.natAbs:=Nat.mul_le_mul_right _ hs
     _ = x.natAbs:=Nat.one_mul _
   omega
  ·have:=Nat.div_le_self y.natAbs (Int.gcd y x)
   omega
theorem TR.sz {w:World} {p:Bool} {a:Option Addr} {na ca:Nat} {d:Option Addr} {nd cd:Nat} {r:Rat} {S:Nat} (h:TR w p a na ca d nd cd r S) (hS:1≤S):SzR r S:=by
 obtain ⟨x,y,hx,hy,rfl⟩:=h
 have h1:(x.natAbs:Int) < pw S:=by
  obtain ⟨m,⟨xs,e1,e2,e3,e4,e5,e6⟩,rfl⟩:=hx
  have:=val_lt e4
  have:=pw_mono (show xs.length≤S by omega)
  have h0:0≤val xs:=val_nn e4
  unfold ws
  cases p <;> simp <;> omega
 have h2:(y.natAbs:Int) < pw S:=by
  obtain ⟨xs,e1,e2,e3,e4,e5,e6⟩:=hy
  have:=val_lt e4
  have:=pw_mono (show xs.length≤S by omega)
  have h0:0≤val xs:=val_nn e4
  omega
 exact divInt_sz h1 h2 hS
def rsum (X:Nat→Rat):Nat→Rat
 | 0=>0
 | n + 1=>rsum X n + X n
def tot (Z:Nat→Nat):Nat→Nat
 | 0=>1
 | n + 1=>tot Z n + Z n + 1
theorem tot_pos (Z:Nat→Nat) (n:Nat):1≤tot Z n:=by
 induction n with
 | zero=>exact Nat.le_refl _
 | succ n ih=>show 1≤tot Z n + Z n + 1;omega
theorem tot_mono (Z:Nat→Nat) {k n:Nat} (h:k≤n):tot Z k≤tot Z n:=by
 induction n with
 | zero =>
  obtain rfl:k = 0:=by omega
  exact Nat.le_refl _
 | succ n ih =>
  rcases (by omega:k = n + 1∨k≤n) with rfl | h2
  ·exact Nat.le_refl _
  ·have:=ih h2
   show _≤tot Z n + Z n + 1
   omega
theorem tot_one {Z:Nat→Nat} {n i:Nat} (h:i < n):Z i + 1≤tot Z n:=by
 have:=tot_mono Z (show i + 1≤n from h)
 have e:tot Z (i + 1) = tot Z i + Z i + 1:=rfl
 have:=tot_pos Z i
 omega
end Go.Proofs.YtnkpbjmfdfjeiaaGreatDoor
namespace Go.Proofs.YtnkpbjmfdfjeiaaGreatDoor
open Go.ChangeShapes Go.WideShapes Go.ChangeAt Go.RowKit
set_option maxRecDepth 100000 in
theorem open_natK {H:Type} {enc:TypeId × Value→H} {W:World} {fuel:Nat} {u:Value} {x:DataW H × List MemPlace}
  (hf:DataW.trod enc Tryz.prog W 0 (fun _=>true) true fuel 23 [u] = some x) {K:Nat} (hk:Rows.uptoBulk x.1≤K) :
  ∃ a n cap xs,u = .slice a n cap∧n = xs.length∧n≤cap∧Reads W a xs∧AllW xs∧n≤K:=by
 rcases open_ints Tryz.underlying23 Tryz.underlying107 cellsU64 hf with ⟨hcs,_⟩ | ⟨p,n,c,zs,hcs,_,hl,hm,hz,hx,hcell,hwz⟩
 ·simp only [List.cons.injEq,and_true] at hcs
  exact ⟨_,_,_,[],hcs,rfl,Nat.le_refl _,.inl rfl,AllW.nil,Nat.zero_le _⟩
 ·simp only [List.cons.injEq,and_true] at hcs
  simp only [if_true] at hz
  rw [hx] at hk
  have hlen:(zs.take n).length = n:=by rw [List.length_take];omega
  have hb:n≤K:=by
   have:=bulk_slice (H:=H) (lits .u64 (zs.take n)) (lits .u64 (zs.drop n))
   have hk2:Rows.uptoBulk (H:=H) (.slice (lits .u64 (zs.take n)) (lits .u64 (zs.drop n)))≤K:=hk
   have e1:(lits (H:=H) .u64 (zs.take n)).length = (zs.take n).length:=by simp [lits]
   omega
  refine ⟨_,_,_,zs.take n,hcs,hlen.symm,hl,?_,?_,hb⟩
  ·by_cases h0:n = 0
   ·exact .inl (by simp [h0])
   ·obtain ⟨b,o,spot⟩:=p
    have hc:=hcell 0 (by omega)
    have hspot:spot = none:=by simpa [Addr.add] using World.cell?_spot hc
    subst hspot
    refine .inr ⟨b,o,rfl,fun i hi=>?_⟩
    rw [lm_take (by omega)]
    have:=hcell i (by omega)
    by_cases hi0:i = 0
    ·subst hi0;simpa [Addr.add,lm] using this
    ·simpa [Addr.add,lm,hi0] using this
  ·intro y hy
   have:=hwz y (List.mem_of_mem_take hy)
   simp [Lit.wf,IntKind.min,IntKind.max,IntKind.signed,IntKind.bits] at this
   exact ⟨by omega,by omega⟩
set_option maxRecDepth 100000 in
theorem open_ratc {H:Type} {enc:TypeId × Value→H} {W:World} {fuel:Nat} {cs:List Value} {x:DataW H × List MemPlace} (hsz:cs.length = 3)
  (hf:DataW.trod enc Tryz.prog W 0 (fun _=>true) true fuel 27 cs = some x) :
  ∃ b a n cap a' n' cap' r,cs = [.bool b,.slice a n cap,.slice a' n' cap']∧TR W b a n cap a' n' cap' r (Rows.uptoBulk x.1 - 1)∧2≤Rows.uptoBulk x.1:=by
 obtain ⟨y0,y1,m,hx,_,hy0,hy1⟩:=trod_struct2 Tryz.underlying27 hf
 match cs,hsz with
 | [u0,u1,u2],_ =>
  simp only [cellsInt,cellsNatI,List.drop_zero,List.drop_succ_cons,List.take_succ_cons,List.take_zero] at hy0 hy1
  have hd:x.1 = .agg [y0.1,y1.1]:=by rw [hx]
  obtain ⟨z0,z1,m',hx',_,hz0,hz1⟩:=trod_struct2 Tryz.underlying25 hy0
  simp only [cellsBool,cellsNatI,List.drop_zero,List.drop_succ_cons,List.take_succ_cons,List.take_zero] at hz0 hz1
  have hd':y0.1 = .agg [z0.1,z1.1]:=by rw [hx']
  have hB:Rows.uptoBulk x.1 = Rows.uptoBulk y0.1 + (Rows.uptoBulk y1.1 + 0) + 1:=by rw [hd];simp only [Rows.uptoBulk,Rows.uptoBulkAll]
  have hB':Rows.uptoBulk y0.1 = Rows.uptoBulk z0.1 + (Rows.uptoBulk z1.1 + 0) + 1:=by rw [hd'];simp only [Rows.uptoBulk,Rows.uptoBulkAll]
  obtain ⟨a,n,cap,xs,rfl,h1,h2,h3,h4,h5⟩:=open_natK hz1 (Nat.le_refl _)
  obtain ⟨a',n',cap',ys,rfl,k1,k2,k3,k4,k5⟩:=open_natK hy1 (Nat.le_refl _)
  have hbool:∃ b,u0 = .bool b:=by
   cases m' with
   | zero=>simp [DataW.trod] at hz0
   | succ m' =>
    simp only [DataW.trod,Tryz.underlying4] at hz0
    cases u0 <;> simp_all
  obtain ⟨b,rfl⟩:=hbool
  exact ⟨b,a,n,cap,a',n',cap',_,rfl,⟨_,_,⟨_,⟨xs,h1,h2,h3,h4,rfl,by omega⟩,rfl⟩,⟨ys,k1,k2,k3,k4,rfl,by omega⟩,rfl⟩,by omega⟩
def bulkAt {H:Type} (l:List (DataW H)) (i:Nat):Nat:=match l[i]? with
 | some d=>Rows.uptoBulk d - 1
 | none=>0
theorem bulk_snoc {H:Type} (l:List (DataW H)) (d:DataW H):Rows.uptoBulkAll (l ++ [d]) = Rows.uptoBulkAll l + Rows.uptoBulk d:=by
 induction l with
 | nil=>simp [Rows.uptoBulkAll]
 | cons x r ih=>simp only [List.cons_append,Rows.uptoBulkAll,ih];omega
theorem bulk_tot {H:Type} (l:List (DataW H)) (h:∀ d ∈ l,1≤Rows.uptoBulk d) (n:Nat) (hn:n≤l.length):tot (bulkAt l) n≤Rows.uptoBulkAll (l.take n) + 1:=by
 induction n with
 | zero=>simp [tot,Rows.uptoBulkAll]
 | succ n ih =>
  have hlt:n < l.length:=hn
  have h1:=ih (by omega)
  have h2:=h l[n] (List.getElem_mem hlt)
  rw [List.take_succ_eq_append_getElem hlt,bulk_snoc]
  show tot (bulkAt l) n + bulkAt l n + 1≤_
  have e:bulkAt l n = Rows.uptoBulk l[n] - 1:=by unfold bulkAt;rw [List.getElem?_eq_getElem hlt]
  omega
end Go.Proofs.YtnkpbjmfdfjeiaaGreatDoor
namespace Go.Proofs.YtnkpbjmfdfjeiaaGreatDoor
open Go.ChangeShapes Go.WideShapes Go.ChangeAt Go.RowKit
structure PV where
 nm:ByteArray
 obj:Rat
 hlo:Bool
 lo:Rat
 hhi:Bool
 hi:Rat
 whole:Bool
structure PT where
 var:Int
 coef:Rat
structure PW where
 nm:ByteArray
 nt:Nat
 t:Nat→PT
 hlo:Bool
 lo:Rat
 hhi:Bool
 hi:Rat
def C3 (w:World) (b o:Nat) (r:Rat) (S:Nat):Prop :=
 ∃ p a na ca d nd cd,w.cell? ⟨b,o,none⟩ = some (.bool p)∧w.cell? ⟨b,o + 1,none⟩ = some (.slice a na ca)∧w.cell? ⟨b,o + 2,none⟩ = some (.slice d nd cd)∧TR w p a na ca d nd cd r S
theorem C3.below {w w':World} {b o:Nat} {r:Rat} {S:Nat} (h:C3 w b o r S) (hb:Below w.heap.size w w'):C3 w' b o r S:=by
 obtain ⟨p,a,na,ca,d,nd,cd,h1,h2,h3,h4⟩:=h
 exact ⟨p,a,na,ca,d,nd,cd,kept_c hb h1,kept_c hb h2,kept_c hb h3,h4.below hb⟩
def TermAt (w:World) (b o:Nat) (t:PT) (S:Nat):Prop:=w.cell? ⟨b,o,none⟩ = some (.int .i64 t.var)∧C3 w b (o + 1) t.coef S∧1≤S∧SzR t.coef S∧-9223372036854775808≤t.var∧t.var≤9223372036854775807
theorem TermAt.below {w w':World} {b o:Nat} {t:PT} {S:Nat} (h:TermAt w b o t S) (hb:Below w.heap.size w w'):TermAt w' b o t S:=⟨kept_c hb h.1,h.2.1.below hb,h.2.2⟩
def LT (w:World) (a:Option Addr) (n:Nat) (t:Nat→PT) (Z:Nat→Nat):Prop :=
 n = 0∨∃ b o,a = some ⟨b,o,none⟩∧∀ i,i < n→TermAt w b (o + i * 4) (t i) (Z i)
theorem LT.below {w w':World} {a:Option Addr} {n:Nat} {t:Nat→PT} {Z:Nat→Nat} (h:LT w a n t Z) (hb:Below w.heap.size w w'):LT w' a n t Z:=by
 rcases h with h | ⟨b,o,rfl,h⟩
 ·exact .inl h
 ·exact .inr ⟨b,o,rfl,fun i hi=>(h i hi).below hb⟩
structure VarAt (w:World) (b o:Nat) (v:PV) (S:Nat):Prop where
 nm:w.cell? ⟨b,o,none⟩ = some (.string v.nm)
 obj:C3 w b (o + 1) v.obj S
 hlo:w.cell? ⟨b,o + 4,none⟩ = some (.bool v.hlo)
 lo:C3 w b (o + 5) v.lo S
 hhi:w.cell? ⟨b,o + 8,none⟩ = some (.bool v.hhi)
 hi:C3 w b (o + 9) v.hi S
 whole:w.cell? ⟨b,o + 12,none⟩ = some (.bool v.whole)
 s1:1≤S
 sobj:SzR v.obj S
 slo:SzR v.lo S
 shi:SzR v.hi S
 snm:v.nm.size≤S
theorem VarAt.below {w w':World} {b o:Nat} {v:PV} {S:Nat} (h:VarAt w b o v S) (hb:Below w.heap.size w w'):VarAt w' b o v S :=
 ⟨kept_c hb h.nm,h.obj.below hb,kept_c hb h.hlo,h.lo.below hb,kept_c hb h.hhi,h.hi.below hb,kept_c hb h.whole,h.s1,h.sobj,h.slo,h.shi,h.snm⟩
def LV (w:World) (a:Option Addr) (n:Nat) (V:Nat→PV) (Z:Nat→Nat):Prop :=
 n = 0∨∃ b o,a = some ⟨b,o,none⟩∧∀ i,i < n→VarAt w b (o + i * 13) (V i) (Z i)
theorem LV.below {w w':World} {a:Option Addr} {n:Nat} {V:Nat→PV} {Z:Nat→Nat} (h:LV w a n V Z) (hb:Below w.heap.size w w'):LV w' a n V Z:=by
 rcases h with h | ⟨b,o,rfl,h⟩
 ·exact .inl h
 ·exact .inr ⟨b,o,rfl,fun i hi=>(h i hi).below hb⟩
structure RowAt (w:World) (b o:Nat) (r:PW) (S:Nat):Prop where
 nm:w.cell? ⟨b,o,none⟩ = some (.string r.nm)
 terms:∃ a cap Z,w.cell? ⟨b,o + 1,none⟩ = some (.slice a r.nt cap)∧LT w a r.nt r.t Z∧tot Z r.nt≤S∧r.nt≤cap
 hlo:w.cell? ⟨b,o + 2,none⟩ = some (.bool r.hlo)
 lo:C3 w b (o + 3) r.lo S
 hhi:w.cell? ⟨b,o + 6,none⟩ = some (.bool r.hhi)
 hi:C3 w b (o + 7) r.hi S
 s1:1≤S
 slo:SzR r.lo S
 shi:SzR r.hi S
 snm:r.nm.size≤S
theorem RowAt.below {w w':World} {b o:Nat} {r:PW} {S:Nat} (h:RowAt w b o r S) (hb:Below w.heap.size w w'):RowAt w' b o r S:=by
 obtain ⟨a,cap,Z,h1,h2,h3⟩:=h.terms
 exact ⟨kept_c hb h.nm,⟨a,cap,Z,kept_c hb h1,h2.below hb,h3⟩,kept_c hb h.hlo,h.lo.below hb,kept_c hb h.hhi,h.hi.below hb,h.s1,h.slo,h.shi,h.snm⟩
def LW (w:World) (a:Option Addr) (n:Nat) (R:Nat→PW) (Z:Nat→Nat):Prop :=
 n = 0∨∃ b o,a = some ⟨b,o,none⟩∧∀ i,i < n→RowAt w b (o + i * 10) (R i) (Z i)
theorem LW.below {w w':World} {a:Option Addr} {n:Nat} {R:Nat→PW} {Z:Nat→Nat} (h:LW w a n R Z) (hb:Below w.heap.size w w'):LW w' a n R Z:=by
 rcases h with h | ⟨b,o,rfl,h⟩
 ·exact .inl h
 ·exact .inr ⟨b,o,rfl,fun i hi=>(h i hi).below hb⟩
section
variable {H:Type} {enc:TypeId × Value→H} {W:World}
theorem cellsBound:Tryz.prog.cellsOf 49 = 4:=by kernel_rfl
theorem cellsTerm:Tryz.prog.cellsOf 56 = 4:=by kernel_rfl
theorem cellsVar:Tryz.prog.cellsOf 51 = 13:=by kernel_rfl
theorem cellsRow:Tryz.prog.cellsOf 54 = 10:=by kernel_rfl
theorem cellsProblem:Tryz.prog.cellsOf 31 = 7:=by kernel_rfl
theorem cellsStr:Tryz.prog.cellsOf 9 = 1:=by kernel_rfl
theorem cellsIntg:Tryz.prog.cellsOf 3 = 1:=by kernel_rfl
theorem cellsTerms:Tryz.prog.cellsOf 52 = 1:=by kernel_rfl
theorem cellsVars:Tryz.prog.cellsOf 28 = 1:=by kernel_rfl
theorem cellsRows:Tryz.prog.cellsOf 29 = 1:=by kernel_rfl
theorem trod_struct5 {P:Program} {t:TypeId} {f0 f1 f2 f3 f4:Field} {fuel:Nat} {cs:List Value} {x:DataW H × List MemPlace} (ht:P.underlying t = some (.struct #[f0,f1,f2,f3,f4])) (h:DataW.trod enc P W 0 (fun _=>true) true fuel t cs = some x) :
  ∃ y0 y1 y2 y3 y4 n,x.1 = .agg [y0.1,y1.1,y2.1,y3.1,y4.1]∧DataW.trod enc P W 0 (fun _=>true) true n f0.type ((cs.drop f0.offset).take (P.cellsOf f0.type)) = some y0 ∧
   DataW.trod enc P W 0 (fun _=>true) true n f1.type ((cs.drop f1.offset).take (P.cellsOf f1.type)) = some y1∧DataW.trod enc P W 0 (fun _=>true) true n f2.type ((cs.drop f2.offset).take (P.cellsOf f2.type)) = some y2 ∧
   DataW.trod enc P W 0 (fun _=>true) true n f3.type ((cs.drop f3.offset).take (P.cellsOf f3.type)) = some y3∧DataW.trod enc P W 0 (fun _=>true) true n f4.type ((cs.drop f4.offset).take (P.cellsOf f4.type)) = some y4:=by
 obtain ⟨xs,n,_,rfl,hl,hlen,hf⟩:=DataW.trod_struct ht h
 match xs,hlen with
 | [y0,y1,y2,y3,y4],_=>exact ⟨y0,y1,y2,y3,y4,n,by simp,by simpa using hf 0 f0 rfl,by simpa using hf 1 f1 rfl,by simpa using hf 2 f2 rfl,by simpa using hf 3 f3 rfl,by simpa using hf 4 f4 rfl⟩
theorem trod_struct4' {P:Program} {t:TypeId} {f0 f1 f2 f3:Field} {fuel:Nat} {cs:List Value} {x:DataW H × List MemPlace} (ht:P.underlying t = some (.struct #[f0,f1,f2,f3])) (h:DataW.trod enc P W 0 (fun _=>true) true fuel t cs = some x) :
  ∃ y0 y1 y2 y3 n,x.1 = .agg [y0.1,y1.1,y2.1,y3.1]∧DataW.trod enc P W 0 (fun _=>true) true n f0.type ((cs.drop f0.offset).take (P.cellsOf f0.type)) = some y0 ∧
   DataW.trod enc P W 0 (fun _=>true) true n f1.type ((cs.drop f1.offset).take (P.cellsOf f1.type)) = some y1∧DataW.trod enc P W 0 (fun _=>true) true n f2.type ((cs.drop f2.offset).take (P.cellsOf f2.type)) = some y2 ∧
   DataW.trod enc P W 0 (fun _=>true) true n f3.type ((cs.drop f3.offset).take (P.cellsOf f3.type)) = some y3:=by
 obtain ⟨xs,n,_,rfl,hl,hlen,hf⟩:=DataW.trod_struct ht h
 match xs,hlen with
 | [y0,y1,y2,y3],_=>exact ⟨y0,y1,y2,y3,n,by simp,by simpa using hf 0 f0 rfl,by simpa using hf 1 f1 rfl,by simpa using hf 2 f2 rfl,by simpa using hf 3 f3 rfl⟩
set_option maxRecDepth 100000 in
theorem open_slicec {fuel:Nat} {u:Value} {x:DataW H × List MemPlace} {T E:TypeId} {c:Nat} (hT:Tryz.prog.underlying T = some (.slice E)) (hE:Tryz.prog.cellsOf E = c) (hc:0 < c)
  (hf:DataW.trod enc Tryz.prog W 0 (fun _=>true) true fuel T [u] = some x) :
  ∃ a m cap,∃ ys:List (DataW H),u = .slice a m cap∧m≤cap∧ys.length = m∧Rows.uptoBulkAll ys + 1≤Rows.uptoBulk x.1 ∧
   (m = 0∨∃ b o,a = some ⟨b,o,none⟩∧∀ j,j < m→∃ cs n y,ys[j]? = some y.1∧cs.length = c∧(∀ i v,cs[i]? = some v→W.cell? ⟨b,o + j * c + i,none⟩ = some v)∧DataW.trod enc Tryz.prog W 0 (fun _=>true) true n E cs = some y):=by
 rcases DataW.trod_slice hT hf with ⟨hcs,hx⟩ | ⟨ad,len,cap',elems,rest,n,_,hcs,hx,_,hl,_,hlen,hel,_⟩
 ·simp only [List.cons.injEq,and_true] at hcs
  subst hcs hx
  exact ⟨_,_,_,[],rfl,Nat.le_refl _,rfl,by simp [Rows.uptoBulkAll,Rows.uptoBulk],.inl rfl⟩
 ·simp only [List.cons.injEq,and_true] at hcs
  subst hcs hx
  refine ⟨_,_,_,elems.map (·.1),rfl,hl,by simpa using hlen,by simp only [Rows.uptoBulk];omega,?_⟩
  rcases Nat.eq_zero_or_pos len with h0 | h0
  ·exact .inl h0
  ·right
   rw [hE] at hel
   have key:∀ j,j < len→∃ cs y,elems[j]? = some y∧cs.length = c∧(∀ i u,cs[i]? = some u→W.cell? ((ad.add (j * c)).add i) = some u)∧DataW.trod enc Tryz.prog W 0 (fun _=>true) true n E cs = some y:=by
    intro j hj
    have hE:=hel j hj
    rw [List.getElem?_eq_getElem (by omega)] at hE
    simp only [Option.bind_eq_some_iff] at hE
    obtain ⟨c1,hc1,hy1⟩:=hE
    obtain ⟨_,hlen1,hcell1⟩:=World.cells?_some hc1
    refine ⟨c1,_,List.getElem?_eq_getElem (by omega),hlen1,fun i u hu=>?_,hy1⟩
    have hi:i < c1.length:=(List.getElem?_eq_some_iff.1 hu).1
    rw [hcell1 i (by omega)];exact hu
   obtain ⟨b,o,spot⟩:=ad
   have hspot:spot = none:=by
    obtain ⟨cs,y,_,hl1,hc1,_⟩:=key 0 h0
    have h1:=hc1 0 cs[0] (List.getElem?_eq_getElem (by omega))
    simpa [Addr.add] using World.cell?_spot h1
   subst hspot
   refine ⟨b,o,rfl,fun j hj=>?_⟩
   obtain ⟨cs,y,hy,hl1,hc1,ht⟩:=key j hj
   refine ⟨cs,n,y,by rw [List.getElem?_map,hy];rfl,hl1,fun i v hv=>?_,ht⟩
   have h1:=hc1 i v hv
   have g0:((Addr.mk b o none).add (j * c)).add i = ⟨b,o + j * c + i,none⟩:=by
    unfold Addr.add
    by_cases e1:j * c = 0
    ·by_cases e2:i = 0
     ·simp [e1,e2]
     ·simp [e1,e2]
    ·by_cases e2:i = 0
     ·simp [e1,e2]
     ·simp [e1,e2]
   rw [g0] at h1
   exact h1
theorem open_c3 {b o:Nat} {fuel:Nat} {cs:List Value} {x:DataW H × List MemPlace} (hsz:cs.length = 3) (hcell:∀ i v,cs[i]? = some v→W.cell? ⟨b,o + i,none⟩ = some v)
  (hf:DataW.trod enc Tryz.prog W 0 (fun _=>true) true fuel 27 cs = some x):∃ r,C3 W b o r (Rows.uptoBulk x.1 - 1)∧SzR r (Rows.uptoBulk x.1 - 1)∧2≤Rows.uptoBulk x.1:=by
 obtain ⟨p,a,n,cap,a',n',cap',r,rfl,hT,h2⟩:=open_ratc hsz hf
 exact ⟨r,⟨p,a,n,cap,a',n',cap',hcell 0 _ rfl,hcell 1 _ rfl,hcell 2 _ rfl,hT⟩,hT.sz (by omega),h2⟩
theorem C3.up {w:World} {b o:Nat} {r:Rat} {S R:Nat} (h:C3 w b o r S) (hR:S≤R):C3 w b o r R:=by
 obtain ⟨p,a,na,ca,d,nd,cd,h1,h2,h3,h4⟩:=h
 exact ⟨p,a,na,ca,d,nd,cd,h1,h2,h3,h4.up hR⟩
set_option maxRecDepth 100000 in
theorem open_bound {b o:Nat} {fuel:Nat} {cs:List Value} {x:DataW H × List MemPlace} (hsz:cs.length = 4) (hcell:∀ i v,cs[i]? = some v→W.cell? ⟨b,o + i,none⟩ = some v)
  (hf:DataW.trod enc Tryz.prog W 0 (fun _=>true) true fuel 49 cs = some x):∃ h r,W.cell? ⟨b,o,none⟩ = some (.bool h)∧C3 W b (o + 1) r (Rows.uptoBulk x.1 - 1)∧SzR r (Rows.uptoBulk x.1 - 1)∧2≤Rows.uptoBulk x.1:=by
 obtain ⟨y0,y1,m,hx,_,hy0,hy1⟩:=trod_struct2 Tryz.underlying49 hf
 have hB:Rows.uptoBulk x.1 = Rows.uptoBulk y0.1 + (Rows.uptoBulk y1.1 + 0) + 1:=by rw [hx];simp only [Rows.uptoBulk,Rows.uptoBulkAll]
 match cs,hsz with
 | [u0,u1,u2,u3],_ =>
  simp only [cellsBool,cellsRat,List.drop_zero,List.drop_succ_cons,List.take_succ_cons,List.take_zero] at hy0 hy1
  obtain ⟨h,hc,hx0⟩:=DataW.trod_bool Tryz.underlying4 hy0
  simp only [List.cons.injEq,and_true] at hc
  subst hc
  obtain ⟨r,h3,hs,h2⟩:=open_c3 (b:=b) (o:=o + 1) rfl (fun i v hv=>by have:=hcell (i + 1) v (by simpa using hv);rwa [show o + (i + 1) = o + 1 + i by omega] at this) hy1
  have e:=SzR.le hs (show Rows.uptoBulk y1.1 - 1≤Rows.uptoBulk x.1 - 1 by omega)
  exact ⟨h,r,hcell 0 _ rfl,h3.up (by omega),e,by omega⟩
set_option maxRecDepth 100000 in
theorem open_term {b o:Nat} {fuel:Nat} {cs:List Value} {x:DataW H × List MemPlace} (hsz:cs.length = 4) (hcell:∀ i v,cs[i]? = some v→W.cell? ⟨b,o + i,none⟩ = some v)
  (hf:DataW.trod enc Tryz.prog W 0 (fun _=>true) true fuel 56 cs = some x):∃ t,TermAt W b o t (Rows.uptoBulk x.1 - 1):=by
 obtain ⟨y0,y1,m,hx,_,hy0,hy1⟩:=trod_struct2 Tryz.underlying56 hf
 have hB:Rows.uptoBulk x.1 = Rows.uptoBulk y0.1 + (Rows.uptoBulk y1.1 + 0) + 1:=by rw [hx];simp only [Rows.uptoBulk,Rows.uptoBulkAll]
 match cs,hsz with
 | [u0,u1,u2,u3],_ =>
  simp only [cellsIntg,cellsRat,List.drop_zero,List.drop_succ_cons,List.take_succ_cons,List.take_zero] at hy0 hy1
  obtain ⟨k,hc,hx0,hw⟩:=DataW.trod_int Tryz.underlying3 hy0
  simp only [List.cons.injEq,and_true] at hc
  subst hc
  obtain ⟨r,h3,hs,h2⟩:=open_c3 (b:=b) (o:=o + 1) rfl (fun i v hv=>by have:=hcell (i + 1) v (by simpa using hv);rwa [show o + (i + 1) = o + 1 + i by omega] at this) hy1
  have e:=SzR.le hs (show Rows.uptoBulk y1.1 - 1≤Rows.uptoBulk x.1 - 1 by omega)
  have hw2:-9223372036854775808≤k∧k≤9223372036854775807:=by
   simp [Lit.wf,IntKind.min,IntKind.max,IntKind.signed,IntKind.bits] at hw
   omega
  exact ⟨⟨k,r⟩,hcell 0 _ rfl,h3.up (by omega),by omega,e,hw2.1,hw2.2⟩
theorem pick {α:Type} (d:α) {m:Nat} {P:Nat→α→Prop} (h:∀ j,j < m→∃ t,P j t):∃ f:Nat→α,∀ j,j < m→P j (f j) :=
 ⟨fun j=>if hj:j < m then (h j hj).choose else d,fun j hj=>by simp only [dif_pos hj];exact (h j hj).choose_spec⟩
theorem tot_bulk (ys:List (DataW H)):tot (bulkAt ys) ys.length≤Rows.uptoBulkAll ys + 1:=by
 have h1:=bulk_tot ys (fun d _=>bulk_one d) ys.length (Nat.le_refl _)
 rwa [List.take_length] at h1
theorem bulkAt_eq {ys:List (DataW H)} {j:Nat} {y:DataW H} (h:ys[j]? = some y):bulkAt ys j = Rows.uptoBulk y - 1:=by unfold bulkAt;rw [h]
theorem open_terms {fuel:Nat} {u:Value} {x:DataW H × List MemPlace} (hf:DataW.trod enc Tryz.prog W 0 (fun _=>true) true fuel 52 [u] = some x) :
  ∃ a m cap t Z,u = .slice a m cap∧m≤cap∧LT W a m t Z∧tot Z m≤Rows.uptoBulk x.1:=by
 obtain ⟨a,m,cap,ys,rfl,hm,hl,hb,h⟩:=open_slicec Tryz.underlying52 cellsTerm (by decide) hf
 have ht:=tot_bulk ys
 rw [hl] at ht
 rcases h with h0 | ⟨b,o,rfl,h⟩
 ·exact ⟨a,m,cap,fun _=>⟨0,0⟩,bulkAt ys,rfl,hm,.inl h0,by omega⟩
 ·obtain ⟨t,h⟩:=pick (⟨0,0⟩:PT) (P:=fun j t=>TermAt W b (o + j * 4) t (bulkAt ys j)) (fun j hj=>by
   obtain ⟨cs,n,y,e1,e2,e3,e4⟩:=h j hj
   obtain ⟨t,h1⟩:=open_term e2 e3 e4
   exact ⟨t,by rw [bulkAt_eq e1];exact h1⟩)
  exact ⟨_,m,cap,t,bulkAt ys,rfl,hm,.inr ⟨b,o,rfl,h⟩,by omega⟩
theorem cells_from {b o k m:Nat} {cs:List Value} (hcell:∀ i v,cs[i]? = some v→W.cell? ⟨b,o + i,none⟩ = some v):∀ i v,((cs.drop k).take m)[i]? = some v→W.cell? ⟨b,o + k + i,none⟩ = some v:=by
 intro i v hv
 have h1:cs[k + i]? = some v:=by
  rw [List.getElem?_take] at hv
  split at hv
  ·rw [List.getElem?_drop] at hv;exact hv
  ·cases hv
 have:=hcell _ _ h1
 rwa [← Nat.add_assoc] at this
theorem bulk_str {s:ByteArray}:s.size + 1≤Rows.uptoBulk (H:=H) (.lit (.string s.data.toList)) + 1:=by
 have e:s.data.toList.length = s.size:=by simp
 simp only [Rows.uptoBulk,e]
 omega
set_option maxRecDepth 100000 in
theorem open_var {b o:Nat} {fuel:Nat} {cs:List Value} {x:DataW H × List MemPlace} (hsz:cs.length = 13) (hcell:∀ i v,cs[i]? = some v→W.cell? ⟨b,o + i,none⟩ = some v)
  (hf:DataW.trod enc Tryz.prog W 0 (fun _=>true) true fuel 51 cs = some x):∃ v,VarAt W b o v (Rows.uptoBulk x.1 - 1):=by
 obtain ⟨y0,y1,y2,y3,y4,m,hx,hy0,hy1,hy2,hy3,hy4⟩:=trod_struct5 Tryz.underlying51 hf
 have hB:Rows.uptoBulk x.1 = Rows.uptoBulk y0.1 + (Rows.uptoBulk y1.1 + (Rows.uptoBulk y2.1 + (Rows.uptoBulk y3.1 + (Rows.uptoBulk y4.1 + 0)))) + 1:=by rw [hx];simp only [Rows.uptoBulk,Rows.uptoBulkAll]
 have l0:=bulk_one y0.1
 have l4:=bulk_one y4.1
 simp only [cellsStr,cellsRat,cellsBound,cellsBool] at hy0 hy1 hy2 hy3 hy4
 obtain ⟨nm,e0,x0,_⟩:=DataW.trod_string Tryz.underlying9 hy0
 obtain ⟨wh,e4,x4⟩:=DataW.trod_bool Tryz.underlying4 hy4
 have hn:nm.size≤Rows.uptoBulk y0.1:=by
  have:=bulk_str (H:=H) (s:=nm)
  rw [x0]
  exact Nat.le_of_succ_le_succ this
 obtain ⟨r,c1,s1,g1⟩:=open_c3 (by simp [hsz]) (cells_from hcell) hy1
 obtain ⟨hl,lo,d2,c2,s2,g2⟩:=open_bound (by simp [hsz]) (cells_from hcell) hy2
 obtain ⟨hh,hi,d3,c3,s3,g3⟩:=open_bound (by simp [hsz]) (cells_from hcell) hy3
 have q0:=cells_from (W:=W) (b:=b) (o:=o) (k:=0) (m:=1) hcell 0 (.string nm) (by rw [e0];rfl)
 have q4:=cells_from (W:=W) (b:=b) (o:=o) (k:=12) (m:=1) hcell 0 (.bool wh) (by rw [e4];rfl)
 exact ⟨⟨nm,r,hl,lo,hh,hi,wh⟩,q0,c1.up (by omega),d2,c2.up (by omega),d3,c3.up (by omega),q4,by omega,SzR.le s1 (by omega),SzR.le s2 (by omega),SzR.le s3 (by omega),by show nm.size≤_;omega⟩
set_option maxRecDepth 100000 in
theorem open_row {b o:Nat} {fuel:Nat} {cs:List Value} {x:DataW H × List MemPlace} (hsz:cs.length = 10) (hcell:∀ i v,cs[i]? = some v→W.cell? ⟨b,o + i,none⟩ = some v)
  (hf:DataW.trod enc Tryz.prog W 0 (fun _=>true) true fuel 54 cs = some x):∃ v,RowAt W b o v (Rows.uptoBulk x.1 - 1):=by
 obtain ⟨y0,y1,y2,y3,m,hx,hy0,hy1,hy2,hy3⟩:=trod_struct4' Tryz.underlying54 hf
 have hB:Rows.uptoBulk x.1 = Rows.uptoBulk y0.1 + (Rows.uptoBulk y1.1 + (Rows.uptoBulk y2.1 + (Rows.uptoBulk y3.1 + 0))) + 1:=by rw [hx];simp only [Rows.uptoBulk,Rows.uptoBulkAll]
 have l0:=bulk_one y0.1
 have l1:=bulk_one y1.1
 simp only [cellsStr,cellsTerms,cellsBound] at hy0 hy1 hy2 hy3
 obtain ⟨nm,e0,x0,_⟩:=DataW.trod_string Tryz.underlying9 hy0
 have hn:nm.size≤Rows.uptoBulk y0.1:=by
  have:=bulk_str (H:=H) (s:=nm)
  rw [x0]
  exact Nat.le_of_succ_le_succ this
 have l2:1 < cs.length:=by omega
 have e1:(cs.drop 1).take 1 = [cs[1]]:=by
  rw [List.drop_eq_getElem_cons l2];rfl
 rw [e1] at hy1
 obtain ⟨a,nt,cap,t,Z,eu,hcap,hLT,htot⟩:=open_terms hy1
 obtain ⟨hl,lo,d2,c2,s2,g2⟩:=open_bound (by simp [hsz]) (cells_from hcell) hy2
 obtain ⟨hh,hi,d3,c3,s3,g3⟩:=open_bound (by simp [hsz]) (cells_from hcell) hy3
 have q0:=cells_from (W:=W) (b:=b) (o:=o) (k:=0) (m:=1) hcell 0 (.string nm) (by rw [e0];rfl)
 have q1:=hcell 1 (.slice a nt cap) (by rw [List.getElem?_eq_getElem l2,eu])
 exact ⟨⟨nm,nt,t,hl,lo,hh,hi⟩,q0,⟨a,cap,Z,q1,hLT,by show tot Z nt≤_;omega,hcap⟩,d2,c2.up (by omega),d3,c3.up (by omega),by omega,SzR.le s2 (by omega),SzR.le s3 (by omega),by show nm.size≤_;omega⟩
theorem open_vars {fuel:Nat} {u:Value} {x:DataW H × List MemPlace} (hf:DataW.trod enc Tryz.prog W 0 (fun _=>true) true fuel 28 [u] = some x) :
  ∃ a m cap V Z,u = .slice a m cap∧m≤cap∧LV W a m V Z∧tot Z m≤Rows.uptoBulk x.1:=by
 obtain ⟨a,m,cap,ys,rfl,hm,hl,hb,h⟩:=open_slicec Tryz.underlying28 cellsVar (by decide) hf
 have ht:=tot_bulk ys
 rw [hl] at ht
 have d0:PV:=⟨ByteArray.mk #[],0,false,0,false,0,false⟩
 rcases h with h0 | ⟨b,o,rfl,h⟩
 ·exact ⟨a,m,cap,fun _=>d0,bulkAt ys,rfl,hm,.inl h0,by omega⟩
 ·obtain ⟨t,h⟩:=pick d0 (P:=fun j t=>VarAt W b (o + j * 13) t (bulkAt ys j)) (fun j hj=>by
   obtain ⟨cs,n,y,e1,e2,e3,e4⟩:=h j hj
   obtain ⟨t,h1⟩:=open_var e2 e3 e4
   exact ⟨t,by rw [bulkAt_eq e1];exact h1⟩)
  exact ⟨_,m,cap,t,bulkAt ys,rfl,hm,.inr ⟨b,o,rfl,h⟩,by omega⟩
theorem open_rows {fuel:Nat} {u:Value} {x:DataW H × List MemPlace} (hf:DataW.trod enc Tryz.prog W 0 (fun _=>true) true fuel 29 [u] = some x) :
  ∃ a m cap R Z,u = .slice a m cap∧m≤cap∧LW W a m R Z∧tot Z m≤Rows.uptoBulk x.1:=by
 obtain ⟨a,m,cap,ys,rfl,hm,hl,hb,h⟩:=open_slicec Tryz.underlying29 cellsRow (by decide) hf
 have ht:=tot_bulk ys
 rw [hl] at ht
 have d0:PW:=⟨ByteArray.mk #[],0,fun _=>⟨0,0⟩,false,0,false,0⟩
 rcases h with h0 | ⟨b,o,rfl,h⟩
 ·exact ⟨a,m,cap,fun _=>d0,bulkAt ys,rfl,hm,.inl h0,by omega⟩
 ·obtain ⟨t,h⟩:=pick d0 (P:=fun j t=>RowAt W b (o + j * 10) t (bulkAt ys j)) (fun j hj=>by
   obtain ⟨cs,n,y,e1,e2,e3,e4⟩:=h j hj
   obtain ⟨t,h1⟩:=open_row e2 e3 e4
   exact ⟨t,by rw [bulkAt_eq e1];exact h1⟩)
  exact ⟨_,m,cap,t,bulkAt ys,rfl,hm,.inr ⟨b,o,rfl,h⟩,by omega⟩
structure Prob where
 mx:Bool
 nm:ByteArray
 p:Bool
 a:Option Addr
 na:Nat
 ca:Nat
 d:Option Addr
 nd:Nat
 cd:Nat
 va:Option Addr
 vn:Nat
 vc:Nat
 ra:Option Addr
 rn:Nat
 rc:Nat
 k:Rat
 V:Nat→PV
 ZV:Nat→Nat
 R:Nat→PW
 ZR:Nat→Nat
 S:Nat
 K:Nat
abbrev Prob.val (P:Prob):Value:=.agg #[.bool P.mx,.string P.nm,.bool P.p,.slice P.a P.na P.ca,.slice P.d P.nd P.cd,.slice P.va P.vn P.vc,.slice P.ra P.rn P.rc]
structure PQ (w:World) (P:Prob):Prop where
 k:TR w P.p P.a P.na P.ca P.d P.nd P.cd P.k P.S
 s1:1≤P.S
 sk:SzR P.k P.S
 v:LV w P.va P.vn P.V P.ZV
 r:LW w P.ra P.rn P.R P.ZR
 all:P.S + tot P.ZV P.vn + tot P.ZR P.rn + P.nm.size≤P.K
 vc:P.vn≤P.vc
 rc:P.rn≤P.rc
theorem PQ.below {w w':World} {P:Prob} (h:PQ w P) (hb:Below w.heap.size w w'):PQ w' P:=⟨h.k.below hb,h.s1,h.sk,h.v.below hb,h.r.below hb,h.all,h.vc,h.rc⟩
theorem tot_len (Z:Nat→Nat) (n:Nat):n + 1≤tot Z n:=by
 induction n with
 | zero=>exact Nat.le_refl _
 | succ n ih=>show n + 1 + 1≤tot Z n + Z n + 1;omega
set_option maxRecDepth 100000 in
theorem open_problem {base:Nat} {v:Value} {dd:DataW H} {pl:List MemPlace} (hv:Value.okWide Tryz.prog W .any base 31 v) (h:DataW.Trod enc Tryz.prog W 0 (fun _=>true) true 31 v dd pl) :
  ∃ P:Prob,v = P.val∧PQ W P∧P.K = Rows.uptoBulk dd:=by
 obtain ⟨cs,rfl,hsz⟩:=okWide_struct Tryz.underlying31 hv
 obtain ⟨fuel,hf⟩:=h
 rw [cellsProblem] at hsz
 obtain ⟨l⟩:=cs
 obtain ⟨y0,y1,y2,y3,y4,m,hx,hy0,hy1,hy2,hy3,hy4⟩:=trod_struct5 (cs:=l) (x:=(dd,pl)) Tryz.underlying31 (by simpa [Value.cells] using hf)
 have hB:Rows.uptoBulk dd = Rows.uptoBulk y0.1 + (Rows.uptoBulk y1.1 + (Rows.uptoBulk y2.1 + (Rows.uptoBulk y3.1 + (Rows.uptoBulk y4.1 + 0)))) + 1:=by
  have hx':dd = .agg [y0.1,y1.1,y2.1,y3.1,y4.1]:=hx
  rw [hx'];simp only [Rows.uptoBulk,Rows.uptoBulkAll]
 match l,hsz with
 | [u0,u1,u2,u3,u4,u5,u6],_ =>
  simp only [cellsStr,cellsRat,cellsBool,cellsVars,cellsRows,List.drop_zero,List.drop_succ_cons,List.take_succ_cons,List.take_zero] at hy0 hy1 hy2 hy3 hy4
  obtain ⟨mx,e0,_⟩:=DataW.trod_bool Tryz.underlying4 hy0
  obtain ⟨nm,e1,x1,_⟩:=DataW.trod_string Tryz.underlying9 hy1
  simp only [List.cons.injEq,and_true] at e0 e1
  subst e0 e1
  have hn:nm.size≤Rows.uptoBulk y1.1:=by
   have:=bulk_str (H:=H) (s:=nm)
   rw [x1]
   exact Nat.le_of_succ_le_succ this
  obtain ⟨p,a,na,ca,d,nd,cd,k,e2,hT,h2⟩:=open_ratc rfl hy2
  simp only [List.cons.injEq,and_true] at e2
  obtain ⟨rfl,rfl,rfl⟩:=e2
  obtain ⟨va,vn,vc,V,ZV,rfl,hvc,hLV,hv2⟩:=open_vars hy3
  obtain ⟨ra,rn,rc,R,ZR,rfl,hrc,hLW,hr2⟩:=open_rows hy4
  exact ⟨⟨mx,nm,p,a,na,ca,d,nd,cd,va,vn,vc,ra,rn,rc,k,V,ZV,R,ZR,Rows.uptoBulk y2.1 - 1,Rows.uptoBulk dd⟩,rfl,⟨hT,by show 1≤Rows.uptoBulk y2.1 - 1;omega,hT.sz (by omega),hLV,hLW,by show Rows.uptoBulk y2.1 - 1 + tot ZV vn + tot ZR rn + nm.size≤Rows.uptoBulk dd;omega,hvc,hrc⟩,rfl⟩
theorem trod_problem {W':World} {v:Value} {d:DataW H} {p:List MemPlace} (h:DataW.Trod enc Tryz.prog W 0 (fun _=>true) true 31 v d p) (bel:Below W.heap.size W W') :
  DataW.Trod enc Tryz.prog W' 0 (fun b=>decide (b < W.heap.size)) true 31 v d p :=
 Below.trod laidOut (by kernel_rfl) (of_decide_eq_true (by kernel_rfl)) h bel (trod_blocks h)
end
end Go.Proofs.YtnkpbjmfdfjeiaaGreatDoor

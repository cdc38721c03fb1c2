import Derived.Test.YtceigfafmalfgaaGreatDoorR3M
import Derived.Test.YtceigfafmalfgaaGreatDoorOpAll
namespace Go.Proofs.YtceigfafmalfgaaGreatDoor
open Go.RowKit
theorem TR.up {w:World} {p:Bool} {a:Option Addr} {na ca:Nat} {d:Option Addr} {nd cd:Nat} {r:Rat} {S R:Nat} (h:TR w p a na ca d nd cd r S) (hR:S≤R):TR w p a na ca d nd cd r R:=by
 obtain ⟨x,y,⟨m,⟨xs,h1,h2,h3,h4,h5,h6⟩,h7⟩,⟨ys,g1,g2,g3,g4,g5,g6⟩,g7⟩:=h
 exact ⟨x,y,⟨m,⟨xs,h1,h2,h3,h4,h5,by omega⟩,h7⟩,⟨ys,g1,g2,g3,g4,g5,by omega⟩,g7⟩
def SzR (r:Rat) (T:Nat):Prop:=(r.num.natAbs:Int)<pw T∧(r.den:Int)<pw T
theorem SzR.le {r:Rat} {T R:Nat} (h:SzR r T) (hR:T≤R):SzR r R:=⟨Int.lt_of_lt_of_le h.1 (pw_mono hR),Int.lt_of_lt_of_le h.2 (pw_mono hR)⟩
theorem GR.fit {w:World} {B:Nat} {f:Bool} {c:Option Addr} {n k:Nat} {c':Option Addr} {n' k':Nat} {r:Rat} {S T:Nat} (h:GR w B f c n k c' n' k' r S) (hz:SzR r T):GR w B f c n k c' n' k' r T :=
 ⟨h.1.shrink hz.1,h.2.shrink hz.2,h.3⟩
theorem divInt_sz {x y:Int} {T:Nat} (hx:(x.natAbs:Int)<pw T) (hy:(y.natAbs:Int)<pw T) (hT:1≤T):SzR (Rat.divInt x y) T:=by
 have h1:(1:Int)<pw T:=by
  have:=pw_mono hT
  have e:pw 1=18446744073709551616:=rfl
  omega
 by_cases hy0:y=0
 ·subst hy0
  rw [Rat.divInt_zero]
  exact ⟨by show ((0:Int).natAbs:Int)<_;simp;exact Int.lt_trans (by decide) h1,by show ((1:Nat):Int)<_;exact h1⟩
 ·rw [SzR,Rat.num_divInt,Rat.den_divInt,if_neg hy0]
  have hg:(0:Int)<((Int.gcd y x:Nat):Int):=by
   have:0<Int.gcd y x:=Int.gcd_pos_of_ne_zero_left _ hy0
   omega
  constructor
  ·have hs:y.sign.natAbs≤1:=by rcases Int.sign_trichotomy y with h|h|h <;> simp [h]
   have h2:(y.sign*x/((Int.gcd y x:Nat):Int)).natAbs≤(y.sign*x).natAbs:=by
    rw [Int.natAbs_ediv_of_dvd (Int.dvd_mul_of_dvd_right (Int.gcd_dvd_right _ _))]
    exact Nat.div_le_self _ _
   have h3:(y.sign*x).natAbs≤x.natAbs:=by
    rw [Int.natAbs_mul]
    calc y.sign.natAbs*x.natAbs≤1*x.natAbs:=Nat.mul_le_mul_right _ hs
     _=x.natAbs:=Nat.one_mul _
   omega
  ·have:=Nat.div_le_self y.natAbs (Int.gcd y x)
   omega
theorem TR.sz {w:World} {p:Bool} {a:Option Addr} {na ca:Nat} {d:Option Addr} {nd cd:Nat} {r:Rat} {S:Nat} (h:TR w p a na ca d nd cd r S) (hS:1≤S):SzR r S:=by
 obtain ⟨x,y,hx,hy,rfl⟩:=h
 have h1:(x.natAbs:Int)<pw S:=by
  obtain ⟨m,⟨xs,e1,e2,e3,e4,e5,e6⟩,rfl⟩:=hx
  have:=val_lt e4
  have:=pw_mono (show xs.length≤S by omega)
  have h0:0≤val xs:=val_nn e4
  unfold ws
  cases p <;> simp <;> omega
 have h2:(y.natAbs:Int)<pw S:=by
  obtain ⟨xs,e1,e2,e3,e4,e5,e6⟩:=hy
  have:=val_lt e4
  have:=pw_mono (show xs.length≤S by omega)
  have h0:0≤val xs:=val_nn e4
  omega
 exact divInt_sz h1 h2 hS
theorem SzR.add {r s:Rat} {T R:Nat} (h:SzR r T) (k:SzR s R):SzR (r+s) (T+R+1):=by
 rw [← Rat.num_divInt_den r,← Rat.num_divInt_den s,Rat.divInt_add_divInt _ _ (by have:=r.den_pos;omega) (by have:=s.den_pos;omega)]
 have h1:((r.num*(s.den:Int)).natAbs:Int)<pw (T+R):=mul_lt h.1 (by simpa using k.2)
 have h2:((s.num*(r.den:Int)).natAbs:Int)<pw (T+R):=by rw [Nat.add_comm];exact mul_lt k.1 (by simpa using h.2)
 refine divInt_sz (add_lt h1 h2) ?_ (by omega)
 have h3:=mul_lt (x:=(r.den:Int)) (y:=(s.den:Int)) (S:=T) (R:=R) (by simpa using h.2) (by simpa using k.2)
 exact Int.lt_of_lt_of_le h3 (pw_mono (Nat.le_succ _))
def LQ (w:World) (a:Option Addr) (n:Nat) (X:Nat→Rat) (Z:Nat→Nat):Prop :=
 n=0∨∃ b o,a=some ⟨b,o,none⟩∧∀ i,i<n→∃ p a na ca d nd cd,w.cell? ⟨b,o+i*3,none⟩=some (.bool p)∧w.cell? ⟨b,o+i*3+1,none⟩=some (.slice a na ca)∧w.cell? ⟨b,o+i*3+2,none⟩=some (.slice d nd cd)∧TR w p a na ca d nd cd (X i) (Z i)
def rsum (X:Nat→Rat):Nat→Rat
 | 0=>0
 | n+1=>rsum X n+X n
theorem rsum_succ (X:Nat→Rat) (n:Nat):rsum X (n+1)=rsum X n+X n:=rfl
theorem rsum_congr {X Y:Nat→Rat} {n:Nat} (h:∀ i,i<n→X i=Y i):rsum X n=rsum Y n:=by
 induction n with
 | zero=>rfl
 | succ n ih=>rw [rsum_succ,rsum_succ,ih (fun i hi=>h i (by omega)),h n (by omega)]
def tot (Z:Nat→Nat):Nat→Nat
 | 0=>1
 | n+1=>tot Z n+Z n+1
theorem tot_pos (Z:Nat→Nat) (n:Nat):1≤tot Z n:=by
 induction n with
 | zero=>exact Nat.le_refl _
 | succ n ih=>show 1≤tot Z n+Z n+1;omega
theorem tot_mono (Z:Nat→Nat) {k n:Nat} (h:k≤n):tot Z k≤tot Z n:=by
 induction n with
 | zero =>
  obtain rfl:k=0:=by omega
  exact Nat.le_refl _
 | succ n ih =>
  rcases (by omega:k=n+1∨k≤n) with rfl|h2
  ·exact Nat.le_refl _
  ·have:=ih h2
   show _≤tot Z n+Z n+1
   omega
theorem tot_one {Z:Nat→Nat} {n i:Nat} (h:i<n):Z i+1≤tot Z n:=by
 have:=tot_mono Z (show i+1≤n from h)
 have e:tot Z (i+1)=tot Z i+Z i+1:=rfl
 have:=tot_pos Z i
 omega
theorem sz_zero {T:Nat} (hT:1≤T):SzR 0 T:=by
 have h:=divInt_sz (x:=0) (y:=1) (T:=T) (by have:=pw_pos T;simpa using this) (by have:=pw_mono hT;have e:pw 1=18446744073709551616:=rfl;simp;omega) hT
 rwa [Rat.zero_divInt] at h
theorem rsum_sz {X:Nat→Rat} {Z:Nat→Nat} {n:Nat} (h:∀ i,i<n→SzR (X i) (Z i)):∀ k,k≤n→SzR (rsum X k) (tot Z k)
 | 0,_=>sz_zero (Nat.le_refl _)
 | k+1,hk=>(rsum_sz h k (by omega)).add (h k (by omega))
end Go.Proofs.YtceigfafmalfgaaGreatDoor
namespace Go.Proofs.YtceigfafmalfgaaGreatDoor
open Go.ChangeShapes Go.WideShapes Go.ChangeAt Go.RowKit
set_option maxRecDepth 100000 in
theorem open_natK {H:Type} {enc:TypeId × Value→H} {W:World} {fuel:Nat} {u:Value} {x:DataW H × List MemPlace}
  (hf:DataW.trod enc Tryz.prog W 0 (fun _=>true) true fuel 23 [u]=some x) {K:Nat} (hk:Rows.uptoBulk x.1≤K) :
  ∃ a n cap xs,u = .slice a n cap∧n=xs.length∧n≤cap∧Reads W a xs∧AllW xs∧n≤K:=by
 rcases open_ints Tryz.underlying23 Tryz.underlying57 cellsU64 hf with ⟨hcs,_⟩|⟨p,n,c,zs,hcs,_,hl,hm,hz,hx,hcell,hwz⟩
 ·simp only [List.cons.injEq,and_true] at hcs
  exact ⟨_,_,_,[],hcs,rfl,Nat.le_refl _,.inl rfl,AllW.nil,Nat.zero_le _⟩
 ·simp only [List.cons.injEq,and_true] at hcs
  simp only [if_true] at hz
  rw [hx] at hk
  have hlen:(zs.take n).length=n:=by rw [List.length_take];omega
  have hb:n≤K:=by
   have:=bulk_slice (H:=H) (lits .u64 (zs.take n)) (lits .u64 (zs.drop n))
   have hk2:Rows.uptoBulk (H:=H) (.slice (lits .u64 (zs.take n)) (lits .u64 (zs.drop n)))≤K:=hk
   have e1:(lits (H:=H) .u64 (zs.take n)).length=(zs.take n).length:=by simp [lits]
   omega
  refine ⟨_,_,_,zs.take n,hcs,hlen.symm,hl,?_,?_,hb⟩
  ·by_cases h0:n=0
   ·exact .inl (by simp [h0])
   ·obtain ⟨b,o,spot⟩:=p
    have hc:=hcell 0 (by omega)
    have hspot:spot=none:=by simpa [Addr.add] using World.cell?_spot hc
    subst hspot
    refine .inr ⟨b,o,rfl,fun i hi=>?_⟩
    rw [lm_take (by omega)]
    have:=hcell i (by omega)
    by_cases hi0:i=0
    ·subst hi0;simpa [Addr.add,lm] using this
    ·simpa [Addr.add,lm,hi0] using this
  ·intro y hy
   have:=hwz y (List.mem_of_mem_take hy)
   simp [Lit.wf,IntKind.min,IntKind.max,IntKind.signed,IntKind.bits] at this
   exact ⟨by omega,by omega⟩
set_option maxRecDepth 100000 in
theorem open_ratc {H:Type} {enc:TypeId × Value→H} {W:World} {fuel:Nat} {cs:List Value} {x:DataW H × List MemPlace} (hsz:cs.length=3)
  (hf:DataW.trod enc Tryz.prog W 0 (fun _=>true) true fuel 27 cs=some x) :
  ∃ b a n cap a' n' cap' r,cs=[.bool b,.slice a n cap,.slice a' n' cap']∧TR W b a n cap a' n' cap' r (Rows.uptoBulk x.1-1)∧2≤Rows.uptoBulk x.1:=by
 obtain ⟨y0,y1,m,hx,_,hy0,hy1⟩:=trod_struct2 Tryz.underlying27 hf
 match cs,hsz with
 | [u0,u1,u2],_ =>
  simp only [cellsInt,cellsNatI,List.drop_zero,List.drop_succ_cons,List.take_succ_cons,List.take_zero] at hy0 hy1
  have hd:x.1 = .agg [y0.1,y1.1]:=by rw [hx]
  obtain ⟨z0,z1,m',hx',_,hz0,hz1⟩:=trod_struct2 Tryz.underlying25 hy0
  simp only [cellsBool,cellsNatI,List.drop_zero,List.drop_succ_cons,List.take_succ_cons,List.take_zero] at hz0 hz1
  have hd':y0.1 = .agg [z0.1,z1.1]:=by rw [hx']
  have hB:Rows.uptoBulk x.1=Rows.uptoBulk y0.1+(Rows.uptoBulk y1.1+0)+1:=by rw [hd];simp only [Rows.uptoBulk,Rows.uptoBulkAll]
  have hB':Rows.uptoBulk y0.1=Rows.uptoBulk z0.1+(Rows.uptoBulk z1.1+0)+1:=by rw [hd'];simp only [Rows.uptoBulk,Rows.uptoBulkAll]
  obtain ⟨a,n,cap,xs,rfl,h1,h2,h3,h4,h5⟩:=open_natK hz1 (Nat.le_refl _)
  obtain ⟨a',n',cap',ys,rfl,k1,k2,k3,k4,k5⟩:=open_natK hy1 (Nat.le_refl _)
  have hbool:∃ b,u0 = .bool b:=by
   cases m' with
   | zero=>simp [DataW.trod] at hz0
   | succ m' =>
    simp only [DataW.trod,Tryz.underlying4] at hz0
    cases u0 <;> simp_all
  obtain ⟨b,rfl⟩:=hbool
  exact ⟨b,a,n,cap,a',n',cap',_,rfl,⟨_,_,⟨_,⟨xs,h1,h2,h3,h4,rfl,by omega⟩,rfl⟩,⟨ys,k1,k2,k3,k4,rfl,by omega⟩,rfl⟩,by omega⟩
def bulkAt {H:Type} (l:List (DataW H)) (i:Nat):Nat:=match l[i]? with
 | some d=>Rows.uptoBulk d-1
 | none=>0
theorem bulk_snoc {H:Type} (l:List (DataW H)) (d:DataW H):Rows.uptoBulkAll (l++[d])=Rows.uptoBulkAll l+Rows.uptoBulk d:=by
 induction l with
 | nil=>simp [Rows.uptoBulkAll]
 | cons x r ih=>simp only [List.cons_append,Rows.uptoBulkAll,ih];omega
theorem bulk_tot {H:Type} (l:List (DataW H)) (h:∀ d ∈ l,1≤Rows.uptoBulk d) (n:Nat) (hn:n≤l.length):tot (bulkAt l) n≤Rows.uptoBulkAll (l.take n)+1:=by
 induction n with
 | zero=>simp [tot,Rows.uptoBulkAll]
 | succ n ih =>
  have hlt:n<l.length:=hn
  have h1:=ih (by omega)
  have h2:=h l[n] (List.getElem_mem hlt)
  rw [List.take_succ_eq_append_getElem hlt,bulk_snoc]
  show tot (bulkAt l) n+bulkAt l n+1≤_
  have e:bulkAt l n=Rows.uptoBulk l[n]-1:=by unfold bulkAt;rw [List.getElem?_eq_getElem hlt]
  omega
end Go.Proofs.YtceigfafmalfgaaGreatDoor
namespace Go.Proofs.YtceigfafmalfgaaGreatDoor
open Go.ChangeShapes Go.WideShapes Go.ChangeAt Go.RowKit
section
variable {H:Type} {enc:TypeId × Value→H} {W:World}
theorem cellsIntg:Tryz.prog.cellsOf 3=1:=by kernel_rfl
theorem trod_struct5 {P:Program} {t:TypeId} {f0 f1 f2 f3 f4:Field} {fuel:Nat} {cs:List Value} {x:DataW H × List MemPlace} (ht:P.underlying t=some (.struct #[f0,f1,f2,f3,f4])) (h:DataW.trod enc P W 0 (fun _=>true) true fuel t cs=some x) :
  ∃ y0 y1 y2 y3 y4 n,x.1 = .agg [y0.1,y1.1,y2.1,y3.1,y4.1]∧DataW.trod enc P W 0 (fun _=>true) true n f0.type ((cs.drop f0.offset).take (P.cellsOf f0.type))=some y0 ∧
   DataW.trod enc P W 0 (fun _=>true) true n f1.type ((cs.drop f1.offset).take (P.cellsOf f1.type))=some y1∧DataW.trod enc P W 0 (fun _=>true) true n f2.type ((cs.drop f2.offset).take (P.cellsOf f2.type))=some y2 ∧
   DataW.trod enc P W 0 (fun _=>true) true n f3.type ((cs.drop f3.offset).take (P.cellsOf f3.type))=some y3∧DataW.trod enc P W 0 (fun _=>true) true n f4.type ((cs.drop f4.offset).take (P.cellsOf f4.type))=some y4:=by
 obtain ⟨xs,n,_,rfl,hl,hlen,hf⟩:=DataW.trod_struct ht h
 match xs,hlen with
 | [y0,y1,y2,y3,y4],_=>exact ⟨y0,y1,y2,y3,y4,n,by simp,by simpa using hf 0 f0 rfl,by simpa using hf 1 f1 rfl,by simpa using hf 2 f2 rfl,by simpa using hf 3 f3 rfl,by simpa using hf 4 f4 rfl⟩
theorem trod_struct4' {P:Program} {t:TypeId} {f0 f1 f2 f3:Field} {fuel:Nat} {cs:List Value} {x:DataW H × List MemPlace} (ht:P.underlying t=some (.struct #[f0,f1,f2,f3])) (h:DataW.trod enc P W 0 (fun _=>true) true fuel t cs=some x) :
  ∃ y0 y1 y2 y3 n,x.1 = .agg [y0.1,y1.1,y2.1,y3.1]∧DataW.trod enc P W 0 (fun _=>true) true n f0.type ((cs.drop f0.offset).take (P.cellsOf f0.type))=some y0 ∧
   DataW.trod enc P W 0 (fun _=>true) true n f1.type ((cs.drop f1.offset).take (P.cellsOf f1.type))=some y1∧DataW.trod enc P W 0 (fun _=>true) true n f2.type ((cs.drop f2.offset).take (P.cellsOf f2.type))=some y2 ∧
   DataW.trod enc P W 0 (fun _=>true) true n f3.type ((cs.drop f3.offset).take (P.cellsOf f3.type))=some y3:=by
 obtain ⟨xs,n,_,rfl,hl,hlen,hf⟩:=DataW.trod_struct ht h
 match xs,hlen with
 | [y0,y1,y2,y3],_=>exact ⟨y0,y1,y2,y3,n,by simp,by simpa using hf 0 f0 rfl,by simpa using hf 1 f1 rfl,by simpa using hf 2 f2 rfl,by simpa using hf 3 f3 rfl⟩
set_option maxRecDepth 100000 in
theorem open_slicec {fuel:Nat} {u:Value} {x:DataW H × List MemPlace} {T E:TypeId} {c:Nat} (hT:Tryz.prog.underlying T=some (.slice E)) (hE:Tryz.prog.cellsOf E=c) (hc:0<c)
  (hf:DataW.trod enc Tryz.prog W 0 (fun _=>true) true fuel T [u]=some x) :
  ∃ a m cap,∃ ys:List (DataW H),u = .slice a m cap∧m≤cap∧ys.length=m∧Rows.uptoBulkAll ys+1≤Rows.uptoBulk x.1 ∧
   (m=0∨∃ b o,a=some ⟨b,o,none⟩∧∀ j,j<m→∃ cs n y,ys[j]? = some y.1∧cs.length=c∧(∀ i v,cs[i]? = some v→W.cell? ⟨b,o+j*c+i,none⟩=some v)∧DataW.trod enc Tryz.prog W 0 (fun _=>true) true n E cs=some y):=by
 rcases DataW.trod_slice hT hf with ⟨hcs,hx⟩|⟨ad,len,cap',elems,rest,n,_,hcs,hx,_,hl,_,hlen,hel,_⟩
 ·simp only [List.cons.injEq,and_true] at hcs
  subst hcs hx
  exact ⟨_,_,_,[],rfl,Nat.le_refl _,rfl,by simp [Rows.uptoBulkAll,Rows.uptoBulk],.inl rfl⟩
 ·simp only [List.cons.injEq,and_true] at hcs
  subst hcs hx
  refine ⟨_,_,_,elems.map (·.1),rfl,hl,by simpa using hlen,by simp only [Rows.uptoBulk];omega,?_⟩
  rcases Nat.eq_zero_or_pos len with h0|h0
  ·exact .inl h0
  ·right
   rw [hE] at hel
   have key:∀ j,j<len→∃ cs y,elems[j]? = some y∧cs.length=c∧(∀ i u,cs[i]? = some u→W.cell? ((ad.add (j*c)).add i)=some u)∧DataW.trod enc Tryz.prog W 0 (fun _=>true) true n E cs=some y:=by
    intro j hj
    have hE:=hel j hj
    rw [List.getElem?_eq_getElem (by omega)] at hE
    simp only [Option.bind_eq_some_iff] at hE
    obtain ⟨c1,hc1,hy1⟩:=hE
    obtain ⟨_,hlen1,hcell1⟩:=World.cells?_some hc1
    refine ⟨c1,_,List.getElem?_eq_getElem (by omega),hlen1,fun i u hu=>?_,hy1⟩
    have hi:i<c1.length:=(List.getElem?_eq_some_iff.1 hu).1
    rw [hcell1 i (by omega)];exact hu
   obtain ⟨b,o,spot⟩:=ad
   have hspot:spot=none:=by
    obtain ⟨cs,y,_,hl1,hc1,_⟩:=key 0 h0
    have h1:=hc1 0 cs[0] (List.getElem?_eq_getElem (by omega))
    simpa [Addr.add] using World.cell?_spot h1
   subst hspot
   refine ⟨b,o,rfl,fun j hj=>?_⟩
   obtain ⟨cs,y,hy,hl1,hc1,ht⟩:=key j hj
   refine ⟨cs,n,y,by rw [List.getElem?_map,hy];rfl,hl1,fun i v hv=>?_,ht⟩
   have h1:=hc1 i v hv
   have g0:((Addr.mk b o none).add (j*c)).add i=⟨b,o+j*c+i,none⟩:=by
    unfold Addr.add
    by_cases e1:j*c=0
    ·by_cases e2:i=0
     ·simp [e1,e2]
     ·simp [e1,e2]
    ·by_cases e2:i=0
     ·simp [e1,e2]
     ·simp [e1,e2]
   rw [g0] at h1
   exact h1
theorem pick {α:Type} (d:α) {m:Nat} {P:Nat→α→Prop} (h:∀ j,j<m→∃ t,P j t):∃ f:Nat→α,∀ j,j<m→P j (f j) :=
 ⟨fun j=>if hj:j<m then (h j hj).choose else d,fun j hj=>by simp only [dif_pos hj];exact (h j hj).choose_spec⟩
theorem tot_bulk (ys:List (DataW H)):tot (bulkAt ys) ys.length≤Rows.uptoBulkAll ys+1:=by
 have h1:=bulk_tot ys (fun d _=>bulk_one d) ys.length (Nat.le_refl _)
 rwa [List.take_length] at h1
theorem bulkAt_eq {ys:List (DataW H)} {j:Nat} {y:DataW H} (h:ys[j]? = some y):bulkAt ys j=Rows.uptoBulk y-1:=by unfold bulkAt;rw [h]
end
end Go.Proofs.YtceigfafmalfgaaGreatDoor

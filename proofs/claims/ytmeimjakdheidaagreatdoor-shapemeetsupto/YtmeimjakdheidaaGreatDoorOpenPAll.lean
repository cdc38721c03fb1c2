import Derived.Test.YtmeimjakdheidaaGreatDoorR3LiAll
import Derived.Test.YtmeimjakdheidaaGreatDoorRatAll
import Derived.Deep.AppendLies
set_option maxRecDepth 100000
namespace Go.Proofs.YtmeimjakdheidaaGreatDoor
open Go.ChangeShapes Go.WideShapes Go.ChangeAt Go.RowKit
structure PV where
 nm:ByteArray
 obj:Rat
 hlo:Bool
 lo:Rat
 hhi:Bool
 hi:Rat
 whole:Bool
structure PT where
 var:Int
 coef:Rat
structure PW where
 nm:ByteArray
 nt:Nat
 t:Nat→PT
 hlo:Bool
 lo:Rat
 hhi:Bool
 hi:Rat
def C3 (w:World) (b o:Nat) (r:Rat) (S:Nat):Prop :=
 ∃ p a na ca d nd cd,w.cell? ⟨b,o,none⟩=some (.bool p)∧w.cell? ⟨b,o+1,none⟩=some (.slice a na ca)∧w.cell? ⟨b,o+2,none⟩=some (.slice d nd cd)∧TR w p a na ca d nd cd r S
theorem C3.below {w w':World} {b o:Nat} {r:Rat} {S:Nat} (h:C3 w b o r S) (hb:Below w.heap.size w w'):C3 w' b o r S:=by
 obtain ⟨p,a,na,ca,d,nd,cd,h1,h2,h3,h4⟩:=h
 exact ⟨p,a,na,ca,d,nd,cd,aG hb h1,aG hb h2,aG hb h3,h4.below hb⟩
def TermAt (w:World) (b o:Nat) (t:PT) (S:Nat):Prop:=w.cell? ⟨b,o,none⟩=some (.int .i64 t.var)∧C3 w b (o+1) t.coef S∧1≤S∧SzR t.coef S∧-9223372036854775808≤t.var∧t.var≤9223372036854775807
theorem TermAt.below {w w':World} {b o:Nat} {t:PT} {S:Nat} (h:TermAt w b o t S) (hb:Below w.heap.size w w'):TermAt w' b o t S:=⟨aG hb h.1,h.2.1.below hb,h.2.2⟩
def LT (w:World) (a:Option Addr) (n:Nat) (t:Nat→PT) (Z:Nat→Nat):Prop :=
 n=0∨∃ b o,a=some ⟨b,o,none⟩∧∀ i,i<n→TermAt w b (o+i*4) (t i) (Z i)
theorem LT.below {w w':World} {a:Option Addr} {n:Nat} {t:Nat→PT} {Z:Nat→Nat} (h:LT w a n t Z) (hb:Below w.heap.size w w'):LT w' a n t Z:=by
 rcases h with h|⟨b,o,rfl,h⟩
 ·exact .inl h
 ·exact .inr ⟨b,o,rfl,fun i hi=>(h i hi).below hb⟩
structure VarAt (w:World) (b o:Nat) (v:PV) (S:Nat):Prop where
 nm:w.cell? ⟨b,o,none⟩=some (.string v.nm)
 obj:C3 w b (o+1) v.obj S
 hlo:w.cell? ⟨b,o+4,none⟩=some (.bool v.hlo)
 lo:C3 w b (o+5) v.lo S
 hhi:w.cell? ⟨b,o+8,none⟩=some (.bool v.hhi)
 hi:C3 w b (o+9) v.hi S
 whole:w.cell? ⟨b,o+12,none⟩=some (.bool v.whole)
 s1:1≤S
 sobj:SzR v.obj S
 slo:SzR v.lo S
 shi:SzR v.hi S
 snm:v.nm.size≤S
theorem VarAt.below {w w':World} {b o:Nat} {v:PV} {S:Nat} (h:VarAt w b o v S) (hb:Below w.heap.size w w'):VarAt w' b o v S :=
 ⟨aG hb h.nm,h.obj.below hb,aG hb h.hlo,h.lo.below hb,aG hb h.hhi,h.hi.below hb,aG hb h.whole,h.s1,h.sobj,h.slo,h.shi,h.snm⟩
def LV (w:World) (a:Option Addr) (n:Nat) (V:Nat→PV) (Z:Nat→Nat):Prop :=
 n=0∨∃ b o,a=some ⟨b,o,none⟩∧∀ i,i<n→VarAt w b (o+i*13) (V i) (Z i)
theorem LV.below {w w':World} {a:Option Addr} {n:Nat} {V:Nat→PV} {Z:Nat→Nat} (h:LV w a n V Z) (hb:Below w.heap.size w w'):LV w' a n V Z:=by
 rcases h with h|⟨b,o,rfl,h⟩
 ·exact .inl h
 ·exact .inr ⟨b,o,rfl,fun i hi=>(h i hi).below hb⟩
structure RowAt (w:World) (b o:Nat) (r:PW) (S:Nat):Prop where
 nm:w.cell? ⟨b,o,none⟩=some (.string r.nm)
 terms:∃ a cap Z,w.cell? ⟨b,o+1,none⟩=some (.slice a r.nt cap)∧LT w a r.nt r.t Z∧tot Z r.nt≤S∧r.nt≤cap
 hlo:w.cell? ⟨b,o+2,none⟩=some (.bool r.hlo)
 lo:C3 w b (o+3) r.lo S
 hhi:w.cell? ⟨b,o+6,none⟩=some (.bool r.hhi)
 hi:C3 w b (o+7) r.hi S
 s1:1≤S
 slo:SzR r.lo S
 shi:SzR r.hi S
 snm:r.nm.size≤S
theorem RowAt.below {w w':World} {b o:Nat} {r:PW} {S:Nat} (h:RowAt w b o r S) (hb:Below w.heap.size w w'):RowAt w' b o r S:=by
 obtain ⟨a,cap,Z,h1,h2,h3⟩:=h.terms
 exact ⟨aG hb h.nm,⟨a,cap,Z,aG hb h1,h2.below hb,h3⟩,aG hb h.hlo,h.lo.below hb,aG hb h.hhi,h.hi.below hb,h.s1,h.slo,h.shi,h.snm⟩
def LW (w:World) (a:Option Addr) (n:Nat) (R:Nat→PW) (Z:Nat→Nat):Prop :=
 n=0∨∃ b o,a=some ⟨b,o,none⟩∧∀ i,i<n→RowAt w b (o+i*10) (R i) (Z i)
theorem LW.below {w w':World} {a:Option Addr} {n:Nat} {R:Nat→PW} {Z:Nat→Nat} (h:LW w a n R Z) (hb:Below w.heap.size w w'):LW w' a n R Z:=by
 rcases h with h|⟨b,o,rfl,h⟩
 ·exact .inl h
 ·exact .inr ⟨b,o,rfl,fun i hi=>(h i hi).below hb⟩
section
variable {H:Type} {enc:TypeId × Value→H} {W:World}
theorem sK:Tryz.prog.cellsOf 48=4:=by kernel_rfl
theorem cellsTerm:Tryz.prog.cellsOf 52=4:=by kernel_rfl
theorem cellsVar:Tryz.prog.cellsOf 50=13:=by kernel_rfl
theorem cellsRow:Tryz.prog.cellsOf 55=10:=by kernel_rfl
theorem wK:Tryz.prog.cellsOf 31=7:=by kernel_rfl
theorem sN:Tryz.prog.cellsOf 9=1:=by kernel_rfl
theorem cellsTerms:Tryz.prog.cellsOf 53=1:=by kernel_rfl
theorem cellsVars:Tryz.prog.cellsOf 28=1:=by kernel_rfl
theorem cellsRows:Tryz.prog.cellsOf 29=1:=by kernel_rfl
theorem wL {b o:Nat} {fuel:Nat} {cs:List Value} {x:DataW H × List MemPlace} (hsz:cs.length=3) (hcell:∀ i v,cs[i]? = some v→W.cell? ⟨b,o+i,none⟩=some v)
 (hf:DataW.trod enc Tryz.prog W 0 (fun _=>true) true fuel 27 cs=some x):∃ r,C3 W b o r (Rows.uptoBulk x.1-1)∧SzR r (Rows.uptoBulk x.1-1)∧2≤Rows.uptoBulk x.1:=by
 obtain ⟨p,a,n,cap,a',n',cap',r,rfl,hT,h2⟩:=pR hsz hf
 exact ⟨r,⟨p,a,n,cap,a',n',cap',hcell 0 _ rfl,hcell 1 _ rfl,hcell 2 _ rfl,hT⟩,hT.sz (by omega),h2⟩
theorem C3.up {w:World} {b o:Nat} {r:Rat} {S R:Nat} (h:C3 w b o r S) (hR:S≤R):C3 w b o r R:=by
 obtain ⟨p,a,na,ca,d,nd,cd,h1,h2,h3,h4⟩:=h
 exact ⟨p,a,na,ca,d,nd,cd,h1,h2,h3,h4.up hR⟩
theorem kF {b o:Nat} {fuel:Nat} {cs:List Value} {x:DataW H × List MemPlace} (hsz:cs.length=4) (hcell:∀ i v,cs[i]? = some v→W.cell? ⟨b,o+i,none⟩=some v)
 (hf:DataW.trod enc Tryz.prog W 0 (fun _=>true) true fuel 48 cs=some x):∃ h r,W.cell? ⟨b,o,none⟩=some (.bool h)∧C3 W b (o+1) r (Rows.uptoBulk x.1-1)∧SzR r (Rows.uptoBulk x.1-1)∧2≤Rows.uptoBulk x.1:=by
 obtain ⟨y0,y1,m,hx,_,hy0,hy1⟩:=trod_struct2 Tryz.underlying48 hf
 have hB:Rows.uptoBulk x.1=Rows.uptoBulk y0.1+(Rows.uptoBulk y1.1+0)+1:=by rw [hx];simp only [Rows.uptoBulk,Rows.uptoBulkAll]
 match cs,hsz with
 | [u0,u1,u2,u3],_ =>
  simp only [mP,lG,List.drop_zero,List.drop_succ_cons,List.take_succ_cons,List.take_zero] at hy0 hy1
  obtain ⟨h,hc,hx0⟩:=DataW.trod_bool Tryz.underlying4 hy0
  simp only [List.cons.injEq,and_true] at hc
  subst hc
  obtain ⟨r,h3,hs,h2⟩:=wL (b:=b) (o:=o+1) rfl (fun i v hv=>by have:=hcell (i+1) v (by simpa using hv);rwa [show o+(i+1)=o+1+i by omega] at this) hy1
  have e:=SzR.le hs (show Rows.uptoBulk y1.1-1≤Rows.uptoBulk x.1-1 by omega)
  exact ⟨h,r,hcell 0 _ rfl,h3.up (by omega),e,by omega⟩
theorem open_term {b o:Nat} {fuel:Nat} {cs:List Value} {x:DataW H × List MemPlace} (hsz:cs.length=4) (hcell:∀ i v,cs[i]? = some v→W.cell? ⟨b,o+i,none⟩=some v)
 (hf:DataW.trod enc Tryz.prog W 0 (fun _=>true) true fuel 52 cs=some x):∃ t,TermAt W b o t (Rows.uptoBulk x.1-1):=by
 obtain ⟨y0,y1,m,hx,_,hy0,hy1⟩:=trod_struct2 Tryz.underlying52 hf
 have hB:Rows.uptoBulk x.1=Rows.uptoBulk y0.1+(Rows.uptoBulk y1.1+0)+1:=by rw [hx];simp only [Rows.uptoBulk,Rows.uptoBulkAll]
 match cs,hsz with
 | [u0,u1,u2,u3],_ =>
  simp only [cellsIntg,lG,List.drop_zero,List.drop_succ_cons,List.take_succ_cons,List.take_zero] at hy0 hy1
  obtain ⟨k,hc,hx0,hw⟩:=DataW.trod_int Tryz.underlying3 hy0
  simp only [List.cons.injEq,and_true] at hc
  subst hc
  obtain ⟨r,h3,hs,h2⟩:=wL (b:=b) (o:=o+1) rfl (fun i v hv=>by have:=hcell (i+1) v (by simpa using hv);rwa [show o+(i+1)=o+1+i by omega] at this) hy1
  have e:=SzR.le hs (show Rows.uptoBulk y1.1-1≤Rows.uptoBulk x.1-1 by omega)
  have hw2:-9223372036854775808≤k∧k≤9223372036854775807:=by
   simp [Lit.wf,IntKind.min,IntKind.max,IntKind.signed,IntKind.bits] at hw
   omega
  exact ⟨⟨k,r⟩,hcell 0 _ rfl,h3.up (by omega),by omega,e,hw2.1,hw2.2⟩
theorem open_terms {fuel:Nat} {u:Value} {x:DataW H × List MemPlace} (hf:DataW.trod enc Tryz.prog W 0 (fun _=>true) true fuel 53 [u]=some x) :
 ∃ a m cap t Z,u = .slice a m cap∧m≤cap∧LT W a m t Z∧tot Z m≤Rows.uptoBulk x.1:=by
 obtain ⟨a,m,cap,ys,rfl,hm,hl,hb,h⟩:=lI Tryz.underlying53 cellsTerm (by decide) hf
 have ht:=sJ ys
 rw [hl] at ht
 rcases h with h0|⟨b,o,rfl,h⟩
 ·exact ⟨a,m,cap,fun _=>⟨0,0⟩,eX ys,rfl,hm,.inl h0,by omega⟩
 ·obtain ⟨t,h⟩:=pick (⟨0,0⟩:PT) (P:=fun j t=>TermAt W b (o+j*4) t (eX ys j)) (fun j hj=>by
   obtain ⟨cs,n,y,e1,e2,e3,e4⟩:=h j hj
   obtain ⟨t,h1⟩:=open_term e2 e3 e4
   exact ⟨t,by rw [pU e1];exact h1⟩)
  exact ⟨_,m,cap,t,eX ys,rfl,hm,.inr ⟨b,o,rfl,h⟩,by omega⟩
theorem cells_from {b o k m:Nat} {cs:List Value} (hcell:∀ i v,cs[i]? = some v→W.cell? ⟨b,o+i,none⟩=some v):∀ i v,((cs.drop k).take m)[i]? = some v→W.cell? ⟨b,o+k+i,none⟩=some v:=by
 intro i v hv
 have h1:cs[k+i]? = some v:=by
  rw [List.getElem?_take] at hv
  split at hv
  ·rw [List.getElem?_drop] at hv;exact hv
  ·cases hv
 have:=hcell _ _ h1
 rwa [← Nat.add_assoc] at this
theorem sO {s:ByteArray}:s.size+1≤Rows.uptoBulk (H:=H) (.lit (.string s.data.toList))+1:=by
 have e:s.data.toList.length=s.size:=by simp
 simp only [Rows.uptoBulk,e]
 omega
theorem open_var {b o:Nat} {fuel:Nat} {cs:List Value} {x:DataW H × List MemPlace} (hsz:cs.length=13) (hcell:∀ i v,cs[i]? = some v→W.cell? ⟨b,o+i,none⟩=some v)
 (hf:DataW.trod enc Tryz.prog W 0 (fun _=>true) true fuel 50 cs=some x):∃ v,VarAt W b o v (Rows.uptoBulk x.1-1):=by
 obtain ⟨y0,y1,y2,y3,y4,m,hx,hy0,hy1,hy2,hy3,hy4⟩:=oI Tryz.underlying50 hf
 have hB:Rows.uptoBulk x.1=Rows.uptoBulk y0.1+(Rows.uptoBulk y1.1+(Rows.uptoBulk y2.1+(Rows.uptoBulk y3.1+(Rows.uptoBulk y4.1+0))))+1:=by rw [hx];simp only [Rows.uptoBulk,Rows.uptoBulkAll]
 have l0:=iL y0.1
 have l4:=iL y4.1
 simp only [sN,lG,sK,mP] at hy0 hy1 hy2 hy3 hy4
 obtain ⟨nm,e0,x0,_⟩:=DataW.trod_string Tryz.underlying9 hy0
 obtain ⟨wh,e4,x4⟩:=DataW.trod_bool Tryz.underlying4 hy4
 have hn:nm.size≤Rows.uptoBulk y0.1:=by
  have:=sO (H:=H) (s:=nm)
  rw [x0]
  exact Nat.le_of_succ_le_succ this
 obtain ⟨r,c1,s1,g1⟩:=wL (by simp [hsz]) (cells_from hcell) hy1
 obtain ⟨hl,lo,d2,c2,s2,g2⟩:=kF (by simp [hsz]) (cells_from hcell) hy2
 obtain ⟨hh,hi,d3,c3,s3,g3⟩:=kF (by simp [hsz]) (cells_from hcell) hy3
 have q0:=cells_from (W:=W) (b:=b) (o:=o) (k:=0) (m:=1) hcell 0 (.string nm) (by rw [e0];rfl)
 have q4:=cells_from (W:=W) (b:=b) (o:=o) (k:=12) (m:=1) hcell 0 (.bool wh) (by rw [e4];rfl)
 exact ⟨⟨nm,r,hl,lo,hh,hi,wh⟩,q0,c1.up (by omega),d2,c2.up (by omega),d3,c3.up (by omega),q4,by omega,SzR.le s1 (by omega),SzR.le s2 (by omega),SzR.le s3 (by omega),by show nm.size≤_;omega⟩
theorem open_row {b o:Nat} {fuel:Nat} {cs:List Value} {x:DataW H × List MemPlace} (hsz:cs.length=10) (hcell:∀ i v,cs[i]? = some v→W.cell? ⟨b,o+i,none⟩=some v)
 (hf:DataW.trod enc Tryz.prog W 0 (fun _=>true) true fuel 55 cs=some x):∃ v,RowAt W b o v (Rows.uptoBulk x.1-1):=by
 obtain ⟨y0,y1,y2,y3,m,hx,hy0,hy1,hy2,hy3⟩:=uJ Tryz.underlying55 hf
 have hB:Rows.uptoBulk x.1=Rows.uptoBulk y0.1+(Rows.uptoBulk y1.1+(Rows.uptoBulk y2.1+(Rows.uptoBulk y3.1+0)))+1:=by rw [hx];simp only [Rows.uptoBulk,Rows.uptoBulkAll]
 have l0:=iL y0.1
 have l1:=iL y1.1
 simp only [sN,cellsTerms,sK] at hy0 hy1 hy2 hy3
 obtain ⟨nm,e0,x0,_⟩:=DataW.trod_string Tryz.underlying9 hy0
 have hn:nm.size≤Rows.uptoBulk y0.1:=by
  have:=sO (H:=H) (s:=nm)
  rw [x0]
  exact Nat.le_of_succ_le_succ this
 have l2:1<cs.length:=by omega
 have e1:(cs.drop 1).take 1=[cs[1]]:=by
  rw [List.drop_eq_getElem_cons l2];rfl
 rw [e1] at hy1
 obtain ⟨a,nt,cap,t,Z,eu,hcap,hLT,htot⟩:=open_terms hy1
 obtain ⟨hl,lo,d2,c2,s2,g2⟩:=kF (by simp [hsz]) (cells_from hcell) hy2
 obtain ⟨hh,hi,d3,c3,s3,g3⟩:=kF (by simp [hsz]) (cells_from hcell) hy3
 have q0:=cells_from (W:=W) (b:=b) (o:=o) (k:=0) (m:=1) hcell 0 (.string nm) (by rw [e0];rfl)
 have q1:=hcell 1 (.slice a nt cap) (by rw [List.getElem?_eq_getElem l2,eu])
 exact ⟨⟨nm,nt,t,hl,lo,hh,hi⟩,q0,⟨a,cap,Z,q1,hLT,by show tot Z nt≤_;omega,hcap⟩,d2,c2.up (by omega),d3,c3.up (by omega),by omega,SzR.le s2 (by omega),SzR.le s3 (by omega),by show nm.size≤_;omega⟩
theorem open_vars {fuel:Nat} {u:Value} {x:DataW H × List MemPlace} (hf:DataW.trod enc Tryz.prog W 0 (fun _=>true) true fuel 28 [u]=some x) :
 ∃ a m cap V Z,u = .slice a m cap∧m≤cap∧LV W a m V Z∧tot Z m≤Rows.uptoBulk x.1:=by
 obtain ⟨a,m,cap,ys,rfl,hm,hl,hb,h⟩:=lI Tryz.underlying28 cellsVar (by decide) hf
 have ht:=sJ ys
 rw [hl] at ht
 have d0:PV:=⟨ByteArray.mk #[],0,false,0,false,0,false⟩
 rcases h with h0|⟨b,o,rfl,h⟩
 ·exact ⟨a,m,cap,fun _=>d0,eX ys,rfl,hm,.inl h0,by omega⟩
 ·obtain ⟨t,h⟩:=pick d0 (P:=fun j t=>VarAt W b (o+j*13) t (eX ys j)) (fun j hj=>by
   obtain ⟨cs,n,y,e1,e2,e3,e4⟩:=h j hj
   obtain ⟨t,h1⟩:=open_var e2 e3 e4
   exact ⟨t,by rw [pU e1];exact h1⟩)
  exact ⟨_,m,cap,t,eX ys,rfl,hm,.inr ⟨b,o,rfl,h⟩,by omega⟩
theorem open_rows {fuel:Nat} {u:Value} {x:DataW H × List MemPlace} (hf:DataW.trod enc Tryz.prog W 0 (fun _=>true) true fuel 29 [u]=some x) :
 ∃ a m cap R Z,u = .slice a m cap∧m≤cap∧LW W a m R Z∧tot Z m≤Rows.uptoBulk x.1:=by
 obtain ⟨a,m,cap,ys,rfl,hm,hl,hb,h⟩:=lI Tryz.underlying29 cellsRow (by decide) hf
 have ht:=sJ ys
 rw [hl] at ht
 have d0:PW:=⟨ByteArray.mk #[],0,fun _=>⟨0,0⟩,false,0,false,0⟩
 rcases h with h0|⟨b,o,rfl,h⟩
 ·exact ⟨a,m,cap,fun _=>d0,eX ys,rfl,hm,.inl h0,by omega⟩
 ·obtain ⟨t,h⟩:=pick d0 (P:=fun j t=>RowAt W b (o+j*10) t (eX ys j)) (fun j hj=>by
   obtain ⟨cs,n,y,e1,e2,e3,e4⟩:=h j hj
   obtain ⟨t,h1⟩:=open_row e2 e3 e4
   exact ⟨t,by rw [pU e1];exact h1⟩)
  exact ⟨_,m,cap,t,eX ys,rfl,hm,.inr ⟨b,o,rfl,h⟩,by omega⟩
structure Prob where
 mx:Bool
 nm:ByteArray
 p:Bool
 a:Option Addr
 na:Nat
 ca:Nat
 d:Option Addr
 nd:Nat
 cd:Nat
 va:Option Addr
 vn:Nat
 vc:Nat
 ra:Option Addr
 rn:Nat
 rc:Nat
 k:Rat
 V:Nat→PV
 ZV:Nat→Nat
 R:Nat→PW
 ZR:Nat→Nat
 S:Nat
 K:Nat
abbrev Prob.val (P:Prob):Value:=.agg #[.bool P.mx,.string P.nm,.bool P.p,.slice P.a P.na P.ca,.slice P.d P.nd P.cd,.slice P.va P.vn P.vc,.slice P.ra P.rn P.rc]
structure PQ (w:World) (P:Prob):Prop where
 k:TR w P.p P.a P.na P.ca P.d P.nd P.cd P.k P.S
 s1:1≤P.S
 sk:SzR P.k P.S
 v:LV w P.va P.vn P.V P.ZV
 r:LW w P.ra P.rn P.R P.ZR
 all:P.S+tot P.ZV P.vn+tot P.ZR P.rn+P.nm.size≤P.K
 vc:P.vn≤P.vc
 rc:P.rn≤P.rc
theorem PQ.below {w w':World} {P:Prob} (h:PQ w P) (hb:Below w.heap.size w w'):PQ w' P:=⟨h.k.below hb,h.s1,h.sk,h.v.below hb,h.r.below hb,h.all,h.vc,h.rc⟩
theorem dI (Z:Nat→Nat) (n:Nat):n+1≤tot Z n:=by
 induction n with
 | zero=>exact Nat.le_refl _
 | succ n ih=>show n+1+1≤tot Z n+Z n+1;omega
theorem wM {base:Nat} {v:Value} {dd:DataW H} {pl:List MemPlace} (hv:Value.okWide Tryz.prog W .any base 31 v) (h:DataW.Trod enc Tryz.prog W 0 (fun _=>true) true 31 v dd pl) :
 ∃ P:Prob,v=P.val∧PQ W P∧P.K=Rows.uptoBulk dd:=by
 obtain ⟨cs,rfl,hsz⟩:=okWide_struct Tryz.underlying31 hv
 obtain ⟨fuel,hf⟩:=h
 rw [wK] at hsz
 obtain ⟨l⟩:=cs
 obtain ⟨y0,y1,y2,y3,y4,m,hx,hy0,hy1,hy2,hy3,hy4⟩:=oI (cs:=l) (x:=(dd,pl)) Tryz.underlying31 (by simpa [Value.cells] using hf)
 have hB:Rows.uptoBulk dd=Rows.uptoBulk y0.1+(Rows.uptoBulk y1.1+(Rows.uptoBulk y2.1+(Rows.uptoBulk y3.1+(Rows.uptoBulk y4.1+0))))+1:=by
  have hx':dd = .agg [y0.1,y1.1,y2.1,y3.1,y4.1]:=hx
  rw [hx'];simp only [Rows.uptoBulk,Rows.uptoBulkAll]
 match l,hsz with
 | [u0,u1,u2,u3,u4,u5,u6],_ =>
  simp only [sN,lG,mP,cellsVars,cellsRows,List.drop_zero,List.drop_succ_cons,List.take_succ_cons,List.take_zero] at hy0 hy1 hy2 hy3 hy4
  obtain ⟨mx,e0,_⟩:=DataW.trod_bool Tryz.underlying4 hy0
  obtain ⟨nm,e1,x1,_⟩:=DataW.trod_string Tryz.underlying9 hy1
  simp only [List.cons.injEq,and_true] at e0 e1
  subst e0 e1
  have hn:nm.size≤Rows.uptoBulk y1.1:=by
   have:=sO (H:=H) (s:=nm)
   rw [x1]
   exact Nat.le_of_succ_le_succ this
  obtain ⟨p,a,na,ca,d,nd,cd,k,e2,hT,h2⟩:=pR rfl hy2
  simp only [List.cons.injEq,and_true] at e2
  obtain ⟨rfl,rfl,rfl⟩:=e2
  obtain ⟨va,vn,vc,V,ZV,rfl,hvc,hLV,hv2⟩:=open_vars hy3
  obtain ⟨ra,rn,rc,R,ZR,rfl,hrc,hLW,hr2⟩:=open_rows hy4
  exact ⟨⟨mx,nm,p,a,na,ca,d,nd,cd,va,vn,vc,ra,rn,rc,k,V,ZV,R,ZR,Rows.uptoBulk y2.1-1,Rows.uptoBulk dd⟩,rfl,⟨hT,by show 1≤Rows.uptoBulk y2.1-1;omega,hT.sz (by omega),hLV,hLW,by show Rows.uptoBulk y2.1-1+tot ZV vn+tot ZR rn+nm.size≤Rows.uptoBulk dd;omega,hvc,hrc⟩,rfl⟩
theorem wO {W':World} {v:Value} {d:DataW H} {p:List MemPlace} (h:DataW.Trod enc Tryz.prog W 0 (fun _=>true) true 31 v d p) (bel:Below W.heap.size W W') :
 DataW.Trod enc Tryz.prog W' 0 (fun b=>decide (b<W.heap.size)) true 31 v d p :=
 Below.trod laidOut (by kernel_rfl) (of_decide_eq_true (by kernel_rfl)) h bel (qN h)
end
end Go.Proofs.YtmeimjakdheidaaGreatDoor
namespace Go.Proofs.YtmeimjakdheidaaGreatDoor
open Go.RowKit
theorem Got.offX {w w':World} {B R:Nat} {v:Value} {x:Int} {S:Nat} (h:Got w B v x S) (ho:Off R w w') (hR:v.ownBlock≠some R):Got w' B v x S:=by
 obtain ⟨xs,h1,h2⟩:=h
 refine ⟨xs,?_,h2⟩
 refine ⟨h1.1,?_⟩
 rcases h1.2 with hn|⟨g,cap,cur,e1,e2,hgb,rest⟩
 ·exact .inl hn
 ·refine .inr ⟨g,cap,cur,e1,e2,(ho.block g (fun e=>hR ?_)).trans hgb,rest⟩
  subst e;rw [e1];rfl
def GX (w:World) (B R:Nat) (f:Bool) (c:Option Addr) (n k:Nat) (c':Option Addr) (n' k':Nat) (r:Rat) (S:Nat):Prop :=
 GR w B f c n k c' n' k' r S∧(Value.slice c n k).ownBlock≠some R∧(Value.slice c' n' k').ownBlock≠some R
theorem GX.off {w w':World} {B R:Nat} {f:Bool} {c:Option Addr} {n k:Nat} {c':Option Addr} {n' k':Nat} {r:Rat} {S:Nat} (h:GX w B R f c n k c' n' k' r S) (ho:Off R w w'):GX w' B R f c n k c' n' k' r S:=by
 refine ⟨⟨?_,h.1.2.offX ho h.2.2,h.1.3⟩,h.2⟩
 obtain ⟨a',n2,c2,h1,h2⟩:=h.1.1
 simp only [Value.agg.injEq,Array.mk.injEq,List.cons.injEq,and_true] at h1
 obtain ⟨h0,h1⟩:=h1
 simp only [Value.slice.injEq] at h1
 obtain ⟨rfl,rfl,rfl⟩:=h1
 exact ⟨c,n,k,by rw [h0],h2.offX ho h.2.1⟩
theorem GX.below {w w':World} {B R:Nat} {f:Bool} {c:Option Addr} {n k:Nat} {c':Option Addr} {n' k':Nat} {r:Rat} {S:Nat} (h:GX w B R f c n k c' n' k' r S) (hb:Below w.heap.size w w'):GX w' B R f c n k c' n' k' r S:=⟨h.1.below hb,h.2⟩
theorem GI.got {w:World} {B:Nat} {f:Bool} {c:Option Addr} {n k:Nat} {x:Int} {S:Nat} (h:GI w B (.agg #[.bool f,.slice c n k]) x S):Got w B (.slice c n k) (x.natAbs:Int) S:=by
 obtain ⟨a',n2,c2,h1,h2⟩:=h
 simp only [Value.agg.injEq,Array.mk.injEq,List.cons.injEq,and_true] at h1
 obtain ⟨h0,h1⟩:=h1
 simp only [Value.slice.injEq] at h1
 obtain ⟨rfl,rfl,rfl⟩:=h1
 exact h2
theorem GR.gx {w:World} {B R:Nat} {f:Bool} {c:Option Addr} {n k:Nat} {c':Option Addr} {n' k':Nat} {r:Rat} {S:Nat} (h:GR w B f c n k c' n' k' r S) (hR:R<B∨w.heap.size≤R):GX w B R f c n k c' n' k' r S:=by
 refine ⟨h,fun e=>?_,fun e=>?_⟩
 ·have:=h.1.got.lt R e;omega
 ·have:=h.2.lt R e;omega
theorem GX.mono {w:World} {B B' R:Nat} {f:Bool} {c:Option Addr} {n k:Nat} {c':Option Addr} {n' k':Nat} {r:Rat} {S:Nat} (h:GX w B R f c n k c' n' k' r S) (hB:B'≤B):GX w B' R f c n k c' n' k' r S:=⟨h.1.mono hB,h.2⟩
set_option maxHeartbeats 4000000 in
theorem sumQ (a:Option Addr) (n cap:Nat) (X:Nat→Rat) (Z:Nat→Nat) (T:Nat) (w:World) (hl:LQ w a n X Z) (hz:∀ i,i<n→1≤Z i∧T+Z i≤6000000) (hT1:1≤T) (hsz:∀ k,k≤n→SzR (bJ X k) T) (hn:n≤1100000) (hT:TB w) :
 Calls Tryz.prog 51 #[.slice a n cap] w fun e w'=>∃ f c n1 k c' n' k',e = .returned (.agg #[.bool f,.slice c n1 k,.slice c' n' k'])∧GR w' w.heap.size f c n1 k c' n' k' (bJ X n) T∧Below w.heap.size w w':=by
 have R0:=aU w (.bool false) (.slice none 0 0) (.slice none 0 0) 27
 have hb0:=aI w (.cells #[.bool false,.slice none 0 0,.slice none 0 0] 27)
 have hsw:(w.alloc (.cells #[.bool false,.slice none 0 0,.slice none 0 0] 27)).heap.size=w.heap.size+1:=by simp
 have HS:Hid (∀ k,k≤n→SzR (bJ X k) T):=hsz
 clear hsz
 go_enter Tryz.func51,Tryz.ntmps51
 go_wp2_with fail
 generalize w.alloc (.cells #[.bool false,.slice none 0 0,.slice none 0 0] 27)=W0 at *
 refine (ofQ 0 _ (by decide) (by decide)).mono ?_
 rintro e w1 ⟨f0,c0,n0,k0,d0,m0,l0,rfl,G0,hx1⟩
 have hs1:=Below.size hx1
 replace G0:=(((G0.mono (B':=w.heap.size+1) (by omega)).val (show ((0:Int):Rat)=bJ X 0 from rfl)).fit (HS.out 0 (Nat.zero_le _))).gx (R:=w1.heap.size) (.inr (Nat.le_refl _))
 replace R0:=R0.below hx1
 replace hb0:=aF hb0 hx1
 clear hx1
 have hz1:=aI w1 (.cells #[.bool f0,.slice c0 n0 k0,.slice d0 m0 l0] 27)
 have V0:=aU w1 (.bool f0) (.slice c0 n0 k0) (.slice d0 m0 l0) 27
 have hs2:(w1.alloc (.cells #[.bool f0,.slice c0 n0 k0,.slice d0 m0 l0] 27)).heap.size=w1.heap.size+1:=by simp
 replace G0:=G0.below hz1
 replace R0:=R0.below hz1
 replace hb0:=aF hb0 hz1
 clear hz1
 go_wp2
 generalize w1.alloc (.cells #[.bool f0,.slice c0 n0 k0,.slice d0 m0 l0] 27)=W1 at *
 go_loopw [9] (fun s wr=>∃ (k:Nat) (f:Bool) (c:Option Addr) (n1 k1:Nat) (d:Option Addr) (m l:Nat),k≤n∧s = .int .i64 k∧Var3 wr w1.heap.size (.bool f) (.slice c n1 k1) (.slice d m l)∧GX wr (w.heap.size+1) w1.heap.size f c n1 k1 d m l (bJ X k) T∧Var3 wr w.heap.size (.bool false) (.slice none 0 0) (.slice none 0 0)∧Below w.heap.size w wr∧w1.heap.size+1≤wr.heap.size) (fun t _=>n-(intOf t).toNat)
 case atStart=>exact ⟨0,_,_,_,_,_,_,_,Nat.zero_le _,rfl,V0,G0,R0,hb0,by omega⟩
 case round =>
  obtain ⟨k,f,c,n1,k1,d,m,l,hk,rfl,V,G,R,hbel,hsw2⟩:=hrel
  clear V0 G0 R0 hb0
  by_cases hlt:k<n
  ·have hkI:(k:Int)<(n:Int):=by omega
   obtain ⟨hz1,hz2⟩:=hz k hlt
   rcases hl with h0|⟨b,o,rfl,hl⟩
   ·omega
   obtain ⟨pA,aA,nA,cA,dA,mA,lA,c0,c1,c2,hA⟩:=hl k hlt
   replace c0:=aG hbel c0
   replace c1:=aG hbel c1
   replace c2:=aG hbel c2
   replace hA:=hA.below hbel
   have hkI2:(k:Int)*3=((k*3:Nat):Int):=by omega
   have HS1:Hid (SzR (bJ X k+X k) T):=HS.out (k+1) hlt
   have Z:=aU wr (.bool pA) (.slice aA nA cA) (.slice dA mA lA) 27
   have hz:=aI wr (.cells #[.bool pA,.slice aA nA cA,.slice dA mA lA] 27)
   replace V:=V.below hz
   replace R:=R.below hz
   replace G:=G.below hz
   replace hA:=hA.below hz
   replace hT:=hT.below (aF hbel hz)
   replace hbel:=aF hbel hz
   have hzs:=Below.size hz
   clear hz hl
   obtain ⟨z0,z1,z2,z3,z4,z5⟩:=id Z
   obtain ⟨v0,v1,v2,v3,v4,v5⟩:=id V
   go_wp2_with fail
   generalize wr.alloc (.cells #[.bool pA,.slice aA nA cA,.slice dA mA lA] 27)=W2 at *
   clear z0 z1 z2 z3 z4 z5 v0 v1 v2 v3 v4 v5 c0 c1 c2 Z
   refine (addQ _ G.1.tr hA (by omega) (by omega) (by omega) hT).mono ?_
   rintro e w2 ⟨g5,u5,m5,l5,u6,m6,l6,rfl,GG,h1⟩
   have hs3:=Below.size h1
   have GN:=((GG.fit HS1.out).gx (R:=w1.heap.size) (.inl (by omega))).mono (B':=w.heap.size+1) (by omega)
   replace V:=V.below h1
   replace R:=R.below h1
   replace hbel:=aF hbel h1
   clear h1 GG G hA hT HS1
   obtain ⟨v0,v1,v2,v3,v4,v5⟩:=id V
   obtain ⟨V',O⟩:=V.set (.bool g5) (.slice u5 m5 l5) (.slice u6 m6 l6)
   have R':=R.off O (by omega)
   have hbel':Below w.heap.size w _:=hbel.trans (O.below (by omega))
   have GN':=GN.off O
   have hs4:=O.size
   clear V R hbel O GN
   go_wp2
   go_roundw
   case rel=>first|exact ⟨k+1,_,_,_,_,_,_,_,by omega,by go_num,V',GN',R',hbel',by omega⟩|((repeat apply Exists.intro);refine ⟨?_,rfl⟩;exact ⟨k+1,_,_,_,_,_,_,_,by omega,by go_num,V',GN',R',hbel',by omega⟩)
   case measure=>simp [intOf];omega
  ·have hkI:¬ (k:Int)<(n:Int):=by omega
   obtain rfl:k=n:=by omega
   clear hl hz HS
   obtain ⟨v0,v1,v2,v3,v4,v5⟩:=id V
   obtain ⟨r0,r1,r2,r3,r4,r5⟩:=id R
   obtain ⟨VV,O⟩:=R.set (.bool f) (.slice c n1 k1) (.slice d m l)
   have GF:=G.1.off O (by omega)
   have hw:=hbel.trans (O.below (by omega))
   clear R O G hbel V
   go_wp2
   refine bodyPost_ret (v:=.agg #[.bool f,.slice c n1 k1,.slice d m l]) (by simp [results,Tryz.results51,go_sem,VV.c0,VV.c1,VV.c2]) rfl ?_
   replace GF:=GF.mono (B':=w.heap.size) (by omega)
   cases f
   ·exact .inl ⟨_,_,_,_,_,_,rfl,GF,hw⟩
   ·exact .inr ⟨_,_,_,_,_,_,rfl,GF,hw⟩
theorem fB {w w1:World} {o:Obj} (h:Below w.heap.size w w1):Below w.heap.size w (w1.alloc o):=aF h (aI _ _)
theorem fZ {w w1:World} {B:Nat} (h:Below B w w1):Below B w w1.drew:=dQ h 1
theorem fQ {w:World} {g:Nat} {cur:Array Value} {e:TypeId} {vs:List Value} {q j:Nat} {u:Value} (hg:w.heap[g]? = some (.cells cur e (0,0))) (ht:cur.toList.take q=vs) (hj:vs[j]? = some u):w.cell? ⟨g,j,none⟩=some u:=by
 have hlt:j<q:=by
  have h:=(List.getElem?_eq_some_iff.1 hj).1
  rw [← ht,List.length_take] at h
  omega
 have e1:cur[j]? = some u:=by
  rw [← ht,List.getElem?_take_of_lt hlt] at hj
  rw [← Array.getElem?_toList];exact hj
 simp [World.cell?,hg,e1]
def RL (w:World) (B:Nat) (v:Value) (n:Nat) (X:Nat→Rat) (S:Nat):Prop :=
 ∃ vs:List Value,w.ownsRow B 27 3 v n vs∧∀ i,i<n→∃ p a na ca d nd cd,vs[i*3]? = some (.bool p)∧vs[i*3+1]? = some (.slice a na ca)∧vs[i*3+2]? = some (.slice d nd cd)∧GR w B p a na ca d nd cd (X i) S
theorem RL.nil (w:World) (B:Nat) (X:Nat→Rat) (S:Nat):RL w B (.slice none 0 0) 0 X S:=⟨[],World.ownsRow_nil _ _ _ _,fun i hi=>by omega⟩
theorem RL.below {w w':World} {B:Nat} {v:Value} {n:Nat} {X:Nat→Rat} {S:Nat} (h:RL w B v n X S) (hb:Below w.heap.size w w'):RL w' B v n X S:=by
 obtain ⟨vs,h1,h2⟩:=h
 refine ⟨vs,⟨h1.1,?_⟩,fun i hi=>?_⟩
 ·rcases h1.2 with hn|⟨g,cap,cur,e1,e2,hgb,rest⟩
  ·exact .inl hn
  ·exact .inr ⟨g,cap,cur,e1,e2,(hb.block g (Array.getElem?_eq_some_iff.1 hgb).1).trans hgb,rest⟩
 ·obtain ⟨p,a,na,ca,d,nd,cd,g1,g2,g3,g4⟩:=h2 i hi
  exact ⟨p,a,na,ca,d,nd,cd,g1,g2,g3,g4.below hb⟩
theorem RL.lt {w:World} {B:Nat} {v:Value} {n:Nat} {X:Nat→Rat} {S:Nat} (h:RL w B v n X S):∀ k,v.ownBlock=some k→B≤k∧k<w.heap.size:=by
 obtain ⟨vs,h1,h2⟩:=h
 exact World.ownsRow.lt h1
theorem RL.lq {w:World} {B:Nat} {a:Option Addr} {m n cap:Nat} {X:Nat→Rat} {S:Nat} (h:RL w B (.slice a m cap) n X S):LQ w a n X (fun _=>S):=by
 obtain ⟨vs,h1,h2⟩:=h
 rcases h1.2 with ⟨e1,e2⟩|⟨g,cap,cur,e1,_,hg,_,_,_,ht⟩
 ·exact .inl e2
 ·simp only [Value.slice.injEq] at e1
  obtain ⟨rfl,_,_⟩:=e1
  refine .inr ⟨g,0,rfl,fun i hi=>?_⟩
  obtain ⟨p,a,na,ca,d,nd,cd,g1,g2,g3,g4⟩:=h2 i hi
  refine ⟨p,a,na,ca,d,nd,cd,?_,?_,?_,g4.tr⟩
  ·rw [Nat.zero_add];exact fQ hg ht g1
  ·rw [Nat.zero_add];exact fQ hg ht g2
  ·rw [Nat.zero_add];exact fQ hg ht g3
theorem row_ne3 {w:World} {B B':Nat} {v u:Value} {n m:Nat} {xs ys:List Value} (h:w.ownsRow B 118 1 v n xs) (k:w.ownsRow B' 27 3 u m ys):∀ g,v.ownBlock=some g→u.ownBlock≠some g:=by
 intro g h1 h2
 rcases h.2 with ⟨e1,_⟩|⟨g1,c1,cur1,e1,_,f1,_⟩
 ·subst e1;simp [Value.ownBlock] at h1
 ·rcases k.2 with ⟨e2,_⟩|⟨g2,c2,cur2,e2,_,f2,_⟩
  ·subst e2;simp [Value.ownBlock] at h2
  ·subst e1 e2
   simp [Value.ownBlock] at h1 h2
   subst h1 h2
   rw [f1] at f2
   simp at f2
theorem row_or {v u:Value} (h:∀ g,v.ownBlock=some g→u.ownBlock≠some g):v.ownBlock=none∨v.ownBlock≠u.ownBlock:=by
 cases e:v.ownBlock with
 | none=>exact .inl rfl
 | some g=>exact .inr fun e2=>h g e e2.symm
theorem Got.grow3 {w w':World} {B:Nat} {v:Value} {x:Int} {S:Nat} (h:Got w B v x S) {B':Nat} {lv:Value} {n:Nat} {ys:List Value} (k:w.ownsRow B' 27 3 lv n ys) (hg:w.grownBy w' lv.ownBlock):Got w' B v x S:=by
 obtain ⟨xs,h1,h2⟩:=h
 exact ⟨xs,World.ownsRow.kept h1 hg (row_or (row_ne3 h1 k)),h2⟩
theorem GR.grow3 {w w':World} {B:Nat} {f:Bool} {c:Option Addr} {n k:Nat} {c':Option Addr} {n' k':Nat} {r:Rat} {S:Nat} (h:GR w B f c n k c' n' k' r S) {B':Nat} {lv:Value} {m:Nat} {ys:List Value} (q:w.ownsRow B' 27 3 lv m ys) (hg:w.grownBy w' lv.ownBlock):GR w' B f c n k c' n' k' r S:=by
 refine ⟨?_,h.2.grow3 q hg,h.3⟩
 obtain ⟨a,n2,c2,h1,h2⟩:=h.1
 exact ⟨a,n2,c2,h1,h2.grow3 q hg⟩
theorem Var3.grown {w w':World} {R:Nat} {u v z:Value} (h:Var3 w R u v z) {row:Option Nat} (hg:w.grownBy w' row) (hne:row≠some R):Var3 w' R u v z:=h.of_block (hg.block R h.lt (fun e=>hne e.symm))
theorem iW {w:World} {h:Nat} {u v z:Value} {t:TypeId} (hh:h=w.heap.size):(w.alloc (.cells #[u,v,z] t)).cell? ⟨h,0,none⟩=some u∧(w.alloc (.cells #[u,v,z] t)).cell? ⟨h,1,none⟩=some v∧(w.alloc (.cells #[u,v,z] t)).cell? ⟨h,2,none⟩=some z:=by
 subst hh
 have V:=aU w u v z t
 exact ⟨V.c0,V.c1,V.c2⟩
theorem Tryz.infoRat:(Tryz.prog.info? 27).map (fun i=>(i.zero.map (fun z=>z.cells.size),i.size,i.bytes))=some (some 3,3,56):=by kernel_rfl
theorem info3:∃ i z,Tryz.prog.info? 27=some i∧i.zero=some z∧i.size=3∧i.bytes=56∧z.cells.size=3:=by
 obtain ⟨i,hi,h⟩:=Option.map_eq_some_iff.1 Tryz.infoRat
 simp only [Prod.mk.injEq] at h
 obtain ⟨h1,h2,h3⟩:=h
 obtain ⟨z,hz,h4⟩:=Option.map_eq_some_iff.1 h1
 exact ⟨i,z,hi,hz,h2,h3,h4⟩
theorem vs_snoc {vs:List Value} {n:Nat} {x y z:Value} (h:vs.length=n*3):(vs++[x,y,z])[n*3]? = some x∧(vs++[x,y,z])[n*3+1]? = some y∧(vs++[x,y,z])[n*3+2]? = some z:=by
 refine ⟨?_,?_,?_⟩
 ·rw [List.getElem?_append_right (by omega),h,Nat.sub_self];rfl
 ·rw [List.getElem?_append_right (by omega),h,Nat.add_sub_cancel_left];rfl
 ·rw [List.getElem?_append_right (by omega),h,Nat.add_sub_cancel_left];rfl
theorem sQ (w:World) {ops:Array Oper} {rest:List Oper} {o:Oper} {a:Act} {Q:Exit→Act→World→Prop} (hgd:o.guard=none) (s x:Operand)
 (ho:o.op = .call { callee:=.builtin .append,args:=#[s,x],argTypes:=#[32,32] }) (B:Nat) (v:Value) (n:Nat) (X:Nat→Rat) (S:Nat) (hs:a.eval s=v) (hown:RL w B v n X S) (h c:Nat) (hx:a.eval x = .slice (some ⟨h,0,none⟩) 1 c)
 (f:Bool) (c1:Option Addr) (n1 k1:Nat) (c2:Option Addr) (n2 k2:Nat) (hc:w.cell? ⟨h,0,none⟩=some (.bool f)∧w.cell? ⟨h,1,none⟩=some (.slice c1 n1 k1)∧w.cell? ⟨h,2,none⟩=some (.slice c2 n2 k2)) (hG:GR w B f c1 n1 k1 c2 n2 k2 (X n) S)
 (hlen:n≤1000000000000) (hB:B≤w.heap.size) (H:Nat) (hH:w.heap.size=H)
 (hK:∀ g cap w',RL w' B (.slice (some ⟨g,0,none⟩) (n+1) cap) (n+1) X S→w.grownBy w' v.ownBlock→(v.ownBlock=some g∨g=H)→g<w'.heap.size→wpList Tryz.prog ops Q rest (a.put o.dst (.slice (some ⟨g,0,none⟩) (n+1) cap)) w') :
 wpList Tryz.prog ops Q (o::rest) a w:=by
 obtain ⟨vs,h1,h2⟩:=hown
 obtain ⟨i0,z,hi,hz,hs3,hb56,hz3⟩:=info3
 refine wpList_append_lies w hgd s x 32 ho B 27 i0 z 3 56 Tryz.underlying32 hi hz hs3 hb56 hz3 (by decide) v n vs hs h1 ⟨h,0,none⟩ 1 c [.bool f,.slice c1 n1 k1,.slice c2 n2 k2] hx rfl ?_ (fun u hu=>by simp at hu;rcases hu with rfl|rfl|rfl <;> rfl) (by decide) (by unfold maxLen;omega) (by omega) hB H hH ?_
 ·intro j u hj
  match j,hj with
  | 0,hj=>simp at hj;subst hj;simpa [Addr.add] using hc.1
  | 1,hj=>simp at hj;subst hj;simpa [Addr.add] using hc.2.1
  | 2,hj=>simp at hj;subst hj;simpa [Addr.add] using hc.2.2
 ·intro g cap w' r1 r2 r3 r4
  refine hK g cap w' ⟨_,r1,fun i hi=>?_⟩ r2 r3 r4
  rcases (by omega:i<n∨i=n) with hi|rfl
  ·obtain ⟨p,a,na,ca,d,nd,cd,g1,g2,g3,g4⟩:=h2 i hi
   have e:vs.length=n*3:=h1.1
   refine ⟨p,a,na,ca,d,nd,cd,?_,?_,?_,g4.grow3 h1 r2⟩
   ·rw [List.getElem?_append_left (by omega)];exact g1
   ·rw [List.getElem?_append_left (by omega)];exact g2
   ·rw [List.getElem?_append_left (by omega)];exact g3
  ·obtain ⟨e1,e2,e3⟩:=vs_snoc (x:=.bool f) (y:=.slice c1 n1 k1) (z:=.slice c2 n2 k2) h1.1
   exact ⟨f,c1,n1,k1,c2,n2,k2,e1,e2,e3,hG.grow3 h1 r2⟩
end Go.Proofs.YtmeimjakdheidaaGreatDoor

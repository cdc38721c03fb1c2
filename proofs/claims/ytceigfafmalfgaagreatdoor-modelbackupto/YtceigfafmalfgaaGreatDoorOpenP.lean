import Derived.Test.YtceigfafmalfgaaGreatDoorR3LiAll
namespace Go.Proofs.YtceigfafmalfgaaGreatDoor
open Go.ChangeShapes Go.WideShapes Go.ChangeAt Go.RowKit
structure PV where
 nm:ByteArray
 obj:Rat
 hlo:Bool
 lo:Rat
 hhi:Bool
 hi:Rat
 whole:Bool
structure PT where
 var:Int
 coef:Rat
structure PW where
 nm:ByteArray
 nt:Nat
 t:Nat→PT
 hlo:Bool
 lo:Rat
 hhi:Bool
 hi:Rat
def C3 (w:World) (b o:Nat) (r:Rat) (S:Nat):Prop :=
 ∃ p a na ca d nd cd,w.cell? ⟨b,o,none⟩=some (.bool p)∧w.cell? ⟨b,o+1,none⟩=some (.slice a na ca)∧w.cell? ⟨b,o+2,none⟩=some (.slice d nd cd)∧TR w p a na ca d nd cd r S
theorem C3.below {w w':World} {b o:Nat} {r:Rat} {S:Nat} (h:C3 w b o r S) (hb:Below w.heap.size w w'):C3 w' b o r S:=by
 obtain ⟨p,a,na,ca,d,nd,cd,h1,h2,h3,h4⟩:=h
 exact ⟨p,a,na,ca,d,nd,cd,kept_c hb h1,kept_c hb h2,kept_c hb h3,h4.below hb⟩
def TermAt (w:World) (b o:Nat) (t:PT) (S:Nat):Prop:=w.cell? ⟨b,o,none⟩=some (.int .i64 t.var)∧C3 w b (o+1) t.coef S∧1≤S∧SzR t.coef S∧-9223372036854775808≤t.var∧t.var≤9223372036854775807
theorem TermAt.below {w w':World} {b o:Nat} {t:PT} {S:Nat} (h:TermAt w b o t S) (hb:Below w.heap.size w w'):TermAt w' b o t S:=⟨kept_c hb h.1,h.2.1.below hb,h.2.2⟩
def LT (w:World) (a:Option Addr) (n:Nat) (t:Nat→PT) (Z:Nat→Nat):Prop :=
 n=0∨∃ b o,a=some ⟨b,o,none⟩∧∀ i,i<n→TermAt w b (o+i*4) (t i) (Z i)
theorem LT.below {w w':World} {a:Option Addr} {n:Nat} {t:Nat→PT} {Z:Nat→Nat} (h:LT w a n t Z) (hb:Below w.heap.size w w'):LT w' a n t Z:=by
 rcases h with h|⟨b,o,rfl,h⟩
 ·exact .inl h
 ·exact .inr ⟨b,o,rfl,fun i hi=>(h i hi).below hb⟩
structure VarAt (w:World) (b o:Nat) (v:PV) (S:Nat):Prop where
 nm:w.cell? ⟨b,o,none⟩=some (.string v.nm)
 obj:C3 w b (o+1) v.obj S
 hlo:w.cell? ⟨b,o+4,none⟩=some (.bool v.hlo)
 lo:C3 w b (o+5) v.lo S
 hhi:w.cell? ⟨b,o+8,none⟩=some (.bool v.hhi)
 hi:C3 w b (o+9) v.hi S
 whole:w.cell? ⟨b,o+12,none⟩=some (.bool v.whole)
 s1:1≤S
 sobj:SzR v.obj S
 slo:SzR v.lo S
 shi:SzR v.hi S
 snm:v.nm.size≤S
theorem VarAt.below {w w':World} {b o:Nat} {v:PV} {S:Nat} (h:VarAt w b o v S) (hb:Below w.heap.size w w'):VarAt w' b o v S :=
 ⟨kept_c hb h.nm,h.obj.below hb,kept_c hb h.hlo,h.lo.below hb,kept_c hb h.hhi,h.hi.below hb,kept_c hb h.whole,h.s1,h.sobj,h.slo,h.shi,h.snm⟩
def LV (w:World) (a:Option Addr) (n:Nat) (V:Nat→PV) (Z:Nat→Nat):Prop :=
 n=0∨∃ b o,a=some ⟨b,o,none⟩∧∀ i,i<n→VarAt w b (o+i*13) (V i) (Z i)
theorem LV.below {w w':World} {a:Option Addr} {n:Nat} {V:Nat→PV} {Z:Nat→Nat} (h:LV w a n V Z) (hb:Below w.heap.size w w'):LV w' a n V Z:=by
 rcases h with h|⟨b,o,rfl,h⟩
 ·exact .inl h
 ·exact .inr ⟨b,o,rfl,fun i hi=>(h i hi).below hb⟩
structure RowAt (w:World) (b o:Nat) (r:PW) (S:Nat):Prop where
 nm:w.cell? ⟨b,o,none⟩=some (.string r.nm)
 terms:∃ a cap Z,w.cell? ⟨b,o+1,none⟩=some (.slice a r.nt cap)∧LT w a r.nt r.t Z∧tot Z r.nt≤S∧r.nt≤cap
 hlo:w.cell? ⟨b,o+2,none⟩=some (.bool r.hlo)
 lo:C3 w b (o+3) r.lo S
 hhi:w.cell? ⟨b,o+6,none⟩=some (.bool r.hhi)
 hi:C3 w b (o+7) r.hi S
 s1:1≤S
 slo:SzR r.lo S
 shi:SzR r.hi S
 snm:r.nm.size≤S
theorem RowAt.below {w w':World} {b o:Nat} {r:PW} {S:Nat} (h:RowAt w b o r S) (hb:Below w.heap.size w w'):RowAt w' b o r S:=by
 obtain ⟨a,cap,Z,h1,h2,h3⟩:=h.terms
 exact ⟨kept_c hb h.nm,⟨a,cap,Z,kept_c hb h1,h2.below hb,h3⟩,kept_c hb h.hlo,h.lo.below hb,kept_c hb h.hhi,h.hi.below hb,h.s1,h.slo,h.shi,h.snm⟩
def LW (w:World) (a:Option Addr) (n:Nat) (R:Nat→PW) (Z:Nat→Nat):Prop :=
 n=0∨∃ b o,a=some ⟨b,o,none⟩∧∀ i,i<n→RowAt w b (o+i*10) (R i) (Z i)
theorem LW.below {w w':World} {a:Option Addr} {n:Nat} {R:Nat→PW} {Z:Nat→Nat} (h:LW w a n R Z) (hb:Below w.heap.size w w'):LW w' a n R Z:=by
 rcases h with h|⟨b,o,rfl,h⟩
 ·exact .inl h
 ·exact .inr ⟨b,o,rfl,fun i hi=>(h i hi).below hb⟩
section
variable {H:Type} {enc:TypeId × Value→H} {W:World}
theorem cellsBound:Tryz.prog.cellsOf 49=4:=by kernel_rfl
theorem cellsTerm:Tryz.prog.cellsOf 56=4:=by kernel_rfl
theorem cellsVar:Tryz.prog.cellsOf 51=13:=by kernel_rfl
theorem cellsRow:Tryz.prog.cellsOf 54=10:=by kernel_rfl
theorem cellsProblem:Tryz.prog.cellsOf 31=7:=by kernel_rfl
theorem cellsStr:Tryz.prog.cellsOf 9=1:=by kernel_rfl
theorem cellsTerms:Tryz.prog.cellsOf 52=1:=by kernel_rfl
theorem cellsVars:Tryz.prog.cellsOf 28=1:=by kernel_rfl
theorem cellsRows:Tryz.prog.cellsOf 29=1:=by kernel_rfl
theorem open_c3 {b o:Nat} {fuel:Nat} {cs:List Value} {x:DataW H × List MemPlace} (hsz:cs.length=3) (hcell:∀ i v,cs[i]? = some v→W.cell? ⟨b,o+i,none⟩=some v)
  (hf:DataW.trod enc Tryz.prog W 0 (fun _=>true) true fuel 27 cs=some x):∃ r,C3 W b o r (Rows.uptoBulk x.1-1)∧SzR r (Rows.uptoBulk x.1-1)∧2≤Rows.uptoBulk x.1:=by
 obtain ⟨p,a,n,cap,a',n',cap',r,rfl,hT,h2⟩:=open_ratc hsz hf
 exact ⟨r,⟨p,a,n,cap,a',n',cap',hcell 0 _ rfl,hcell 1 _ rfl,hcell 2 _ rfl,hT⟩,hT.sz (by omega),h2⟩
theorem C3.up {w:World} {b o:Nat} {r:Rat} {S R:Nat} (h:C3 w b o r S) (hR:S≤R):C3 w b o r R:=by
 obtain ⟨p,a,na,ca,d,nd,cd,h1,h2,h3,h4⟩:=h
 exact ⟨p,a,na,ca,d,nd,cd,h1,h2,h3,h4.up hR⟩
set_option maxRecDepth 100000 in
theorem open_bound {b o:Nat} {fuel:Nat} {cs:List Value} {x:DataW H × List MemPlace} (hsz:cs.length=4) (hcell:∀ i v,cs[i]? = some v→W.cell? ⟨b,o+i,none⟩=some v)
  (hf:DataW.trod enc Tryz.prog W 0 (fun _=>true) true fuel 49 cs=some x):∃ h r,W.cell? ⟨b,o,none⟩=some (.bool h)∧C3 W b (o+1) r (Rows.uptoBulk x.1-1)∧SzR r (Rows.uptoBulk x.1-1)∧2≤Rows.uptoBulk x.1:=by
 obtain ⟨y0,y1,m,hx,_,hy0,hy1⟩:=trod_struct2 Tryz.underlying49 hf
 have hB:Rows.uptoBulk x.1=Rows.uptoBulk y0.1+(Rows.uptoBulk y1.1+0)+1:=by rw [hx];simp only [Rows.uptoBulk,Rows.uptoBulkAll]
 match cs,hsz with
 | [u0,u1,u2,u3],_ =>
  simp only [cellsBool,cellsRat,List.drop_zero,List.drop_succ_cons,List.take_succ_cons,List.take_zero] at hy0 hy1
  obtain ⟨h,hc,hx0⟩:=DataW.trod_bool Tryz.underlying4 hy0
  simp only [List.cons.injEq,and_true] at hc
  subst hc
  obtain ⟨r,h3,hs,h2⟩:=open_c3 (b:=b) (o:=o+1) rfl (fun i v hv=>by have:=hcell (i+1) v (by simpa using hv);rwa [show o+(i+1)=o+1+i by omega] at this) hy1
  have e:=SzR.le hs (show Rows.uptoBulk y1.1-1≤Rows.uptoBulk x.1-1 by omega)
  exact ⟨h,r,hcell 0 _ rfl,h3.up (by omega),e,by omega⟩
set_option maxRecDepth 100000 in
theorem open_term {b o:Nat} {fuel:Nat} {cs:List Value} {x:DataW H × List MemPlace} (hsz:cs.length=4) (hcell:∀ i v,cs[i]? = some v→W.cell? ⟨b,o+i,none⟩=some v)
  (hf:DataW.trod enc Tryz.prog W 0 (fun _=>true) true fuel 56 cs=some x):∃ t,TermAt W b o t (Rows.uptoBulk x.1-1):=by
 obtain ⟨y0,y1,m,hx,_,hy0,hy1⟩:=trod_struct2 Tryz.underlying56 hf
 have hB:Rows.uptoBulk x.1=Rows.uptoBulk y0.1+(Rows.uptoBulk y1.1+0)+1:=by rw [hx];simp only [Rows.uptoBulk,Rows.uptoBulkAll]
 match cs,hsz with
 | [u0,u1,u2,u3],_ =>
  simp only [cellsIntg,cellsRat,List.drop_zero,List.drop_succ_cons,List.take_succ_cons,List.take_zero] at hy0 hy1
  obtain ⟨k,hc,hx0,hw⟩:=DataW.trod_int Tryz.underlying3 hy0
  simp only [List.cons.injEq,and_true] at hc
  subst hc
  obtain ⟨r,h3,hs,h2⟩:=open_c3 (b:=b) (o:=o+1) rfl (fun i v hv=>by have:=hcell (i+1) v (by simpa using hv);rwa [show o+(i+1)=o+1+i by omega] at this) hy1
  have e:=SzR.le hs (show Rows.uptoBulk y1.1-1≤Rows.uptoBulk x.1-1 by omega)
  have hw2:-9223372036854775808≤k∧k≤9223372036854775807:=by
   simp [Lit.wf,IntKind.min,IntKind.max,IntKind.signed,IntKind.bits] at hw
   omega
  exact ⟨⟨k,r⟩,hcell 0 _ rfl,h3.up (by omega),by omega,e,hw2.1,hw2.2⟩
theorem open_terms {fuel:Nat} {u:Value} {x:DataW H × List MemPlace} (hf:DataW.trod enc Tryz.prog W 0 (fun _=>true) true fuel 52 [u]=some x) :
  ∃ a m cap t Z,u = .slice a m cap∧m≤cap∧LT W a m t Z∧tot Z m≤Rows.uptoBulk x.1:=by
 obtain ⟨a,m,cap,ys,rfl,hm,hl,hb,h⟩:=open_slicec Tryz.underlying52 cellsTerm (by decide) hf
 have ht:=tot_bulk ys
 rw [hl] at ht
 rcases h with h0|⟨b,o,rfl,h⟩
 ·exact ⟨a,m,cap,fun _=>⟨0,0⟩,bulkAt ys,rfl,hm,.inl h0,by omega⟩
 ·obtain ⟨t,h⟩:=pick (⟨0,0⟩:PT) (P:=fun j t=>TermAt W b (o+j*4) t (bulkAt ys j)) (fun j hj=>by
   obtain ⟨cs,n,y,e1,e2,e3,e4⟩:=h j hj
   obtain ⟨t,h1⟩:=open_term e2 e3 e4
   exact ⟨t,by rw [bulkAt_eq e1];exact h1⟩)
  exact ⟨_,m,cap,t,bulkAt ys,rfl,hm,.inr ⟨b,o,rfl,h⟩,by omega⟩
theorem cells_from {b o k m:Nat} {cs:List Value} (hcell:∀ i v,cs[i]? = some v→W.cell? ⟨b,o+i,none⟩=some v):∀ i v,((cs.drop k).take m)[i]? = some v→W.cell? ⟨b,o+k+i,none⟩=some v:=by
 intro i v hv
 have h1:cs[k+i]? = some v:=by
  rw [List.getElem?_take] at hv
  split at hv
  ·rw [List.getElem?_drop] at hv;exact hv
  ·cases hv
 have:=hcell _ _ h1
 rwa [← Nat.add_assoc] at this
theorem bulk_str {s:ByteArray}:s.size+1≤Rows.uptoBulk (H:=H) (.lit (.string s.data.toList))+1:=by
 have e:s.data.toList.length=s.size:=by simp
 simp only [Rows.uptoBulk,e]
 omega
set_option maxRecDepth 100000 in
theorem open_var {b o:Nat} {fuel:Nat} {cs:List Value} {x:DataW H × List MemPlace} (hsz:cs.length=13) (hcell:∀ i v,cs[i]? = some v→W.cell? ⟨b,o+i,none⟩=some v)
  (hf:DataW.trod enc Tryz.prog W 0 (fun _=>true) true fuel 51 cs=some x):∃ v,VarAt W b o v (Rows.uptoBulk x.1-1):=by
 obtain ⟨y0,y1,y2,y3,y4,m,hx,hy0,hy1,hy2,hy3,hy4⟩:=trod_struct5 Tryz.underlying51 hf
 have hB:Rows.uptoBulk x.1=Rows.uptoBulk y0.1+(Rows.uptoBulk y1.1+(Rows.uptoBulk y2.1+(Rows.uptoBulk y3.1+(Rows.uptoBulk y4.1+0))))+1:=by rw [hx];simp only [Rows.uptoBulk,Rows.uptoBulkAll]
 have l0:=bulk_one y0.1
 have l4:=bulk_one y4.1
 simp only [cellsStr,cellsRat,cellsBound,cellsBool] at hy0 hy1 hy2 hy3 hy4
 obtain ⟨nm,e0,x0,_⟩:=DataW.trod_string Tryz.underlying9 hy0
 obtain ⟨wh,e4,x4⟩:=DataW.trod_bool Tryz.underlying4 hy4
 have hn:nm.size≤Rows.uptoBulk y0.1:=by
  have:=bulk_str (H:=H) (s:=nm)
  rw [x0]
  exact Nat.le_of_succ_le_succ this
 obtain ⟨r,c1,s1,g1⟩:=open_c3 (by simp [hsz]) (cells_from hcell) hy1
 obtain ⟨hl,lo,d2,c2,s2,g2⟩:=open_bound (by simp [hsz]) (cells_from hcell) hy2
 obtain ⟨hh,hi,d3,c3,s3,g3⟩:=open_bound (by simp [hsz]) (cells_from hcell) hy3
 have q0:=cells_from (W:=W) (b:=b) (o:=o) (k:=0) (m:=1) hcell 0 (.string nm) (by rw [e0];rfl)
 have q4:=cells_from (W:=W) (b:=b) (o:=o) (k:=12) (m:=1) hcell 0 (.bool wh) (by rw [e4];rfl)
 exact ⟨⟨nm,r,hl,lo,hh,hi,wh⟩,q0,c1.up (by omega),d2,c2.up (by omega),d3,c3.up (by omega),q4,by omega,SzR.le s1 (by omega),SzR.le s2 (by omega),SzR.le s3 (by omega),by show nm.size≤_;omega⟩
set_option maxRecDepth 100000 in
theorem open_row {b o:Nat} {fuel:Nat} {cs:List Value} {x:DataW H × List MemPlace} (hsz:cs.length=10) (hcell:∀ i v,cs[i]? = some v→W.cell? ⟨b,o+i,none⟩=some v)
  (hf:DataW.trod enc Tryz.prog W 0 (fun _=>true) true fuel 54 cs=some x):∃ v,RowAt W b o v (Rows.uptoBulk x.1-1):=by
 obtain ⟨y0,y1,y2,y3,m,hx,hy0,hy1,hy2,hy3⟩:=trod_struct4' Tryz.underlying54 hf
 have hB:Rows.uptoBulk x.1=Rows.uptoBulk y0.1+(Rows.uptoBulk y1.1+(Rows.uptoBulk y2.1+(Rows.uptoBulk y3.1+0)))+1:=by rw [hx];simp only [Rows.uptoBulk,Rows.uptoBulkAll]
 have l0:=bulk_one y0.1
 have l1:=bulk_one y1.1
 simp only [cellsStr,cellsTerms,cellsBound] at hy0 hy1 hy2 hy3
 obtain ⟨nm,e0,x0,_⟩:=DataW.trod_string Tryz.underlying9 hy0
 have hn:nm.size≤Rows.uptoBulk y0.1:=by
  have:=bulk_str (H:=H) (s:=nm)
  rw [x0]
  exact Nat.le_of_succ_le_succ this
 have l2:1<cs.length:=by omega
 have e1:(cs.drop 1).take 1=[cs[1]]:=by
  rw [List.drop_eq_getElem_cons l2];rfl
 rw [e1] at hy1
 obtain ⟨a,nt,cap,t,Z,eu,hcap,hLT,htot⟩:=open_terms hy1
 obtain ⟨hl,lo,d2,c2,s2,g2⟩:=open_bound (by simp [hsz]) (cells_from hcell) hy2
 obtain ⟨hh,hi,d3,c3,s3,g3⟩:=open_bound (by simp [hsz]) (cells_from hcell) hy3
 have q0:=cells_from (W:=W) (b:=b) (o:=o) (k:=0) (m:=1) hcell 0 (.string nm) (by rw [e0];rfl)
 have q1:=hcell 1 (.slice a nt cap) (by rw [List.getElem?_eq_getElem l2,eu])
 exact ⟨⟨nm,nt,t,hl,lo,hh,hi⟩,q0,⟨a,cap,Z,q1,hLT,by show tot Z nt≤_;omega,hcap⟩,d2,c2.up (by omega),d3,c3.up (by omega),by omega,SzR.le s2 (by omega),SzR.le s3 (by omega),by show nm.size≤_;omega⟩
theorem open_vars {fuel:Nat} {u:Value} {x:DataW H × List MemPlace} (hf:DataW.trod enc Tryz.prog W 0 (fun _=>true) true fuel 28 [u]=some x) :
  ∃ a m cap V Z,u = .slice a m cap∧m≤cap∧LV W a m V Z∧tot Z m≤Rows.uptoBulk x.1:=by
 obtain ⟨a,m,cap,ys,rfl,hm,hl,hb,h⟩:=open_slicec Tryz.underlying28 cellsVar (by decide) hf
 have ht:=tot_bulk ys
 rw [hl] at ht
 have d0:PV:=⟨ByteArray.mk #[],0,false,0,false,0,false⟩
 rcases h with h0|⟨b,o,rfl,h⟩
 ·exact ⟨a,m,cap,fun _=>d0,bulkAt ys,rfl,hm,.inl h0,by omega⟩
 ·obtain ⟨t,h⟩:=pick d0 (P:=fun j t=>VarAt W b (o+j*13) t (bulkAt ys j)) (fun j hj=>by
   obtain ⟨cs,n,y,e1,e2,e3,e4⟩:=h j hj
   obtain ⟨t,h1⟩:=open_var e2 e3 e4
   exact ⟨t,by rw [bulkAt_eq e1];exact h1⟩)
  exact ⟨_,m,cap,t,bulkAt ys,rfl,hm,.inr ⟨b,o,rfl,h⟩,by omega⟩
theorem open_rows {fuel:Nat} {u:Value} {x:DataW H × List MemPlace} (hf:DataW.trod enc Tryz.prog W 0 (fun _=>true) true fuel 29 [u]=some x) :
  ∃ a m cap R Z,u = .slice a m cap∧m≤cap∧LW W a m R Z∧tot Z m≤Rows.uptoBulk x.1:=by
 obtain ⟨a,m,cap,ys,rfl,hm,hl,hb,h⟩:=open_slicec Tryz.underlying29 cellsRow (by decide) hf
 have ht:=tot_bulk ys
 rw [hl] at ht
 have d0:PW:=⟨ByteArray.mk #[],0,fun _=>⟨0,0⟩,false,0,false,0⟩
 rcases h with h0|⟨b,o,rfl,h⟩
 ·exact ⟨a,m,cap,fun _=>d0,bulkAt ys,rfl,hm,.inl h0,by omega⟩
 ·obtain ⟨t,h⟩:=pick d0 (P:=fun j t=>RowAt W b (o+j*10) t (bulkAt ys j)) (fun j hj=>by
   obtain ⟨cs,n,y,e1,e2,e3,e4⟩:=h j hj
   obtain ⟨t,h1⟩:=open_row e2 e3 e4
   exact ⟨t,by rw [bulkAt_eq e1];exact h1⟩)
  exact ⟨_,m,cap,t,bulkAt ys,rfl,hm,.inr ⟨b,o,rfl,h⟩,by omega⟩
structure Prob where
 mx:Bool
 nm:ByteArray
 p:Bool
 a:Option Addr
 na:Nat
 ca:Nat
 d:Option Addr
 nd:Nat
 cd:Nat
 va:Option Addr
 vn:Nat
 vc:Nat
 ra:Option Addr
 rn:Nat
 rc:Nat
 k:Rat
 V:Nat→PV
 ZV:Nat→Nat
 R:Nat→PW
 ZR:Nat→Nat
 S:Nat
 K:Nat
abbrev Prob.val (P:Prob):Value:=.agg #[.bool P.mx,.string P.nm,.bool P.p,.slice P.a P.na P.ca,.slice P.d P.nd P.cd,.slice P.va P.vn P.vc,.slice P.ra P.rn P.rc]
structure PQ (w:World) (P:Prob):Prop where
 k:TR w P.p P.a P.na P.ca P.d P.nd P.cd P.k P.S
 s1:1≤P.S
 sk:SzR P.k P.S
 v:LV w P.va P.vn P.V P.ZV
 r:LW w P.ra P.rn P.R P.ZR
 all:P.S+tot P.ZV P.vn+tot P.ZR P.rn+P.nm.size≤P.K
 vc:P.vn≤P.vc
 rc:P.rn≤P.rc
theorem PQ.below {w w':World} {P:Prob} (h:PQ w P) (hb:Below w.heap.size w w'):PQ w' P:=⟨h.k.below hb,h.s1,h.sk,h.v.below hb,h.r.below hb,h.all,h.vc,h.rc⟩
theorem tot_len (Z:Nat→Nat) (n:Nat):n+1≤tot Z n:=by
 induction n with
 | zero=>exact Nat.le_refl _
 | succ n ih=>show n+1+1≤tot Z n+Z n+1;omega
set_option maxRecDepth 100000 in
theorem open_problem {base:Nat} {v:Value} {dd:DataW H} {pl:List MemPlace} (hv:Value.okWide Tryz.prog W .any base 31 v) (h:DataW.Trod enc Tryz.prog W 0 (fun _=>true) true 31 v dd pl) :
  ∃ P:Prob,v=P.val∧PQ W P∧P.K=Rows.uptoBulk dd:=by
 obtain ⟨cs,rfl,hsz⟩:=okWide_struct Tryz.underlying31 hv
 obtain ⟨fuel,hf⟩:=h
 rw [cellsProblem] at hsz
 obtain ⟨l⟩:=cs
 obtain ⟨y0,y1,y2,y3,y4,m,hx,hy0,hy1,hy2,hy3,hy4⟩:=trod_struct5 (cs:=l) (x:=(dd,pl)) Tryz.underlying31 (by simpa [Value.cells] using hf)
 have hB:Rows.uptoBulk dd=Rows.uptoBulk y0.1+(Rows.uptoBulk y1.1+(Rows.uptoBulk y2.1+(Rows.uptoBulk y3.1+(Rows.uptoBulk y4.1+0))))+1:=by
  have hx':dd = .agg [y0.1,y1.1,y2.1,y3.1,y4.1]:=hx
  rw [hx'];simp only [Rows.uptoBulk,Rows.uptoBulkAll]
 match l,hsz with
 | [u0,u1,u2,u3,u4,u5,u6],_ =>
  simp only [cellsStr,cellsRat,cellsBool,cellsVars,cellsRows,List.drop_zero,List.drop_succ_cons,List.take_succ_cons,List.take_zero] at hy0 hy1 hy2 hy3 hy4
  obtain ⟨mx,e0,_⟩:=DataW.trod_bool Tryz.underlying4 hy0
  obtain ⟨nm,e1,x1,_⟩:=DataW.trod_string Tryz.underlying9 hy1
  simp only [List.cons.injEq,and_true] at e0 e1
  subst e0 e1
  have hn:nm.size≤Rows.uptoBulk y1.1:=by
   have:=bulk_str (H:=H) (s:=nm)
   rw [x1]
   exact Nat.le_of_succ_le_succ this
  obtain ⟨p,a,na,ca,d,nd,cd,k,e2,hT,h2⟩:=open_ratc rfl hy2
  simp only [List.cons.injEq,and_true] at e2
  obtain ⟨rfl,rfl,rfl⟩:=e2
  obtain ⟨va,vn,vc,V,ZV,rfl,hvc,hLV,hv2⟩:=open_vars hy3
  obtain ⟨ra,rn,rc,R,ZR,rfl,hrc,hLW,hr2⟩:=open_rows hy4
  exact ⟨⟨mx,nm,p,a,na,ca,d,nd,cd,va,vn,vc,ra,rn,rc,k,V,ZV,R,ZR,Rows.uptoBulk y2.1-1,Rows.uptoBulk dd⟩,rfl,⟨hT,by show 1≤Rows.uptoBulk y2.1-1;omega,hT.sz (by omega),hLV,hLW,by show Rows.uptoBulk y2.1-1+tot ZV vn+tot ZR rn+nm.size≤Rows.uptoBulk dd;omega,hvc,hrc⟩,rfl⟩
theorem trod_problem {W':World} {v:Value} {d:DataW H} {p:List MemPlace} (h:DataW.Trod enc Tryz.prog W 0 (fun _=>true) true 31 v d p) (bel:Below W.heap.size W W') :
  DataW.Trod enc Tryz.prog W' 0 (fun b=>decide (b<W.heap.size)) true 31 v d p :=
 Below.trod laidOut (by kernel_rfl) (of_decide_eq_true (by kernel_rfl)) h bel (trod_blocks h)
end
end Go.Proofs.YtceigfafmalfgaaGreatDoor

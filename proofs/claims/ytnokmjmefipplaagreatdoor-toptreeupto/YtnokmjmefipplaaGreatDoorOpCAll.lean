import Derived.Test.YtnokmjmefipplaaGreatDoorOpRAll
import Derived.Test.YtnokmjmefipplaaGreatDoorPvFAll
set_option maxRecDepth 100000
namespace Go.Proofs.YtnokmjmefipplaaGreatDoor
open Go.ChangeShapes Go.WideShapes Go.ChangeAt Go.RowKit
section
variable {H:Type} {enc:TypeId × Value→H} {W:World}
theorem aD9:Tryz.prog.cellsOf 47 = 7:=by kernel_rfl
theorem vN:Tryz.prog.cellsOf 32 = 1:=by kernel_rfl
theorem jH {fuel:Nat} {u:Value} {x:DataW H × List MemPlace} (hf:DataW.trod enc Tryz.prog W 0 (fun _=>true) true fuel 32 [u] = some x) :
 ∃ a m cap X Z,u = .slice a m cap∧m≤cap∧LQ W a m X Z∧(∀ i,i < m→1≤Z i∧SzR (X i) (Z i))∧tot Z m≤Rows.uptoBulk x.1:=by
 obtain ⟨a,m,cap,ys,rfl,hm,hl,hb,h⟩:=iL Tryz.underlying32 gJ (by decide) hf
 have ht:=lW ys
 rw [hl] at ht
 rcases h with h0 | ⟨b,o,rfl,h⟩
 ·exact ⟨a,m,cap,fun _=>0,bW ys,rfl,hm,.inl h0,fun i hi=>by omega,by omega⟩
 ·obtain ⟨X,hX⟩:=pick (0:Rat) (P:=fun j r=>C3 W b (o + j * 3) r (bW ys j)∧SzR r (bW ys j)∧1≤bW ys j) (fun j hj=>by
   obtain ⟨cs,n,y,e1,e2,e3,e4⟩:=h j hj
   obtain ⟨r,c1,s1,g1⟩:=sD e2 e3 e4
   exact ⟨r,by rw [jY e1];exact ⟨c1,s1,by omega⟩⟩)
  exact ⟨_,m,cap,X,bW ys,rfl,hm,.inr ⟨b,o,rfl,fun j hj=>(hX j hj).1⟩,fun i hi=>⟨(hX i hi).2.2,(hX i hi).2.1⟩,by omega⟩
end
end Go.Proofs.YtnokmjmefipplaaGreatDoor
namespace Go.Proofs.YtnokmjmefipplaaGreatDoor
open Go.ChangeShapes Go.WideShapes Go.ChangeAt Go.RowKit
structure Nod where
 sp:Bool
 var:Int
 p:Bool
 a:Option Addr
 na:Nat
 ca:Nat
 at':Int
 lf:Int
 rt:Int
 C:Crt
def Nod.cells (n:Nod):List Value:=[.bool n.sp,.int .i64 n.var,.bool n.p,.slice n.a n.na n.ca,.int .i64 n.lf,.int .i64 n.rt,.int .i64 n.C.vd,.bool n.C.p,.slice n.C.a n.C.na n.C.ca,.slice n.C.d n.C.nd n.C.cd,.slice n.C.xa n.C.xn n.C.xc,.slice n.C.ya n.C.yn n.C.yc,.slice n.C.za n.C.zn n.C.zc]
def IsI (x:Int):Prop:=-9223372036854775808≤x∧x≤9223372036854775807
structure NodeAt (w:World) (b o:Nat) (n:Nod) (S:Nat):Prop where
 c:∀ i u,n.cells[i]? = some u→w.cell? ⟨b,o + i,none⟩ = some u
 ti:∃ T,TI w n.p n.a n.na n.ca n.at' T∧1≤T∧T + n.C.K≤S
 cq:CQ w n.C
 v:IsI n.var
 l:IsI n.lf
 r:IsI n.rt
theorem NodeAt.below {w w':World} {b o:Nat} {n:Nod} {S:Nat} (h:NodeAt w b o n S) (hb:Below w.heap.size w w'):NodeAt w' b o n S:=by
 obtain ⟨T,t1,t2⟩:=h.ti
 exact ⟨fun i u hu=>aF hb (h.c i u hu),⟨T,t1.below hb,t2⟩,h.cq.below hb,h.v,h.l,h.r⟩
def LN (w:World) (a:Option Addr) (n:Nat) (T:Nat→Nod) (Z:Nat→Nat):Prop:=n = 0∨∃ b o,a = some ⟨b,o,none⟩∧∀ i,i < n→NodeAt w b (o + i * 13) (T i) (Z i)
theorem LN.below {w w':World} {a:Option Addr} {n:Nat} {T:Nat→Nod} {Z:Nat→Nat} (h:LN w a n T Z) (hb:Below w.heap.size w w'):LN w' a n T Z:=by
 rcases h with h | ⟨b,o,e,h⟩
 ·exact .inl h
 ·exact .inr ⟨b,o,e,fun i hi=>(h i hi).below hb⟩
structure Srch where
 vd:Int
 p:Bool
 a:Option Addr
 na:Nat
 ca:Nat
 d:Option Addr
 nd:Nat
 cd:Nat
 xa:Option Addr
 xn:Nat
 xc:Nat
 za:Option Addr
 zn:Nat
 zc:Nat
 ta:Option Addr
 tn:Nat
 tc:Nat
 nn:Int
 v:Rat
 X:Nat→Rat
 Z:Nat→Rat
 T:Nat→Nod
 ZX:Nat→Nat
 ZZ:Nat→Nat
 ZT:Nat→Nat
 S:Nat
 K:Nat
abbrev Srch.val (s:Srch):Value:=.agg #[.int .i64 s.vd,.bool s.p,.slice s.a s.na s.ca,.slice s.d s.nd s.cd,.slice s.xa s.xn s.xc,.slice s.za s.zn s.zc,.slice s.ta s.tn s.tc,.int .i64 s.nn]
structure SQ (w:World) (s:Srch):Prop where
 v:TR w s.p s.a s.na s.ca s.d s.nd s.cd s.v s.S
 s1:1≤s.S
 sv:SzR s.v s.S
 x:LQ w s.xa s.xn s.X s.ZX
 zx:∀ i,i < s.xn→1≤s.ZX i∧SzR (s.X i) (s.ZX i)
 z:LQ w s.za s.zn s.Z s.ZZ
 zz:∀ i,i < s.zn→1≤s.ZZ i∧SzR (s.Z i) (s.ZZ i)
 t:LN w s.ta s.tn s.T s.ZT
 all:s.S + tot s.ZX s.xn + tot s.ZZ s.zn + tot s.ZT s.tn≤s.K
 xc:s.xn≤s.xc
 zc:s.zn≤s.zc
 tc:s.tn≤s.tc
 vd:IsI s.vd
theorem SQ.below {w w':World} {s:Srch} (h:SQ w s) (hb:Below w.heap.size w w'):SQ w' s:=⟨h.v.below hb,h.s1,h.sv,h.x.below hb,h.zx,h.z.below hb,h.zz,h.t.below hb,h.all,h.xc,h.zc,h.tc,h.vd⟩
section
variable {H:Type} {enc:TypeId × Value→H} {W:World}
theorem aE0:Tryz.prog.cellsOf 49 = 13:=by kernel_rfl
theorem yX:Tryz.prog.cellsOf 35 = 8:=by kernel_rfl
theorem aA2:Tryz.prog.cellsOf 33 = 1:=by kernel_rfl
theorem qC {P:Program} {t:TypeId} {f0 f1 f2 f3 f4 f5:Field} {fuel:Nat} {cs:List Value} {x:DataW H × List MemPlace} (ht:P.underlying t = some (.struct #[f0,f1,f2,f3,f4,f5])) (h:DataW.trod enc P W 0 (fun _=>true) true fuel t cs = some x) :
 ∃ y0 y1 y2 y3 y4 y5 n,x.1 = .agg [y0.1,y1.1,y2.1,y3.1,y4.1,y5.1]∧DataW.trod enc P W 0 (fun _=>true) true n f0.type ((cs.drop f0.offset).take (P.cellsOf f0.type)) = some y0 ∧
  DataW.trod enc P W 0 (fun _=>true) true n f1.type ((cs.drop f1.offset).take (P.cellsOf f1.type)) = some y1∧DataW.trod enc P W 0 (fun _=>true) true n f2.type ((cs.drop f2.offset).take (P.cellsOf f2.type)) = some y2 ∧
  DataW.trod enc P W 0 (fun _=>true) true n f3.type ((cs.drop f3.offset).take (P.cellsOf f3.type)) = some y3∧DataW.trod enc P W 0 (fun _=>true) true n f4.type ((cs.drop f4.offset).take (P.cellsOf f4.type)) = some y4 ∧
  DataW.trod enc P W 0 (fun _=>true) true n f5.type ((cs.drop f5.offset).take (P.cellsOf f5.type)) = some y5:=by
 obtain ⟨xs,n,_,rfl,hl,hlen,hf⟩:=DataW.trod_struct ht h
 match xs,hlen with
 | [y0,y1,y2,y3,y4,y5],_=>exact ⟨y0,y1,y2,y3,y4,y5,n,by simp,by simpa using hf 0 f0 rfl,by simpa using hf 1 f1 rfl,by simpa using hf 2 f2 rfl,by simpa using hf 3 f3 rfl,by simpa using hf 4 f4 rfl,by simpa using hf 5 f5 rfl⟩
theorem jB {fuel:Nat} {u:Value} {x:DataW H × List MemPlace} (hf:DataW.trod enc Tryz.prog W 0 (fun _=>true) true fuel 3 [u] = some x):∃ k,u = .int .i64 k∧IsI k:=by
 obtain ⟨k,hc,_,hw⟩:=DataW.trod_int Tryz.underlying3 hf
 simp only [List.cons.injEq,and_true] at hc
 refine ⟨k,hc,?_⟩
 simp [Lit.wf,IntKind.min,IntKind.max,IntKind.signed,IntKind.bits] at hw
 exact ⟨by omega,by omega⟩
theorem aE1 {fuel:Nat} {cs:List Value} {x:DataW H × List MemPlace} (hsz:cs.length = 2) (hf:DataW.trod enc Tryz.prog W 0 (fun _=>true) true fuel 25 cs = some x) :
 ∃ b a n cap y,cs = [.bool b,.slice a n cap]∧TI W b a n cap y (Rows.uptoBulk x.1)∧1≤Rows.uptoBulk x.1:=by
 obtain ⟨y0,y1,m,hx,_,hy0,hy1⟩:=trod_struct2 Tryz.underlying25 hf
 match cs,hsz with
 | [u0,u1],_ =>
  simp only [iY,qL,List.drop_zero,List.drop_succ_cons,List.take_succ_cons,List.take_zero] at hy0 hy1
  have hd:x.1 = .agg [y0.1,y1.1]:=by rw [hx]
  have hB:Rows.uptoBulk x.1 = Rows.uptoBulk y0.1 + (Rows.uptoBulk y1.1 + 0) + 1:=by rw [hd];simp only [Rows.uptoBulk,Rows.uptoBulkAll]
  obtain ⟨a,n,cap,xs,rfl,h1,h2,h3,h4,h5⟩:=qN hy1 (Nat.le_refl _)
  obtain ⟨b,hc,_⟩:=DataW.trod_bool Tryz.underlying4 hy0
  simp only [List.cons.injEq,and_true] at hc
  subst hc
  exact ⟨b,a,n,cap,_,rfl,⟨_,⟨xs,h1,h2,h3,h4,rfl,by omega⟩,rfl⟩,by omega⟩
theorem aA3 {fuel:Nat} {cs:List Value} {x:DataW H × List MemPlace} (hsz:cs.length = 7) (hf:DataW.trod enc Tryz.prog W 0 (fun _=>true) true fuel 47 cs = some x) :
 ∃ C:Crt,cs = [.int .i64 C.vd,.bool C.p,.slice C.a C.na C.ca,.slice C.d C.nd C.cd,.slice C.xa C.xn C.xc,.slice C.ya C.yn C.yc,.slice C.za C.zn C.zc]∧CQ W C∧C.K = Rows.uptoBulk x.1:=by
 obtain ⟨y0,y1,y2,y3,y4,m,hx,hy0,hy1,hy2,hy3,hy4⟩:=kT Tryz.underlying47 hf
 have hB:Rows.uptoBulk x.1 = Rows.uptoBulk y0.1 + (Rows.uptoBulk y1.1 + (Rows.uptoBulk y2.1 + (Rows.uptoBulk y3.1 + (Rows.uptoBulk y4.1 + 0)))) + 1:=by
  rw [hx];simp only [Rows.uptoBulk,Rows.uptoBulkAll]
 match cs,hsz with
 | [u0,u1,u2,u3,u4,u5,u6],_ =>
  simp only [nG,gJ,vN,List.drop_zero,List.drop_succ_cons,List.take_succ_cons,List.take_zero] at hy0 hy1 hy2 hy3 hy4
  obtain ⟨k,rfl,_⟩:=jB hy0
  obtain ⟨p,a,na,ca,d,nd,cd,r,e2,hT,h2⟩:=iZ rfl hy1
  simp only [List.cons.injEq,and_true] at e2
  obtain ⟨rfl,rfl,rfl⟩:=e2
  obtain ⟨xa,xn,xc,X,ZX,rfl,hxc,hX,hzx,htx⟩:=jH hy2
  obtain ⟨ya,yn,yc,Y,ZY,rfl,hyc,hY,hzy,hty⟩:=jH hy3
  obtain ⟨za,zn,zc,Z,ZZ,rfl,hzc,hZ,hzz,htz⟩:=jH hy4
  exact ⟨⟨k,p,a,na,ca,d,nd,cd,xa,xn,xc,ya,yn,yc,za,zn,zc,r,X,Y,Z,ZX,ZY,ZZ,Rows.uptoBulk y1.1 - 1,Rows.uptoBulk x.1⟩,rfl,⟨hT,by show 1≤Rows.uptoBulk y1.1 - 1;omega,hT.sz (by omega),hX,hzx,hY,hzy,hZ,hzz,by show Rows.uptoBulk y1.1 - 1 + tot ZX xn + tot ZY yn + tot ZZ zn≤Rows.uptoBulk x.1;omega,hxc,hzc⟩,rfl⟩
theorem open_node {b o:Nat} {fuel:Nat} {cs:List Value} {x:DataW H × List MemPlace} (hsz:cs.length = 13) (hcell:∀ i v,cs[i]? = some v→W.cell? ⟨b,o + i,none⟩ = some v)
 (hf:DataW.trod enc Tryz.prog W 0 (fun _=>true) true fuel 49 cs = some x):∃ n,NodeAt W b o n (Rows.uptoBulk x.1 - 1):=by
 obtain ⟨y0,y1,y2,y3,y4,y5,m,hx,hy0,hy1,hy2,hy3,hy4,hy5⟩:=qC Tryz.underlying49 hf
 have hB:Rows.uptoBulk x.1 = Rows.uptoBulk y0.1 + (Rows.uptoBulk y1.1 + (Rows.uptoBulk y2.1 + (Rows.uptoBulk y3.1 + (Rows.uptoBulk y4.1 + (Rows.uptoBulk y5.1 + 0))))) + 1:=by
  rw [hx];simp only [Rows.uptoBulk,Rows.uptoBulkAll]
 match cs,hsz with
 | [u0,u1,u2,u3,u4,u5,u6,u7,u8,u9,u10,u11,u12],_ =>
  simp only [iY,nG,yJ,aD9,List.drop_zero,List.drop_succ_cons,List.take_succ_cons,List.take_zero] at hy0 hy1 hy2 hy3 hy4 hy5
  obtain ⟨sp,e0,_⟩:=DataW.trod_bool Tryz.underlying4 hy0
  simp only [List.cons.injEq,and_true] at e0
  subst e0
  obtain ⟨v,rfl,hv⟩:=jB hy1
  obtain ⟨p,a,na,ca,y,e2,hT,h2⟩:=aE1 rfl hy2
  simp only [List.cons.injEq,and_true] at e2
  obtain ⟨rfl,rfl⟩:=e2
  obtain ⟨l,rfl,hl⟩:=jB hy3
  obtain ⟨r,rfl,hr⟩:=jB hy4
  obtain ⟨C,e5,hC,hK⟩:=aA3 rfl hy5
  simp only [List.cons.injEq,and_true] at e5
  obtain ⟨rfl,rfl,rfl,rfl,rfl,rfl,rfl⟩:=e5
  exact ⟨⟨sp,v,p,a,na,ca,y,l,r,C⟩,⟨fun i u hu=>hcell i u hu,⟨_,hT,h2,by show Rows.uptoBulk y2.1 + C.K≤_;omega⟩,hC,hv,hl,hr⟩⟩
theorem aA4 {fuel:Nat} {u:Value} {x:DataW H × List MemPlace} (hf:DataW.trod enc Tryz.prog W 0 (fun _=>true) true fuel 33 [u] = some x) :
 ∃ a m cap T Z,u = .slice a m cap∧m≤cap∧LN W a m T Z∧tot Z m≤Rows.uptoBulk x.1:=by
 obtain ⟨a,m,cap,ys,rfl,hm,hl,hb,h⟩:=iL Tryz.underlying33 aE0 (by decide) hf
 have ht:=lW ys
 rw [hl] at ht
 have d0:Nod:=⟨false,0,false,none,0,0,0,0,0,⟨0,false,none,0,0,none,0,0,none,0,0,none,0,0,none,0,0,0,fun _=>0,fun _=>0,fun _=>0,fun _=>0,fun _=>0,fun _=>0,0,0⟩⟩
 rcases h with h0 | ⟨b,o,rfl,h⟩
 ·exact ⟨a,m,cap,fun _=>d0,bW ys,rfl,hm,.inl h0,by omega⟩
 ·obtain ⟨t,h⟩:=pick d0 (P:=fun j t=>NodeAt W b (o + j * 13) t (bW ys j)) (fun j hj=>by
   obtain ⟨cs,n,y,e1,e2,e3,e4⟩:=h j hj
   obtain ⟨t,h1⟩:=open_node e2 e3 e4
   exact ⟨t,by rw [jY e1];exact h1⟩)
  exact ⟨_,m,cap,t,bW ys,rfl,hm,.inr ⟨b,o,rfl,h⟩,by omega⟩
theorem yY {base:Nat} {v:Value} {dd:DataW H} {pl:List MemPlace} (hv:Value.okWide Tryz.prog W .any base 35 v) (h:DataW.Trod enc Tryz.prog W 0 (fun _=>true) true 35 v dd pl) :
 ∃ s:Srch,v = s.val∧SQ W s∧s.K = Rows.uptoBulk dd:=by
 obtain ⟨cs,rfl,hsz⟩:=okWide_struct Tryz.underlying35 hv
 obtain ⟨fuel,hf⟩:=h
 rw [yX] at hsz
 obtain ⟨l⟩:=cs
 obtain ⟨y0,y1,y2,y3,y4,y5,m,hx,hy0,hy1,hy2,hy3,hy4,hy5⟩:=qC (cs:=l) (x:=(dd,pl)) Tryz.underlying35 (by simpa [Value.cells] using hf)
 have hB:Rows.uptoBulk dd = Rows.uptoBulk y0.1 + (Rows.uptoBulk y1.1 + (Rows.uptoBulk y2.1 + (Rows.uptoBulk y3.1 + (Rows.uptoBulk y4.1 + (Rows.uptoBulk y5.1 + 0))))) + 1:=by
  have hx':dd = .agg [y0.1,y1.1,y2.1,y3.1,y4.1,y5.1]:=hx
  rw [hx'];simp only [Rows.uptoBulk,Rows.uptoBulkAll]
 match l,hsz with
 | [u0,u1,u2,u3,u4,u5,u6,u7],_ =>
  simp only [nG,gJ,vN,aA2,List.drop_zero,List.drop_succ_cons,List.take_succ_cons,List.take_zero] at hy0 hy1 hy2 hy3 hy4 hy5
  obtain ⟨k,rfl,hk⟩:=jB hy0
  obtain ⟨p,a,na,ca,d,nd,cd,r,e2,hT,h2⟩:=iZ rfl hy1
  simp only [List.cons.injEq,and_true] at e2
  obtain ⟨rfl,rfl,rfl⟩:=e2
  obtain ⟨xa,xn,xc,X,ZX,rfl,hxc,hX,hzx,htx⟩:=jH hy2
  obtain ⟨za,zn,zc,Z,ZZ,rfl,hzc,hZ,hzz,htz⟩:=jH hy3
  obtain ⟨ta,tn,tc,T,ZT,rfl,htc,hTr,htt⟩:=aA4 hy4
  obtain ⟨nn,rfl,_⟩:=jB hy5
  exact ⟨⟨k,p,a,na,ca,d,nd,cd,xa,xn,xc,za,zn,zc,ta,tn,tc,nn,r,X,Z,T,ZX,ZZ,ZT,Rows.uptoBulk y1.1 - 1,Rows.uptoBulk dd⟩,rfl,⟨hT,by show 1≤Rows.uptoBulk y1.1 - 1;omega,hT.sz (by omega),hX,hzx,hZ,hzz,hTr,by show Rows.uptoBulk y1.1 - 1 + tot ZX xn + tot ZZ zn + tot ZT tn≤Rows.uptoBulk dd;omega,hxc,hzc,htc,hk⟩,rfl⟩
theorem yZ {W':World} {v:Value} {d:DataW H} {p:List MemPlace} (h:DataW.Trod enc Tryz.prog W 0 (fun _=>true) true 35 v d p) (bel:Below W.heap.size W W') :
 DataW.Trod enc Tryz.prog W' 0 (fun b=>decide (b < W.heap.size)) true 35 v d p :=
 Below.trod laidOut (by kernel_rfl) (of_decide_eq_true (by kernel_rfl)) h bel (jQ h)
end
end Go.Proofs.YtnokmjmefipplaaGreatDoor

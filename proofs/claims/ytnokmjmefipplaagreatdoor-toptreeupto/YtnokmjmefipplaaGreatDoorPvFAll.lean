import Derived.Test.YtnokmjmefipplaaGreatDoorWdAll
import Derived.Test.YtnokmjmefipplaaGreatDoorPuAAll
import Derived.Test.YtnokmjmefipplaaGreatDoorPqF
import Derived.Test.YtnokmjmefipplaaGreatDoorPvCAll
import Derived.Test.YtnokmjmefipplaaGreatDoorQ3OAll
import Derived.Test.YtnokmjmefipplaaGreatDoorRwA
set_option maxRecDepth 100000
set_option maxHeartbeats 16000000
namespace Go.Proofs.YtnokmjmefipplaaGreatDoor
open Go.RowKit
theorem Wd.ov {d:Nat} {D:Int} {r:Rat} (h:Wd d D r):Ov D (pw d) r:=by
 obtain ⟨h1,_,m,h3,h4⟩:=h
 refine ⟨m,h3,?_⟩
 have h5:pw d * 1≤pw d * D:=Int.mul_le_mul_of_nonneg_left (by omega) (Int.le_of_lt (bH d))
 omega
theorem aL8 (K:Nat):pw K < pw (K + 1):=by have:=bU K;have:=bH K;omega
theorem Wd.xn {X:Nat→Rat} {n d:Nat} {D:Int} (hD:0 < D) (hd:D < pw d) (h:∀ j,j < n→Wd d D (X j)) (j:Nat):Wd d D (xn X n j):=by
 unfold Go.Proofs.YtnokmjmefipplaaGreatDoor.xn
 split
 ·exact h j (by assumption)
 ·exact Wd.zero hD hd
theorem PQ.row_sz3 {w:World} {P:Prob} (hP:PQ w P) {n Kx:Nat} {X:Nat→Rat} {Dx:Int} (dx1:0 < Dx) (dx2:Dx < pw Kx) (dx3:∀ j,j < n→Wd Kx Dx (X j)) (hK:P.K≤1048576):∀ i k,i < P.rn→k≤(P.R i).nt→SzR (aQ (tv (P.R i) (xn X n) P.vn) k) (P.K + Kx + 1):=by
 intro i k hi hk
 obtain ⟨b,o,hR⟩:=hP.row hi
 obtain ⟨a,cap,Z,_,h2,h3,_⟩:=hR.terms
 obtain ⟨D,d1,d2,d3⟩:=Wd.list (X:=fun k=>((P.R i).t k).coef) h2.sz h3
 have hZi:=bI (Z:=P.ZR) hi
 have hall:=hP.all
 have hl:=aT Z (P.R i).nt
 have q:=dN (Int.le_of_lt d1) d2 (Int.le_of_lt dx1) dx2
 have h4:=Wd.sum (Y:=tv (P.R i) (xn X n) P.vn) (n:=(P.R i).nt) (Int.mul_pos d1 dx1) q.1 (fun j hj=>by
  unfold tv
  split
  ·exact (d3 j hj).mul (Wd.xn dx1 dx2 dx3 _)
  ·exact Wd.zero (Int.mul_pos d1 dx1) q.1) (by omega) k hk
 exact (h4.up (show _≤P.K + Kx + 1 by omega)).sz (by omega)
theorem PQ.val_sz3 {w:World} {P:Prob} (hP:PQ w P) {n Kx:Nat} {X:Nat→Rat} {Dx:Int} (dx1:0 < Dx) (dx2:Dx < pw Kx) (dx3:∀ j,j < n→Wd Kx Dx (X j)) (hK:P.K≤1048576):∀ k,k≤P.vn + 1→SzR (aQ (prt P.k P.V (xn X n)) k) (P.K + Kx + 1):=by
 intro k hk
 have hall:=hP.all
 have hl:=aT P.ZV P.vn
 obtain ⟨Do,o1,o2,o3⟩:=Wd.list (X:=fun j=>(P.V j).obj) (Z:=P.ZV) (n:=P.vn) (K:=tot P.ZV P.vn) (fun j hj=>by
  obtain ⟨b,o,hV⟩:=hP.var hj
  exact hV.sobj) (Nat.le_refl _)
 have hs:=Wd.self hP.sk
 have k1:=hs.1
 have k2:=hs.2.1
 generalize (P.k.den:Int) = Dk at *
 have q:=dN (Int.le_of_lt o1) o2 (Int.le_of_lt dx1) dx2
 have q0:0 < Do * Dx:=Int.mul_pos o1 dx1
 have q2:=dN (Int.le_of_lt k1) k2 q.2 q.1
 have h4:=Wd.sum (Y:=prt P.k P.V (xn X n)) (n:=P.vn + 1) (D:=Dk * (Do * Dx)) (Int.mul_pos k1 q0) q2.1 (fun j hj=>by
  cases j with
  | zero=>exact (hs.lift q0 q.1)
  | succ j=>exact ((o3 j (by omega)).mul (Wd.xn dx1 dx2 dx3 _)).lift' k1 k2) (by omega) k hk
 exact (h4.up (show _≤P.K + Kx + 1 by omega)).sz (by omega)
theorem aA1 (P:Prob) {xa:Option Addr} {nx xc:Nat} {X:Nat→Rat} {Zx:Nat→Nat} {Kx:Nat} (w:World) (hP:PQ w P) (hx:LQ w xa nx X Zx) (hzx:∀ i,i < nx→1≤Zx i∧SzR (X i) (Zx i)) (htx:tot Zx nx≤Kx) (hxc:nx≤xc) (hK:P.K + Kx≤1048576) (hT:TB w) :
 Calls Tryz.prog 44 #[P.val,.slice xa nx xc] w fun e w'=>∃ b,e = .returned (.bool b)∧(b = true↔bY P nx X)∧Below w.heap.size w w':=by
 obtain ⟨Dx,dx1,dx2,dx3⟩:=Wd.list (fun i hi=>(hzx i hi).2) htx
 have hZx:∀ j,j < nx→Zx j≤Kx:=fun j hj=>by have:=bI (Z:=Zx) hj;omega
 have hZR:∀ i,i < P.rn→P.ZR i≤P.K:=fun i hi=>by have:=bI (Z:=P.ZR) hi;have:=hP.all;omega
 exact aM5 P (T:=2097160) (S:=3145736) (dx:=Kx) (ax:=Kx + 1) w hP hx hxc (fun j hj=>⟨(hzx j (by omega)).1,by have:=hZx j (by omega);omega⟩) (fun i j hi hj=>⟨(hzx j (by omega)).1,by have:=hZR i hi;have:=hZx j (by omega);omega⟩) (by omega) (by omega) dx1 dx2 (Int.le_of_lt (bH _)) (aL8 _) (fun j hj=>(dx3 j (by omega)).ov) (fun i hi=>by have:=hZR i hi;omega) (by omega) (by omega) hT
theorem aG2 (P:Prob) {xa:Option Addr} {nx xc:Nat} {X:Nat→Rat} {Zx:Nat→Nat} {Kx:Nat} (w:World) (hP:PQ w P) (hx:LQ w xa nx X Zx) (hzx:∀ i,i < nx→1≤Zx i∧SzR (X i) (Zx i)) (htx:tot Zx nx≤Kx) (hK:P.K + Kx≤1048576) :
 Calls Tryz.prog 12 #[P.val,.slice xa nx xc] w fun e w'=>∃ b,e = .returned (.bool b)∧(b = true↔bY P nx X)∧Below w.heap.size w w':=by
 obtain ⟨Dx,dx1,dx2,dx3⟩:=Wd.list (fun i hi=>(hzx i hi).2) htx
 have hZx:∀ j,j < nx→Zx j≤Kx:=fun j hj=>by have:=bI (Z:=Zx) hj;omega
 have hZR:∀ i,i < P.rn→P.ZR i≤P.K:=fun i hi=>by have:=bI (Z:=P.ZR) hi;have:=hP.all;omega
 have hk1:=bJ Zx nx
 exact aG1 P (T:=2097160) (S:=2097152) (U:=Kx) w hP hx (fun j hj=>⟨(hzx j hj).1,hZx j hj⟩) ⟨by omega,by omega⟩ (fun i hi=>by have:=hZR i hi;omega) (by omega) ⟨by omega,by omega⟩ (by omega) (fun i k hi hk=>(hP.row_sz3 dx1 dx2 dx3 (by omega) i k hi hk).le (by omega))
theorem uH (P:Prob) (X:Nat→Rat) {n:Nat} (h:P.vn≤n):vlu P (xn X n) = vlu P X:=by
 rw [jC,jC]
 congr 1
 exact bG fun j hj=>by unfold xn;rw [if_pos (by omega)]
theorem aC4 (P:Prob) {xa:Option Addr} {nx xc:Nat} {X:Nat→Rat} {Zx:Nat→Nat} {Kx:Nat} (w:World) (hP:PQ w P) (hx:LQ w xa nx X Zx) (hzx:∀ i,i < nx→1≤Zx i∧SzR (X i) (Zx i)) (htx:tot Zx nx≤Kx) (hxc:nx≤xc) (hn:nx = P.vn) (hK:P.K + Kx≤1048576) (hT:TB w) :
 Calls Tryz.prog 24 #[P.val,.slice xa nx xc] w fun e w'=>∃ f c n1 k1 c' n' k',e = .returned (.agg #[.bool f,.slice c n1 k1,.slice c' n' k'])∧GR w' w.heap.size f c n1 k1 c' n' k' (vlu P X) 2097160∧Below w.heap.size w w':=by
 subst hn
 obtain ⟨Dx,dx1,dx2,dx3⟩:=Wd.list (fun i hi=>(hzx i hi).2) htx
 have hall:=hP.all
 have hl:=aT P.ZV P.vn
 have hk1:=bJ Zx P.vn
 have hS:=hP.s1
 have hZV:∀ i,i < P.vn→P.ZV i≤P.K:=fun i hi=>by have:=bI (Z:=P.ZV) hi;omega
 have hZx:∀ j,j < P.vn→Zx j≤Kx:=fun j hj=>by have:=bI (Z:=Zx) hj;omega
 have e:∀ q,q≤P.vn + 1→aQ (prt P.k P.V X) q = aQ (prt P.k P.V (xn X P.vn)) q:=fun q hq=>bG fun j hj=>by
  cases j with
  | zero=>rfl
  | succ j=>show (P.V j).obj * X j = (P.V j).obj * xn X P.vn j;unfold xn;rw [if_pos (by omega)]
 exact valueQ P (T:=2097160) (S:=P.K + Kx) (m:=P.vn) w hP hx hxc (by omega) (by omega) (fun j hj=>⟨(hzx j hj).1,by have:=hZV j hj;have:=hZx j hj;omega⟩) (by omega) (by omega) (fun q hq=>by rw [e q hq];exact (hP.val_sz3 dx1 dx2 dx3 (by omega) q hq).le (by omega)) (by omega) hT
theorem yV (P:Prob) {xa:Option Addr} {nx xc:Nat} {X:Nat→Rat} {Zx:Nat→Nat} {Kx:Nat} (w:World) (hP:PQ w P) (hx:LQ w xa nx X Zx) (hzx:∀ i,i < nx→1≤Zx i∧SzR (X i) (Zx i)) (htx:tot Zx nx≤Kx) (hK:P.K + Kx≤1048576) :
 Calls Tryz.prog 15 #[P.val,.slice xa nx xc] w fun e w'=>∃ f c n1 k1 c' n' k',e = .returned (.agg #[.bool f,.slice c n1 k1,.slice c' n' k'])∧GR w' w.heap.size f c n1 k1 c' n' k' (vlu P (xn X nx)) 2097160∧Below w.heap.size w w':=by
 obtain ⟨Dx,dx1,dx2,dx3⟩:=Wd.list (fun i hi=>(hzx i hi).2) htx
 have hall:=hP.all
 have hl:=aT P.ZV P.vn
 have hk1:=bJ Zx nx
 have hZV:∀ i,i < P.vn→P.ZV i≤P.K:=fun i hi=>by have:=bI (Z:=P.ZV) hi;omega
 have hZx:∀ j,j < nx→Zx j≤Kx:=fun j hj=>by have:=bI (Z:=Zx) hj;omega
 exact aG0 P (T:=2097160) (S:=P.K + Kx) (U:=Kx) w hP hx (fun j hj=>⟨(hzx j hj).1,hZx j hj⟩) ⟨by omega,by omega⟩ (fun j hj=>by have:=hZV j hj;omega) (by omega) (by omega) (by omega) (by omega) (fun q hq=>(hP.val_sz3 dx1 dx2 dx3 (by omega) q hq).le (by omega))
structure Crt where
 vd:Int
 p:Bool
 a:Option Addr
 na:Nat
 ca:Nat
 d:Option Addr
 nd:Nat
 cd:Nat
 xa:Option Addr
 xn:Nat
 xc:Nat
 ya:Option Addr
 yn:Nat
 yc:Nat
 za:Option Addr
 zn:Nat
 zc:Nat
 v:Rat
 X:Nat→Rat
 Y:Nat→Rat
 Z:Nat→Rat
 ZX:Nat→Nat
 ZY:Nat→Nat
 ZZ:Nat→Nat
 S:Nat
 K:Nat
abbrev Crt.val (C:Crt):Value:=.agg #[.int .i64 C.vd,.bool C.p,.slice C.a C.na C.ca,.slice C.d C.nd C.cd,.slice C.xa C.xn C.xc,.slice C.ya C.yn C.yc,.slice C.za C.zn C.zc]
structure CQ (w:World) (C:Crt):Prop where
 v:TR w C.p C.a C.na C.ca C.d C.nd C.cd C.v C.S
 s1:1≤C.S
 sv:SzR C.v C.S
 x:LQ w C.xa C.xn C.X C.ZX
 zx:∀ i,i < C.xn→1≤C.ZX i∧SzR (C.X i) (C.ZX i)
 y:LQ w C.ya C.yn C.Y C.ZY
 zy:∀ i,i < C.yn→1≤C.ZY i∧SzR (C.Y i) (C.ZY i)
 z:LQ w C.za C.zn C.Z C.ZZ
 zz:∀ i,i < C.zn→1≤C.ZZ i∧SzR (C.Z i) (C.ZZ i)
 all:C.S + tot C.ZX C.xn + tot C.ZY C.yn + tot C.ZZ C.zn≤C.K
 xc:C.xn≤C.xc
 zc:C.zn≤C.zc
theorem CQ.below {w w':World} {C:Crt} (h:CQ w C) (hb:Below w.heap.size w w'):CQ w' C:=⟨h.v.below hb,h.s1,h.sv,h.x.below hb,h.zx,h.y.below hb,h.zy,h.z.below hb,h.zz,h.all,h.xc,h.zc⟩
structure EE (w:World) (eS eP eV eB eR eD:Value):Prop where
 s:Errs w 4 eS
 p:Errs w 5 eP
 v:Errs w 2 eV
 b:Errs w 7 eB
 r:Errs w 8 eR
 d:Errs w 1 eD
theorem EE.below {w w':World} {eS eP eV eB eR eD:Value} (h:EE w eS eP eV eB eR eD) (hb:Below w.heap.size w w'):EE w' eS eP eV eB eR eD:=⟨h.s.below hb,h.p.below hb,h.v.below hb,h.b.below hb,h.r.below hb,h.d.below hb⟩
theorem lG {r s:Rat}:cs r s = 0↔r = s:=by
 have h1:=jA (r:=r) (s:=s)
 have h2:=iC (r:=r) (s:=s)
 constructor
 ·intro h
  have:¬ r < s:=fun k=>by have:=h1.2 k;omega
  have:¬ s < r:=fun k=>by have:=h2.2 k;omega
  grind
 ·rintro rfl
  have:¬ cs r r < 0:=fun k=>by have:=h1.1 k;grind
  have:¬ 0 < cs r r:=fun k=>by have:=h2.1 k;grind
  omega
def OptR (P:Prob) (C:Crt) (eS eP eV eB:Value) (w:World) (e:Ending) (w':World):Prop :=
 Below w.heap.size w w'∧((¬ (C.xn = P.vn∧C.yn = P.rn)∧e = .returned eS)∨(C.xn = P.vn∧C.yn = P.rn∧((¬ bY P C.xn C.X∧e = .returned eP)∨(bY P C.xn C.X∧((vlu P C.X ≠ C.v∧e = .returned eV)∨(vlu P C.X = C.v∧((¬ (okS P C.Y∧pvS P C.Y = C.v)∧e = .returned eB)∨(okS P C.Y∧pvS P C.Y = C.v∧e = .returned .nilIface))))))))
theorem optQ (P:Prob) (C:Crt) (w:World) (hP:PQ w P) (hC:CQ w C) (hK:P.K + C.K≤1048576) (hT:TB w) {eS eP eV eB eR eD:Value} (EH:EE w eS eP eV eB eR eD) :
 Calls Tryz.prog 59 #[P.val,C.val] w fun e w'=>OptR P C eS eP eV eB w e w':=by
 unfold Prob.val Crt.val
 have Pb:=aJ w #[.bool P.mx,.string P.nm,.bool P.p,.slice P.a P.na P.ca,.slice P.d P.nd P.cd,.slice P.va P.vn P.vc,.slice P.ra P.rn P.rc] 31
 have hz0:=aG w (.cells #[.bool P.mx,.string P.nm,.bool P.p,.slice P.a P.na P.ca,.slice P.d P.nd P.cd,.slice P.va P.vn P.vc,.slice P.ra P.rn P.rc] 31)
 have hs0:(w.alloc (.cells #[.bool P.mx,.string P.nm,.bool P.p,.slice P.a P.na P.ca,.slice P.d P.nd P.cd,.slice P.va P.vn P.vc,.slice P.ra P.rn P.rc] 31)).heap.size = w.heap.size + 1:=by simp
 have Cb:=aJ (w.alloc (.cells #[.bool P.mx,.string P.nm,.bool P.p,.slice P.a P.na P.ca,.slice P.d P.nd P.cd,.slice P.va P.vn P.vc,.slice P.ra P.rn P.rc] 31)) #[.int .i64 C.vd,.bool C.p,.slice C.a C.na C.ca,.slice C.d C.nd C.cd,.slice C.xa C.xn C.xc,.slice C.ya C.yn C.yc,.slice C.za C.zn C.zc] 47
 have hz1:=aG (w.alloc (.cells #[.bool P.mx,.string P.nm,.bool P.p,.slice P.a P.na P.ca,.slice P.d P.nd P.cd,.slice P.va P.vn P.vc,.slice P.ra P.rn P.rc] 31)) (.cells #[.int .i64 C.vd,.bool C.p,.slice C.a C.na C.ca,.slice C.d C.nd C.cd,.slice C.xa C.xn C.xc,.slice C.ya C.yn C.yc,.slice C.za C.zn C.zc] 47)
 have hs1:((w.alloc (.cells #[.bool P.mx,.string P.nm,.bool P.p,.slice P.a P.na P.ca,.slice P.d P.nd P.cd,.slice P.va P.vn P.vc,.slice P.ra P.rn P.rc] 31)).alloc (.cells #[.int .i64 C.vd,.bool C.p,.slice C.a C.na C.ca,.slice C.d C.nd C.cd,.slice C.xa C.xn C.xc,.slice C.ya C.yn C.yc,.slice C.za C.zn C.zc] 47)).heap.size = w.heap.size + 2:=by simp
 rw [hs0] at Cb
 replace Pb:=Pb.below hz1
 have hb0:=aB hz0 hz1
 have E0:=EH.below hb0
 have hall:=hC.all
 have ht1:=bJ C.ZX C.xn
 have ht2:=bJ C.ZY C.yn
 have ht3:=bJ C.ZZ C.zn
 clear hz0 hz1 hs0
 have p0:=Pb 0 _ rfl
 have p1:=Pb 1 _ rfl
 have p2:=Pb 2 _ rfl
 have p3:=Pb 3 _ rfl
 have p4:=Pb 4 _ rfl
 have p5:=Pb 5 _ rfl
 have p6:=Pb 6 _ rfl
 have c4:=Cb 4 _ rfl
 have c5:=Cb 5 _ rfl
 go_enter Tryz.func59,Tryz.ntmps59
 by_cases hx:C.xn = P.vn
 ·have hxI:(C.xn:Int) = (P.vn:Int):=by omega
  by_cases hy:C.yn = P.rn
  ·have hyI:(C.yn:Int) = (P.rn:Int):=by omega
   have HX:Hid (C.xn = P.vn∧C.yn = P.rn):=⟨hx,hy⟩
   clear hx hy
   go_wp2_with fail
   clear p0 p1 p2 p3 p4 p5 p6 c4 c5 hxI hyI
   generalize (w.alloc (.cells #[.bool P.mx,.string P.nm,.bool P.p,.slice P.a P.na P.ca,.slice P.d P.nd P.cd,.slice P.va P.vn P.vc,.slice P.ra P.rn P.rc] 31)).alloc (.cells #[.int .i64 C.vd,.bool C.p,.slice C.a C.na C.ca,.slice C.d C.nd C.cd,.slice C.xa C.xn C.xc,.slice C.ya C.yn C.yc,.slice C.za C.zn C.zc] 47) = W0 at *
   refine (aA1 P (Kx:=C.K) W0 (hP.below hb0) (hC.x.below hb0) hC.zx (by omega) hC.xc (by omega) (hT.below hb0)).mono ?_
   rintro e w1 ⟨b,rfl,hb,h1⟩
   have hb1:=aB hb0 h1
   replace Pb:=Pb.below h1
   replace Cb:=Cb.below h1
   have E1:=EH.below hb1
   have HH:Hid (b = true↔bY P C.xn C.X):=hb
   clear h1 hb E0 hb0
   cases b
   ·obtain ⟨ec,pp,rfl⟩:=E1.p
    go_wp2
    go_ret
    exact ⟨hb1,.inr ⟨HX.out.1,HX.out.2,.inl ⟨fun h=>(by have:=HH.out.2 h;cases this),rfl⟩⟩⟩
   ·have hH:=HH.out.1 rfl
    have HL:Hid (bY P C.xn C.X):=hH
    clear hH HH
    go_wp2_with fail
    have HBX:∀ w',Below w1.heap.size w1 w'→(w'.cell? ⟨w.heap.size,0,none⟩ = some (.bool P.mx)∧w'.cell? ⟨w.heap.size,1,none⟩ = some (.string P.nm)∧w'.cell? ⟨w.heap.size,2,none⟩ = some (.bool P.p)∧w'.cell? ⟨w.heap.size,3,none⟩ = some (.slice P.a P.na P.ca)∧w'.cell? ⟨w.heap.size,4,none⟩ = some (.slice P.d P.nd P.cd)∧w'.cell? ⟨w.heap.size,5,none⟩ = some (.slice P.va P.vn P.vc)∧w'.cell? ⟨w.heap.size,6,none⟩ = some (.slice P.ra P.rn P.rc)∧w'.cell? ⟨w.heap.size + 1,1,none⟩ = some (.bool C.p)∧w'.cell? ⟨w.heap.size + 1,2,none⟩ = some (.slice C.a C.na C.ca)∧w'.cell? ⟨w.heap.size + 1,3,none⟩ = some (.slice C.d C.nd C.cd)∧w'.cell? ⟨w.heap.size + 1,4,none⟩ = some (.slice C.xa C.xn C.xc)):=fun w' h=>⟨(Pb.below h) 0 _ rfl,(Pb.below h) 1 _ rfl,(Pb.below h) 2 _ rfl,(Pb.below h) 3 _ rfl,(Pb.below h) 4 _ rfl,(Pb.below h) 5 _ rfl,(Pb.below h) 6 _ rfl,(Cb.below h) 1 _ rfl,(Cb.below h) 2 _ rfl,(Cb.below h) 3 _ rfl,(Cb.below h) 4 _ rfl⟩
    obtain ⟨t,et⟩:∃ t,t = cs (vlu P C.X) C.v:=⟨_,rfl⟩
    have ET:Hid (t = cs (vlu P C.X) C.v):=et
    clear et
    refine wp_region_noPanic (bC HBX (by kernel_rfl) ?_)
    have hc0:Below w1.heap.size w1 w1.drew:=aK _
    generalize w1.drew = z0 at *
    refine wpAnyG.tA 0 (v:=.agg #[.bool P.mx,.string P.nm,.bool P.p,.slice P.a P.na P.ca,.slice P.d P.nd P.cd,.slice P.va P.vn P.vc,.slice P.ra P.rn P.rc]) (by decide) 3 (by kernel_rfl) (by rfl) ?y0 (HBX _ hc0) ?_
    case y0 =>
     rintro w' ⟨q0,q1,q2,q3,q4,q5,q6,q7,q8,q9,q10⟩
     simp only [lgA,lgZ]
     go_simp
    simp only [lgA,lgZ,Act.put,lsA,lsZ,lsS]
    refine wpAnyG.tA 1 (v:=.pointer (some ⟨w.heap.size + 1,4,none⟩)) (by decide) 2 (by kernel_rfl) (by rfl) ?y1 (HBX _ hc0) ?_
    case y1 =>
     rintro w' ⟨q0,q1,q2,q3,q4,q5,q6,q7,q8,q9,q10⟩
     simp only [lgA,lgZ,lgS]
     go_simp
    simp only [lgA,lgZ,lgS,Act.put,lsA,lsZ,lsS]
    refine wpAnyG.tA 2 (v:=.slice C.xa C.xn C.xc) (by decide) 3 (by kernel_rfl) (by rfl) ?y2 (HBX _ hc0) ?_
    case y2 =>
     rintro w' ⟨q0,q1,q2,q3,q4,q5,q6,q7,q8,q9,q10⟩
     simp only [lgA,lgZ,lgS]
     go_simp
    simp only [lgA,lgZ,lgS,Act.put,lsA,lsZ,lsS]
    refine wpAnyG.tA 4 (v:=.pointer (some ⟨w.heap.size + 1,1,none⟩)) (by decide) 5 (by kernel_rfl) (by rfl) ?y4 (HBX _ hc0) ?_
    case y4 =>
     rintro w' ⟨q0,q1,q2,q3,q4,q5,q6,q7,q8,q9,q10⟩
     simp only [lgA,lgZ,lgS]
     go_simp
    simp only [lgA,lgZ,lgS,Act.put,lsA,lsZ,lsS]
    refine wpAnyG.tA 5 (v:=.agg #[.bool C.p,.slice C.a C.na C.ca,.slice C.d C.nd C.cd]) (by decide) 6 (by kernel_rfl) (by rfl) ?y5 (HBX _ hc0) ?_
    case y5 =>
     rintro w' ⟨q0,q1,q2,q3,q4,q5,q6,q7,q8,q9,q10⟩
     simp only [lgA,lgZ,lgS]
     go_simp
    simp only [lgA,lgZ,lgS,Act.put,lsA,lsZ,lsS]
    refine wpAnyG.one 3 (by kernel_rfl) (by decide) (by rfl) (fun K hK=>?_)
    simp only [lgA,lgZ,lgS]
    go_simp
    refine (aC4 P (Kx:=C.K) z0 (hP.below (aB hb1 hc0)) (hC.x.below (aB hb1 hc0)) hC.zx (by omega) hC.xc HX.out.1 (by omega) (hT.below (aB hb1 hc0))).mono ?_
    rintro e z1 ⟨f1,d1,n1,k1,d2,n2,k2,rfl,G1,hk1⟩
    have hc1:Below w1.heap.size w1 z1:=aB hc0 hk1
    dsimp only
    refine hK _ _ (HBX _ hc1) ?_
    clear hK K
    refine wpAnyG.one 6 (by kernel_rfl) (by decide) (by rfl) (fun K hK=>?_)
    simp only [lgA,lgZ,lgS]
    go_simp
    refine (oH t z1 G1.tr (hC.v.below (aB hb1 hc1)) (by omega) (by omega) hC.s1 ET.out).mono ?_
    rintro e z2 ⟨rfl,hk2⟩
    have hc2:Below w1.heap.size w1 z2:=aB hc1 hk2
    dsimp only
    refine hK _ _ (HBX _ hc2) ?_
    clear hK K
    refine wpAnyG.one 7 (by kernel_rfl) (by decide) (by rfl) (fun K hK=>?_)
    simp only [lgA,lgZ,lgS]
    go_simp
    refine hK _ _ (HBX _ hc2) ?_
    clear hK K
    refine wpAnyG.done (by kernel_rfl) (NoPanic.normal ?_)
    have hb2:=aB hb1 hc2
    have Pb2:=Pb.below hc2
    have Cb2:=Cb.below hc2
    have E2:=EH.below hb2
    clear HBX hc0 hc1 hc2 hk1 hk2 G1 Pb Cb E1 hb1
    by_cases ht:t = 0
    ·have hv:vlu P C.X = C.v:=lG.1 (by rw [← ET.out];exact ht)
     have HV:Hid (vlu P C.X = C.v):=hv
     subst ht
     clear hv
     have p0:=Pb2 0 _ rfl
     have p1:=Pb2 1 _ rfl
     have p2:=Pb2 2 _ rfl
     have p3:=Pb2 3 _ rfl
     have p4:=Pb2 4 _ rfl
     have p5:=Pb2 5 _ rfl
     have p6:=Pb2 6 _ rfl
     have c5:=Cb2 5 _ rfl
     clear ET
     go_wp2_with fail
     clear p0 p1 p2 p3 p4 p5 p6 c5
     refine (oI P (Ky:=C.K) z2 (hP.below hb2) (hC.y.below hb2) hC.zy (by omega) (by omega) (hT.below hb2) E2.s E2.b).mono ?_
     rintro e w3 ⟨h3,hh⟩
     have hb3:=aB hb2 h3
     have Cb3:=Cb2.below h3
     have E3:=EH.below hb3
     clear Pb2 Cb2 E2 hb2 h3
     rcases hh with ⟨hn,rfl⟩ | ⟨_,hno,rfl⟩ | ⟨_,hok,f,d3,n3,k3,d4,n4,k4,rfl,G⟩
     ·exact absurd HX.out.2 hn
     ·obtain ⟨ec,pp,rfl⟩:=E3.b
      have hz:=aG w3 (.cells #[.bool false,.slice none 0 0,.slice none 0 0] 27)
      go_wp2
      go_ret
      exact ⟨aB hb3 hz,.inr ⟨HX.out.1,HX.out.2,.inr ⟨HL.out,.inr ⟨HV.out,.inl ⟨fun h=>hno h.1,rfl⟩⟩⟩⟩⟩
     ·have hz:=aG w3 (.cells #[.bool f,.slice d3 n3 k3,.slice d4 n4 k4] 27)
      have Cb4:=Cb3.below hz
      have c1:=Cb4 1 _ rfl
      have c2:=Cb4 2 _ rfl
      have c3:=Cb4 3 _ rfl
      have HO:Hid (okS P C.Y):=hok
      go_wp2_with fail
      have hb4:=aB hb3 hz
      have E4:=EH.below hb4
      have G4:=G.below hz
      clear c1 c2 c3 hz Cb3 Cb4 E3 hb3 G
      generalize w3.alloc (.cells #[.bool f,.slice d3 n3 k3,.slice d4 n4 k4] 27) = W4 at *
      obtain ⟨s,es⟩:∃ s,s = cs (pvS P C.Y) C.v:=⟨_,rfl⟩
      have ES:Hid (s = cs (pvS P C.Y) C.v):=es
      refine (oH s W4 G4.tr (hC.v.below hb4) (by omega) (by omega) hC.s1 es).mono ?_
      rintro e w5 ⟨rfl,h5⟩
      have hb5:=aB hb4 h5
      have E5:=EH.below hb5
      clear es h5 E4 G4 hb4
      by_cases hs:s = 0
      ·have hv2:pvS P C.Y = C.v:=lG.1 (by rw [← ES.out];exact hs)
       subst hs
       clear ES
       have HF:OptR P C eS eP eV eB w (.returned .nilIface) w5:=⟨hb5,.inr ⟨HX.out.1,HX.out.2,.inr ⟨HL.out,.inr ⟨HV.out,.inr ⟨HO.out,hv2,rfl⟩⟩⟩⟩⟩
       clear hv2
       go_wp2
       go_ret
       exact HF
      ·have hv2:pvS P C.Y ≠ C.v:=fun h=>hs (by rw [ES.out];exact lG.2 h)
       have hsb:(s == 0) = false:=by simpa using hs
       obtain ⟨ec,pp,rfl⟩:=E5.b
       have HF:OptR P C eS eP eV (.iface 173 (.pointer (some pp))) w (.returned (.iface 173 (.pointer (some pp)))) w5:=⟨hb5,.inr ⟨HX.out.1,HX.out.2,.inr ⟨HL.out,.inr ⟨HV.out,.inl ⟨fun h=>hv2 h.2,rfl⟩⟩⟩⟩⟩
       clear hv2 ES
       go_wp2
       go_ret
       exact HF
    ·have hv:vlu P C.X ≠ C.v:=fun h=>ht (by rw [ET.out];exact lG.2 h)
     have htb:(t == 0) = false:=by simpa using ht
     obtain ⟨ec,pp,rfl⟩:=E2.v
     have HF:OptR P C eS eP (.iface 173 (.pointer (some pp))) eB w (.returned (.iface 173 (.pointer (some pp)))) z2:=⟨hb2,.inr ⟨HX.out.1,HX.out.2,.inr ⟨HL.out,.inl ⟨hv,rfl⟩⟩⟩⟩
     clear hv ET Pb2 Cb2
     go_wp2
     go_ret
     exact HF
  ·have hyI:¬ ((C.yn:Int) = (P.rn:Int)):=by omega
   have hyB:((C.yn:Int) == (P.rn:Int)) = false:=by simpa using hyI
   obtain ⟨ec,pp,rfl⟩:=E0.s
   have HY:Hid (¬ C.yn = P.rn):=hy
   clear hx hy
   go_wp2
   go_ret
   exact ⟨hb0,.inl ⟨fun h=>HY.out h.2,rfl⟩⟩
 ·have hxI:¬ ((C.xn:Int) = (P.vn:Int)):=by omega
  have hxB:((C.xn:Int) == (P.vn:Int)) = false:=by simpa using hxI
  obtain ⟨ec,pp,rfl⟩:=E0.s
  go_wp2
  go_ret
  exact ⟨hb0,.inl ⟨fun h=>hx h.1,rfl⟩⟩
theorem OptR.up {P:Prob} {C:Crt} {eS eP eV eB:Value} {w w0 w':World} {e:Ending} (h:OptR P C eS eP eV eB w0 e w') (hb:Below w.heap.size w w0):OptR P C eS eP eV eB w e w':=⟨aB hb h.1,h.2⟩
theorem OptR.val {P:Prob} {C:Crt} {eS eP eV eB:Value} {w w':World} {e:Ending} (h:OptR P C eS eP eV eB w e w'):∃ v,e = .returned v:=by
 rcases h.2 with ⟨_,h⟩ | ⟨_,_,⟨_,h⟩ | ⟨_,⟨_,h⟩ | ⟨_,⟨_,h⟩ | ⟨_,_,h⟩⟩⟩⟩ <;> exact ⟨_,h⟩
theorem aG3:(Tryz.prog.info? 31).map (·.size) = some 7:=by kernel_rfl
theorem chk1 (P:Prob) (C:Crt) (w:World) (hv:C.vd = 1) (hP:PQ w P) (hC:CQ w C) (hK:P.K + C.K≤1048576) (hT:TB w) {eS eP eV eB eR eD:Value} (EH:EE w eS eP eV eB eR eD) :
 Calls Tryz.prog 28 #[P.val,C.val] w fun e w'=>OptR P C eS eP eV eB w e w':=by
 have HV:Hid (C.vd = 1):=hv
 clear hv
 have HQ:=fun w1 (hb:Below w.heap.size w w1)=>optQ P C w1 (hP.below hb) (hC.below hb) hK (hT.below hb) (EH.below hb)
 unfold Prob.val Crt.val at *
 rw [HV.out] at HQ ⊢
 have Pb:=aJ w #[.bool P.mx,.string P.nm,.bool P.p,.slice P.a P.na P.ca,.slice P.d P.nd P.cd,.slice P.va P.vn P.vc,.slice P.ra P.rn P.rc] 31
 have hz0:=aG w (.cells #[.bool P.mx,.string P.nm,.bool P.p,.slice P.a P.na P.ca,.slice P.d P.nd P.cd,.slice P.va P.vn P.vc,.slice P.ra P.rn P.rc] 31)
 have hs0:(w.alloc (.cells #[.bool P.mx,.string P.nm,.bool P.p,.slice P.a P.na P.ca,.slice P.d P.nd P.cd,.slice P.va P.vn P.vc,.slice P.ra P.rn P.rc] 31)).heap.size = w.heap.size + 1:=by simp
 have Cb:=aJ (w.alloc (.cells #[.bool P.mx,.string P.nm,.bool P.p,.slice P.a P.na P.ca,.slice P.d P.nd P.cd,.slice P.va P.vn P.vc,.slice P.ra P.rn P.rc] 31)) #[.int .i64 1,.bool C.p,.slice C.a C.na C.ca,.slice C.d C.nd C.cd,.slice C.xa C.xn C.xc,.slice C.ya C.yn C.yc,.slice C.za C.zn C.zc] 47
 have hz1:=aG (w.alloc (.cells #[.bool P.mx,.string P.nm,.bool P.p,.slice P.a P.na P.ca,.slice P.d P.nd P.cd,.slice P.va P.vn P.vc,.slice P.ra P.rn P.rc] 31)) (.cells #[.int .i64 1,.bool C.p,.slice C.a C.na C.ca,.slice C.d C.nd C.cd,.slice C.xa C.xn C.xc,.slice C.ya C.yn C.yc,.slice C.za C.zn C.zc] 47)
 rw [hs0] at Cb
 replace Pb:=Pb.below hz1
 have hb0:=aB hz0 hz1
 clear hz0 hz1 hs0
 have p0:=Pb 0 _ rfl;have p1:=Pb 1 _ rfl;have p2:=Pb 2 _ rfl;have p3:=Pb 3 _ rfl;have p4:=Pb 4 _ rfl;have p5:=Pb 5 _ rfl;have p6:=Pb 6 _ rfl
 have c0:=Cb 0 _ rfl;have c1:=Cb 1 _ rfl;have c2:=Cb 2 _ rfl;have c3:=Cb 3 _ rfl;have c4:=Cb 4 _ rfl;have c5:=Cb 5 _ rfl;have c6:=Cb 6 _ rfl
 go_enter Tryz.func28,Tryz.ntmps28
 go_wp2_with fail
 clear p0 p1 p2 p3 p4 p5 p6 c0 c1 c2 c3 c4 c5 c6
 generalize (w.alloc (.cells #[.bool P.mx,.string P.nm,.bool P.p,.slice P.a P.na P.ca,.slice P.d P.nd P.cd,.slice P.va P.vn P.vc,.slice P.ra P.rn P.rc] 31)).alloc (.cells #[.int .i64 1,.bool C.p,.slice C.a C.na C.ca,.slice C.d C.nd C.cd,.slice C.xa C.xn C.xc,.slice C.ya C.yn C.yc,.slice C.za C.zn C.zc] 47) = W0 at *
 refine (HQ W0 hb0).mono ?_
 intro e w1 HR
 replace HR:=HR.up hb0
 clear Pb Cb hb0 HQ
 obtain ⟨v,rfl⟩:=HR.val
 go_wp2
 go_ret
 exact HR
theorem chk4 (P:Prob) (C:Crt) (w:World) (h1:C.vd ≠ 1) (h2:C.vd ≠ 2) (h3:C.vd ≠ 3) {eS eP eV eB eR eD:Value} (EH:EE w eS eP eV eB eR eD) :
 Calls Tryz.prog 28 #[P.val,C.val] w fun e w'=>e = .returned eD∧Below w.heap.size w w':=by
 unfold Prob.val Crt.val
 have hz0:=aG w (.cells #[.bool P.mx,.string P.nm,.bool P.p,.slice P.a P.na P.ca,.slice P.d P.nd P.cd,.slice P.va P.vn P.vc,.slice P.ra P.rn P.rc] 31)
 have hs0:(w.alloc (.cells #[.bool P.mx,.string P.nm,.bool P.p,.slice P.a P.na P.ca,.slice P.d P.nd P.cd,.slice P.va P.vn P.vc,.slice P.ra P.rn P.rc] 31)).heap.size = w.heap.size + 1:=by simp
 have Cb:=aJ (w.alloc (.cells #[.bool P.mx,.string P.nm,.bool P.p,.slice P.a P.na P.ca,.slice P.d P.nd P.cd,.slice P.va P.vn P.vc,.slice P.ra P.rn P.rc] 31)) #[.int .i64 C.vd,.bool C.p,.slice C.a C.na C.ca,.slice C.d C.nd C.cd,.slice C.xa C.xn C.xc,.slice C.ya C.yn C.yc,.slice C.za C.zn C.zc] 47
 have hz1:=aG (w.alloc (.cells #[.bool P.mx,.string P.nm,.bool P.p,.slice P.a P.na P.ca,.slice P.d P.nd P.cd,.slice P.va P.vn P.vc,.slice P.ra P.rn P.rc] 31)) (.cells #[.int .i64 C.vd,.bool C.p,.slice C.a C.na C.ca,.slice C.d C.nd C.cd,.slice C.xa C.xn C.xc,.slice C.ya C.yn C.yc,.slice C.za C.zn C.zc] 47)
 rw [hs0] at Cb
 have hb0:=aB hz0 hz1
 have E0:=EH.below hb0
 obtain ⟨ec,pp,rfl⟩:=E0.d
 have c0:=Cb 0 _ rfl
 have n1:(C.vd == 1) = false:=by simpa using h1
 have n2:(C.vd == 2) = false:=by simpa using h2
 have n3:(C.vd == 3) = false:=by simpa using h3
 clear hz0 hz1 hs0 E0
 go_enter Tryz.func28,Tryz.ntmps28
 go_wp2
 go_ret
 exact ⟨rfl,hb0⟩
theorem mG (w:World):TR w false none 0 0 none 0 0 0 1:=⟨0,0,((GI.nil w 0).le (Nat.zero_le 1)).ti,((Got.nil w 0).le (Nat.zero_le 1)).num,by simp⟩
theorem szw (v:Int) (h:(v.natAbs:Int) < 18446744073709551616):SzR (v:Rat) 1:=by
 have e:pw 1 = 18446744073709551616:=rfl
 exact ⟨by rw [e];exact h,by rw [e];show ((1:Nat):Int) < _;decide⟩
theorem q1:((1:Int):Rat) = 1:=rfl
theorem q3:((3:Int):Rat) = 3:=rfl
theorem q4:((4:Int):Rat) = 4:=rfl
section
variable (p:Bool) (a:Option Addr) (na ca:Nat) (d:Option Addr) (nd cd:Nat) (va ra:Option Addr)
end
end Go.Proofs.YtnokmjmefipplaaGreatDoor

import Derived.Test.YtjapbhdoemfgkaaGreatDoorCbA
namespace Go.Proofs.YtjapbhdoemfgkaaGreatDoor
open Go.RowKit
theorem valQ3 (P:Prob) {xa:Option Addr} {nx xc:Nat} {X:Nat→Rat} {Zx:Nat→Nat} {Kx:Nat} (w:World) (hP:PQ w P) (hx:LQ w xa nx X Zx) (hzx:∀ i,i < nx→1≤Zx i∧SzR (X i) (Zx i)) (htx:tot Zx nx≤Kx) (hxc:nx≤xc) (hn:nx = P.vn) (hK:P.K≤1048576) (hKx:Kx≤1048576) (hT:TB w) :
  Calls Tryz.prog 37 #[P.val,.slice xa nx xc] w fun e w'=>∃ f c n1 k1 c' n' k',e = .returned (.agg #[.bool f,.slice c n1 k1,.slice c' n' k'])∧GR w' w.heap.size f c n1 k1 c' n' k' (vlu P X) 2097160∧Below w.heap.size w w':=by
 subst hn
 obtain ⟨Dx,dx1,dx2,dx3⟩:=Wd.list (fun i hi=>(hzx i hi).2) htx
 have hall:=hP.all
 have hl:=tot_len P.ZV P.vn
 have hk1:=tot_pos Zx P.vn
 have hS:=hP.s1
 have hZV:∀ i,i < P.vn→P.ZV i≤P.K:=fun i hi=>by have:=tot_le (Z:=P.ZV) hi;omega
 have hZx:∀ j,j < P.vn→Zx j≤Kx:=fun j hj=>by have:=tot_le (Z:=Zx) hj;omega
 have e:∀ q,q≤P.vn + 1→rsum (prt P.k P.V X) q = rsum (prt P.k P.V (xn X P.vn)) q:=fun q hq=>rsum_congr fun j hj=>by
  cases j with
  | zero=>rfl
  | succ j=>show (P.V j).obj * X j = (P.V j).obj * xn X P.vn j;unfold xn;rw [if_pos (by omega)]
 exact valueQ P (T:=2097160) (S:=P.K + Kx) (m:=P.vn) w hP hx hxc (by omega) (by omega) (fun j hj=>⟨(hzx j hj).1,by have:=hZV j hj;have:=hZx j hj;omega⟩) (by omega) (by omega) (fun q hq=>by rw [e q hq];exact (hP.val_sz3 dx1 dx2 dx3 (by omega) q hq).le (by omega)) (by omega) hT
theorem valD5 (P:Prob) {xa:Option Addr} {nx xc:Nat} {X:Nat→Rat} {Zx:Nat→Nat} {Kx:Nat} (w:World) (hP:PQ w P) (hx:LQ w xa nx X Zx) (hzx:∀ i,i < nx→1≤Zx i∧SzR (X i) (Zx i)) (htx:tot Zx nx≤Kx) (hK:P.K≤1048576) (hKx:Kx≤1048576) :
  Calls Tryz.prog 9 #[P.val,.slice xa nx xc] w fun e w'=>∃ f c n1 k1 c' n' k',e = .returned (.agg #[.bool f,.slice c n1 k1,.slice c' n' k'])∧GR w' w.heap.size f c n1 k1 c' n' k' (vlu P (xn X nx)) 2097160∧Below w.heap.size w w':=by
 obtain ⟨Dx,dx1,dx2,dx3⟩:=Wd.list (fun i hi=>(hzx i hi).2) htx
 have hall:=hP.all
 have hl:=tot_len P.ZV P.vn
 have hk1:=tot_pos Zx nx
 have hZV:∀ i,i < P.vn→P.ZV i≤P.K:=fun i hi=>by have:=tot_le (Z:=P.ZV) hi;omega
 have hZx:∀ j,j < nx→Zx j≤Kx:=fun j hj=>by have:=tot_le (Z:=Zx) hj;omega
 exact valueD P (T:=2097160) (S:=P.K + Kx) (U:=Kx) w hP hx (fun j hj=>⟨(hzx j hj).1,hZx j hj⟩) ⟨by omega,by omega⟩ (fun j hj=>by have:=hZV j hj;omega) (by omega) (by omega) (by omega) (by omega) (fun q hq=>(hP.val_sz3 dx1 dx2 dx3 (by omega) q hq).le (by omega))
theorem holdQ3 (P:Prob) {xa:Option Addr} {nx xc:Nat} {X:Nat→Rat} {Zx:Nat→Nat} {Kx:Nat} (w:World) (hP:PQ w P) (hx:LQ w xa nx X Zx) (hzx:∀ i,i < nx→1≤Zx i∧SzR (X i) (Zx i)) (htx:tot Zx nx≤Kx) (hxc:nx≤xc) (h0:P.rn = 0) (hK:P.K≤1048576) (hKx:Kx≤1048576) (hT:TB w) :
  Calls Tryz.prog 35 #[P.val,.slice xa nx xc] w fun e w'=>∃ b,e = .returned (.bool b)∧(b = true↔Hlds P nx X)∧Below w.heap.size w w':=by
 obtain ⟨Dx,dx1,dx2,dx3⟩:=Wd.list (fun i hi=>(hzx i hi).2) htx
 have hZx:∀ j,j < nx→Zx j≤Kx:=fun j hj=>by have:=tot_le (Z:=Zx) hj;omega
 have hZR:∀ i,i < P.rn→P.ZR i≤P.K:=fun i hi=>by have:=tot_le (Z:=P.ZR) hi;have:=hP.all;omega
 exact holdsQ P (T:=2097160) (S:=3145736) (dx:=Kx) (ax:=Kx + 1) w hP hx hxc (fun j hj=>⟨(hzx j (by omega)).1,by have:=hZx j (by omega);omega⟩) (fun i j hi hj=>⟨(hzx j (by omega)).1,by have:=hZR i hi;have:=hZx j (by omega);omega⟩) (by omega) (by omega) dx1 dx2 (Int.le_of_lt (pw_pos _)) (pw_up _) (fun j hj=>(dx3 j (by omega)).ov) (fun i hi=>by have:=hZR i hi;omega) (by omega) (by omega) hT
set_option maxRecDepth 100000 in
set_option maxHeartbeats 8000000 in
theorem keepsQ3 (P:Prob) {za:Option Addr} {zn zc:Nat} {Z:Nat→Rat} {Zz:Nat→Nat} {Kz:Nat} (w:World) (hP:PQ w P) (hz:LQ w za zn Z Zz) (hzz:∀ i,i < zn→1≤Zz i∧SzR (Z i) (Zz i)) (htz:tot Zz zn≤Kz) (hzc:zn≤zc) (hzn:zn = P.vn) (h0:P.rn = 0) (hK:P.K≤1048576) (hKz:Kz≤1048576) (hT:TB w) :
  Calls Tryz.prog 40 #[P.val,.slice za zn zc] w fun e w'=>∃ b,e = .returned (.bool b)∧(b = true↔Dir P Z)∧Below w.heap.size w w':=by
 subst hzn
 have hall:=hP.all
 have hrn:P.rn≤1048576:=by have:=tot_len P.ZR P.rn;omega
 have hvn:P.vn≤1048576:=by have:=tot_len P.ZV P.vn;omega
 have hZx:∀ j,j < P.vn→Zz j≤Kz:=fun j hj=>by have:=tot_le (Z:=Zz) hj;omega
 have hZR:∀ i,i < P.rn→P.ZR i≤P.K:=fun i hi=>by have:=tot_le (Z:=P.ZR) hi;omega
 obtain ⟨Dx,dx1,dx2,dx3⟩:=Wd.list (fun i hi=>(hzz i hi).2) htz
 have HSUM:=fun w1 (hb:Below w.heap.size w w1)=>sumsQ P (S:=3145736) (T:=2097160) (dx:=Kz) (ax:=Kz + 1) (m:=P.vn) w1 (hP.below hb) (hz.below hb) hzc (by omega) (fun i j hi hj=>⟨(hzz j (by omega)).1,by have:=hZR i hi;have:=hZx j (by omega);omega⟩) (by omega) (by omega) dx1 dx2 (Int.le_of_lt (pw_pos _)) (pw_up _) (fun j hj=>(dx3 j (by omega)).ov) (fun i hi=>by have:=hZR i hi;omega) (by omega) (by omega) (hT.below hb)
 clear h0
 have HQ:=fun w1 (hb:Below w.heap.size w w1)=>@allK P
 have hZZ:Hid (∀ j,j < P.vn→Zz j≤2097160):=fun j hj=>by have:=hZx j hj;omega
 have HP:Hid (PQ w P):=hP
 clear hzz hZx hZR dx1 dx2 dx3 HQ
 unfold Prob.val at *
 have Pb:=box_new w #[.bool P.mx,.string P.nm,.bool P.p,.slice P.a P.na P.ca,.slice P.d P.nd P.cd,.slice P.va P.vn P.vc,.slice P.ra P.rn P.rc] 32
 have hb0:=bel_d0 w (.cells #[.bool P.mx,.string P.nm,.bool P.p,.slice P.a P.na P.ca,.slice P.d P.nd P.cd,.slice P.va P.vn P.vc,.slice P.ra P.rn P.rc] 32)
 have p0:=Pb 0 _ rfl;have p1:=Pb 1 _ rfl;have p2:=Pb 2 _ rfl;have p3:=Pb 3 _ rfl;have p4:=Pb 4 _ rfl;have p5:=Pb 5 _ rfl;have p6:=Pb 6 _ rfl
 go_enter Tryz.func40,Tryz.ntmps40
 go_wp2_with fail
 clear p0 p1 p2 p3 p4 p5 p6
 generalize w.alloc (.cells #[.bool P.mx,.string P.nm,.bool P.p,.slice P.a P.na P.ca,.slice P.d P.nd P.cd,.slice P.va P.vn P.vc,.slice P.ra P.rn P.rc] 32) = W0 at *
 refine (HSUM W0 hb0).mono ?_
 rintro e w1 ⟨sa,sc,rfl,L,h1⟩
 have hb1:=bel_tr hb0 h1
 replace Pb:=Pb.below h1
 have hx:=bel_d0 w1 (.cells #[.slice sa P.rn sc,.slice za P.vn zc] 33)
 have N:=box_new w1 #[.slice sa P.rn sc,.slice za P.vn zc] 33
 have n0:=N 0 _ rfl
 have n1:=N 1 _ rfl
 have LS:=(L.below hx).lq
 replace Pb:=Pb.below hx
 replace hb1:=bel_tr hb1 hx
 clear HSUM h1 hb0 hx N L
 go_wp2_with fail
 generalize w1.alloc (.cells #[.slice sa P.rn sc,.slice za P.vn zc] 33) = W1 at *
 refine (concatQ (S:=2097160) W1 n0 n1 LS (hz.below hb1) (fun i hi=>Nat.le_refl _) hZZ.out (by omega)).mono ?_
 rintro e w2 ⟨ma,mc,rfl,HM,h2⟩
 replace Pb:=Pb.below h2
 replace hb1:=bel_tr hb1 h2
 clear n0 n1 LS h2
 have hx:=bel_d0 w2 (.cells #[.slice ma (P.rn + P.vn) mc] 33)
 have B2:=box_new w2 #[.slice ma (P.rn + P.vn) mc] 33
 replace Pb:=Pb.below hx
 replace hb1:=bel_tr hb1 hx
 replace HM:=HM.below hx
 have p0:=Pb 0 _ rfl;have p1:=Pb 1 _ rfl;have p2:=Pb 2 _ rfl;have p3:=Pb 3 _ rfl;have p4:=Pb 4 _ rfl;have p5:=Pb 5 _ rfl;have p6:=Pb 6 _ rfl
 clear hx
 go_wp2_with fail
 clear p0 p1 p2 p3 p4 p5 p6
 have b0:=B2 0 _ rfl
 clear B2
 generalize w2.alloc (.cells #[.slice ma (P.rn + P.vn) mc] 33) = W2 at *
 refine (allK P (M:=alng P Z) W2 (HP.out.below hb1) (by omega) b0 HM (by omega) (by omega)).mono ?_
 rintro e w3 ⟨b,rfl,hb,h3⟩
 have hw:=bel_tr hb1 h3
 have HB:Hid (b = true↔Dir P Z):=hb.trans (dir_iff P Z).symm
 clear hb h3 hb1 b0 HM Pb
 go_wp2
 go_ret
 exact ⟨b,rfl,HB.out,hw⟩
set_option maxRecDepth 100000 in
set_option maxHeartbeats 8000000 in
theorem becomesQ3 (P:Prob) {za:Option Addr} {zn zc:Nat} {Z:Nat→Rat} {Zz:Nat→Nat} {Kz:Nat} (w:World) (hP:PQ w P) (hz:LQ w za zn Z Zz) (hzz:∀ i,i < zn→1≤Zz i∧SzR (Z i) (Zz i)) (htz:tot Zz zn≤Kz) (hzc:zn≤zc) (hzn:zn = P.vn) (hK:P.K≤1048576) (hKz:Kz≤1048576) (hT:TB w) :
  Calls Tryz.prog 41 #[P.val,.slice za zn zc] w fun e w'=>∃ b,e = .returned (.bool b)∧(b = true↔imp P Z)∧Below w.heap.size w w':=by
 have HV:∀ w1,Below w.heap.size w w1→Calls Tryz.prog 37 #[.agg #[.bool P.mx,.string P.nm,.bool false,.slice none 0 0,.slice none 0 0,.slice P.va P.vn P.vc,.slice P.ra P.rn P.rc],.slice za zn zc] w1 fun e w'=>∃ f c n1 k1 c' n' k',e = .returned (.agg #[.bool f,.slice c n1 k1,.slice c' n' k'])∧GR w' w1.heap.size f c n1 k1 c' n' k' (rte P Z) 2097160∧Below w1.heap.size w1 w':=fun w1 hb=>by
  rw [← noK_vlu]
  exact valQ3 P.noK w1 (hP.noK.below hb) (hz.below hb) hzz htz hzc hzn hK hKz (hT.below hb)
 clear hzz hz hP hzn htz hzc
 unfold Prob.val imp
 cases hmx:P.mx
 ·rw [if_neg (by decide)]
  rw [hmx] at HV
  have Pb:=box_new w #[.bool false,.string P.nm,.bool false,.slice none 0 0,.slice none 0 0,.slice P.va P.vn P.vc,.slice P.ra P.rn P.rc] 32
  have hb0:=bel_d0 w (.cells #[.bool false,.string P.nm,.bool false,.slice none 0 0,.slice none 0 0,.slice P.va P.vn P.vc,.slice P.ra P.rn P.rc] 32)
  have p0:=Pb 0 _ rfl;have p1:=Pb 1 _ rfl;have p2:=Pb 2 _ rfl;have p3:=Pb 3 _ rfl;have p4:=Pb 4 _ rfl;have p5:=Pb 5 _ rfl;have p6:=Pb 6 _ rfl
  clear hmx
  go_enter Tryz.func41,Tryz.ntmps41
  go_wp2_with fail
  clear p0 p1 p2 p3 p4 p5 p6
  generalize w.alloc (.cells #[.bool false,.string P.nm,.bool false,.slice none 0 0,.slice none 0 0,.slice P.va P.vn P.vc,.slice P.ra P.rn P.rc] 32) = W0 at *
  refine (HV W0 hb0).mono ?_
  rintro e w1 ⟨f,c,n,k,d,m,l,rfl,G,h1⟩
  have hb1:=bel_tr hb0 h1
  replace Pb:=Pb.below h1
  clear HV h1 hb0
  go_wp2_with fail
  rcases (show rte P Z = 0∨0 < rte P Z∨rte P Z < 0 by grind) with hm0 | hm0 | hm0
  ·refine (rsignB (0) w1 G.tr (by omega) (by omega) (sgn_nil hm0)).mono ?_
   rintro e w2 ⟨rfl,h2⟩
   have hw:=bel_tr hb1 h2
   replace Pb:=Pb.below h2
   have p0:=Pb 0 _ rfl
   clear h2 hb1 G Pb
   go_wp2
   go_ret
   exact ⟨false,rfl,⟨fun h=>(by first | grind | cases h),fun h=>(by first | rfl | grind)⟩,hw⟩
  ·refine (rsignB (1) w1 G.tr (by omega) (by omega) (sgn_pos hm0)).mono ?_
   rintro e w2 ⟨rfl,h2⟩
   have hw:=bel_tr hb1 h2
   replace Pb:=Pb.below h2
   have p0:=Pb 0 _ rfl
   clear h2 hb1 G Pb
   go_wp2
   go_ret
   exact ⟨false,rfl,⟨fun h=>(by first | grind | cases h),fun h=>(by first | rfl | grind)⟩,hw⟩
  ·refine (rsignB (-1) w1 G.tr (by omega) (by omega) (sgn_neg hm0)).mono ?_
   rintro e w2 ⟨rfl,h2⟩
   have hw:=bel_tr hb1 h2
   replace Pb:=Pb.below h2
   have p0:=Pb 0 _ rfl
   clear h2 hb1 G Pb
   go_wp2
   go_ret
   exact ⟨true,rfl,⟨fun h=>(by first | grind | cases h),fun h=>(by first | rfl | grind)⟩,hw⟩
 ·rw [if_pos rfl]
  rw [hmx] at HV
  have Pb:=box_new w #[.bool true,.string P.nm,.bool false,.slice none 0 0,.slice none 0 0,.slice P.va P.vn P.vc,.slice P.ra P.rn P.rc] 32
  have hb0:=bel_d0 w (.cells #[.bool true,.string P.nm,.bool false,.slice none 0 0,.slice none 0 0,.slice P.va P.vn P.vc,.slice P.ra P.rn P.rc] 32)
  have p0:=Pb 0 _ rfl;have p1:=Pb 1 _ rfl;have p2:=Pb 2 _ rfl;have p3:=Pb 3 _ rfl;have p4:=Pb 4 _ rfl;have p5:=Pb 5 _ rfl;have p6:=Pb 6 _ rfl
  clear hmx
  go_enter Tryz.func41,Tryz.ntmps41
  go_wp2_with fail
  clear p0 p1 p2 p3 p4 p5 p6
  generalize w.alloc (.cells #[.bool true,.string P.nm,.bool false,.slice none 0 0,.slice none 0 0,.slice P.va P.vn P.vc,.slice P.ra P.rn P.rc] 32) = W0 at *
  refine (HV W0 hb0).mono ?_
  rintro e w1 ⟨f,c,n,k,d,m,l,rfl,G,h1⟩
  have hb1:=bel_tr hb0 h1
  replace Pb:=Pb.below h1
  clear HV h1 hb0
  go_wp2_with fail
  rcases (show rte P Z = 0∨0 < rte P Z∨rte P Z < 0 by grind) with hm0 | hm0 | hm0
  ·refine (rsignB (0) w1 G.tr (by omega) (by omega) (sgn_nil hm0)).mono ?_
   rintro e w2 ⟨rfl,h2⟩
   have hw:=bel_tr hb1 h2
   replace Pb:=Pb.below h2
   have p0:=Pb 0 _ rfl
   clear h2 hb1 G Pb
   go_wp2
   go_ret
   exact ⟨false,rfl,⟨fun h=>(by first | grind | cases h),fun h=>(by first | rfl | grind)⟩,hw⟩
  ·refine (rsignB (1) w1 G.tr (by omega) (by omega) (sgn_pos hm0)).mono ?_
   rintro e w2 ⟨rfl,h2⟩
   have hw:=bel_tr hb1 h2
   replace Pb:=Pb.below h2
   have p0:=Pb 0 _ rfl
   clear h2 hb1 G Pb
   go_wp2
   go_ret
   exact ⟨true,rfl,⟨fun h=>(by first | grind | cases h),fun h=>(by first | rfl | grind)⟩,hw⟩
  ·refine (rsignB (-1) w1 G.tr (by omega) (by omega) (sgn_neg hm0)).mono ?_
   rintro e w2 ⟨rfl,h2⟩
   have hw:=bel_tr hb1 h2
   replace Pb:=Pb.below h2
   have p0:=Pb 0 _ rfl
   clear h2 hb1 G Pb
   go_wp2
   go_ret
   exact ⟨false,rfl,⟨fun h=>(by first | grind | cases h),fun h=>(by first | rfl | grind)⟩,hw⟩
set_option maxRecDepth 100000 in
set_option maxHeartbeats 16000000 in
theorem optB (P:Prob) (C:Crt) (w:World) (hP:PQ w P) (hC:CQ w C) (h0:P.rn = 0) (hK:P.K≤1048572) (hSC:C.S≤2200000) (hSX:tot C.ZX C.xn≤1048576) (hSY:tot C.ZY C.yn≤3) (hT:TB w) {eS eP eV eB eR eD:Value} (EH:EE w eS eP eV eB eR eD) :
  Calls Tryz.prog 15 #[P.val,C.val] w fun e w'=>OptR P C eS eP eV eB w e w':=by
 have HHO:=fun w1 (hb:Below w.heap.size w w1)=>holdQ3 P (xc:=C.xc) w1 (hP.below hb) (hC.x.below hb) hC.zx (Nat.le_refl _) hC.xc h0 (by omega) hSX (hT.below hb)
 have HVA:=fun w1 (hb:Below w.heap.size w w1) hn=>valQ3 P (xc:=C.xc) w1 (hP.below hb) (hC.x.below hb) hC.zx (Nat.le_refl _) hC.xc hn (by omega) hSX (hT.below hb)
 have HPR:=fun w1 (hb:Below w.heap.size w w1)=>proveQ P (yc:=C.yc) w1 (hP.below hb) (hC.y.below hb) hC.zy (Nat.le_refl _) (by omega) (hT.below hb) (EH.below hb).s (EH.below hb).b
 clear h0
 unfold Prob.val Crt.val at *
 have Pb:=box_new w #[.bool P.mx,.string P.nm,.bool P.p,.slice P.a P.na P.ca,.slice P.d P.nd P.cd,.slice P.va P.vn P.vc,.slice P.ra P.rn P.rc] 32
 have hz0:=bel_d0 w (.cells #[.bool P.mx,.string P.nm,.bool P.p,.slice P.a P.na P.ca,.slice P.d P.nd P.cd,.slice P.va P.vn P.vc,.slice P.ra P.rn P.rc] 32)
 have hs0:(w.alloc (.cells #[.bool P.mx,.string P.nm,.bool P.p,.slice P.a P.na P.ca,.slice P.d P.nd P.cd,.slice P.va P.vn P.vc,.slice P.ra P.rn P.rc] 32)).heap.size = w.heap.size + 1:=by simp
 have Cb:=box_new (w.alloc (.cells #[.bool P.mx,.string P.nm,.bool P.p,.slice P.a P.na P.ca,.slice P.d P.nd P.cd,.slice P.va P.vn P.vc,.slice P.ra P.rn P.rc] 32)) #[.int .i64 C.vd,.bool C.p,.slice C.a C.na C.ca,.slice C.d C.nd C.cd,.slice C.xa C.xn C.xc,.slice C.ya C.yn C.yc,.slice C.za C.zn C.zc] 35
 have hz1:=bel_d0 (w.alloc (.cells #[.bool P.mx,.string P.nm,.bool P.p,.slice P.a P.na P.ca,.slice P.d P.nd P.cd,.slice P.va P.vn P.vc,.slice P.ra P.rn P.rc] 32)) (.cells #[.int .i64 C.vd,.bool C.p,.slice C.a C.na C.ca,.slice C.d C.nd C.cd,.slice C.xa C.xn C.xc,.slice C.ya C.yn C.yc,.slice C.za C.zn C.zc] 35)
 have hs1:((w.alloc (.cells #[.bool P.mx,.string P.nm,.bool P.p,.slice P.a P.na P.ca,.slice P.d P.nd P.cd,.slice P.va P.vn P.vc,.slice P.ra P.rn P.rc] 32)).alloc (.cells #[.int .i64 C.vd,.bool C.p,.slice C.a C.na C.ca,.slice C.d C.nd C.cd,.slice C.xa C.xn C.xc,.slice C.ya C.yn C.yc,.slice C.za C.zn C.zc] 35)).heap.size = w.heap.size + 2:=by simp
 rw [hs0] at Cb
 replace Pb:=Pb.below hz1
 have hb0:=bel_tr hz0 hz1
 have E0:=EH.below hb0
 have hall:=hC.all
 have ht1:=tot_pos C.ZX C.xn
 have ht2:=tot_pos C.ZY C.yn
 have ht3:=tot_pos C.ZZ C.zn
 clear hz0 hz1 hs0
 have p0:=Pb 0 _ rfl
 have p1:=Pb 1 _ rfl
 have p2:=Pb 2 _ rfl
 have p3:=Pb 3 _ rfl
 have p4:=Pb 4 _ rfl
 have p5:=Pb 5 _ rfl
 have p6:=Pb 6 _ rfl
 have c4:=Cb 4 _ rfl
 have c5:=Cb 5 _ rfl
 go_enter Tryz.func15,Tryz.ntmps15
 by_cases hx:C.xn = P.vn
 ·have hxI:(C.xn:Int) = (P.vn:Int):=by omega
  by_cases hy:C.yn = P.rn
  ·have hyI:(C.yn:Int) = (P.rn:Int):=by omega
   have HX:Hid (C.xn = P.vn∧C.yn = P.rn):=⟨hx,hy⟩
   clear hx hy
   go_wp2_with fail
   clear p0 p1 p2 p3 p4 p5 p6 c4 c5 hxI hyI
   generalize (w.alloc (.cells #[.bool P.mx,.string P.nm,.bool P.p,.slice P.a P.na P.ca,.slice P.d P.nd P.cd,.slice P.va P.vn P.vc,.slice P.ra P.rn P.rc] 32)).alloc (.cells #[.int .i64 C.vd,.bool C.p,.slice C.a C.na C.ca,.slice C.d C.nd C.cd,.slice C.xa C.xn C.xc,.slice C.ya C.yn C.yc,.slice C.za C.zn C.zc] 35) = W0 at *
   refine (HHO W0 hb0).mono ?_
   rintro e w1 ⟨b,rfl,hb,h1⟩
   have hb1:=bel_tr hb0 h1
   replace Pb:=Pb.below h1
   replace Cb:=Cb.below h1
   have E1:=EH.below hb1
   have HH:Hid (b = true↔Hlds P C.xn C.X):=hb
   clear h1 hb E0 hb0
   cases b
   ·obtain ⟨ec,pp,rfl⟩:=E1.p
    go_wp2
    go_ret
    exact ⟨hb1,.inr ⟨HX.out.1,HX.out.2,.inl ⟨fun h=>(by have:=HH.out.2 h;cases this),rfl⟩⟩⟩
   ·have hH:=HH.out.1 rfl
    have HL:Hid (Hlds P C.xn C.X):=hH
    clear hH HH
    go_wp2_with fail
    have HBX:∀ w',Below w1.heap.size w1 w'→(w'.cell? ⟨w.heap.size,0,none⟩ = some (.bool P.mx)∧w'.cell? ⟨w.heap.size,1,none⟩ = some (.string P.nm)∧w'.cell? ⟨w.heap.size,2,none⟩ = some (.bool P.p)∧w'.cell? ⟨w.heap.size,3,none⟩ = some (.slice P.a P.na P.ca)∧w'.cell? ⟨w.heap.size,4,none⟩ = some (.slice P.d P.nd P.cd)∧w'.cell? ⟨w.heap.size,5,none⟩ = some (.slice P.va P.vn P.vc)∧w'.cell? ⟨w.heap.size,6,none⟩ = some (.slice P.ra P.rn P.rc)∧w'.cell? ⟨w.heap.size + 1,1,none⟩ = some (.bool C.p)∧w'.cell? ⟨w.heap.size + 1,2,none⟩ = some (.slice C.a C.na C.ca)∧w'.cell? ⟨w.heap.size + 1,3,none⟩ = some (.slice C.d C.nd C.cd)∧w'.cell? ⟨w.heap.size + 1,4,none⟩ = some (.slice C.xa C.xn C.xc)):=fun w' h=>⟨(Pb.below h) 0 _ rfl,(Pb.below h) 1 _ rfl,(Pb.below h) 2 _ rfl,(Pb.below h) 3 _ rfl,(Pb.below h) 4 _ rfl,(Pb.below h) 5 _ rfl,(Pb.below h) 6 _ rfl,(Cb.below h) 1 _ rfl,(Cb.below h) 2 _ rfl,(Cb.below h) 3 _ rfl,(Cb.below h) 4 _ rfl⟩
    obtain ⟨t,et⟩:∃ t,t = cs (vlu P C.X) C.v:=⟨_,rfl⟩
    have ET:Hid (t = cs (vlu P C.X) C.v):=et
    clear et
    refine wp_region_noPanic (wp_region_guardB HBX (by as_aux_lemma=>kernel_rfl) ?_)
    have hc0:Below w1.heap.size w1 w1.drew:=bel_d1 _
    generalize w1.drew = z0 at *
    refine wpAnyG.tA 0 (v:=.agg #[.bool P.mx,.string P.nm,.bool P.p,.slice P.a P.na P.ca,.slice P.d P.nd P.cd,.slice P.va P.vn P.vc,.slice P.ra P.rn P.rc]) (by decide) 3 (by as_aux_lemma=>kernel_rfl) (by rfl) ?y0 (HBX _ hc0) ?_
    case y0 =>
     rintro w' ⟨q0,q1,q2,q3,q4,q5,q6,q7,q8,q9,q10⟩
     simp only [lgA,lgZ]
     go_simp
    simp only [lgA,lgZ,Act.put,lsA,lsZ,lsS]
    refine wpAnyG.tA 1 (v:=.pointer (some ⟨w.heap.size + 1,4,none⟩)) (by decide) 2 (by as_aux_lemma=>kernel_rfl) (by rfl) ?y1 (HBX _ hc0) ?_
    case y1 =>
     rintro w' ⟨q0,q1,q2,q3,q4,q5,q6,q7,q8,q9,q10⟩
     simp only [lgA,lgZ,lgS]
     go_simp
    simp only [lgA,lgZ,lgS,Act.put,lsA,lsZ,lsS]
    refine wpAnyG.tA 2 (v:=.slice C.xa C.xn C.xc) (by decide) 3 (by as_aux_lemma=>kernel_rfl) (by rfl) ?y2 (HBX _ hc0) ?_
    case y2 =>
     rintro w' ⟨q0,q1,q2,q3,q4,q5,q6,q7,q8,q9,q10⟩
     simp only [lgA,lgZ,lgS]
     go_simp
    simp only [lgA,lgZ,lgS,Act.put,lsA,lsZ,lsS]
    refine wpAnyG.tA 4 (v:=.pointer (some ⟨w.heap.size + 1,1,none⟩)) (by decide) 5 (by as_aux_lemma=>kernel_rfl) (by rfl) ?y4 (HBX _ hc0) ?_
    case y4 =>
     rintro w' ⟨q0,q1,q2,q3,q4,q5,q6,q7,q8,q9,q10⟩
     simp only [lgA,lgZ,lgS]
     go_simp
    simp only [lgA,lgZ,lgS,Act.put,lsA,lsZ,lsS]
    refine wpAnyG.tA 5 (v:=.agg #[.bool C.p,.slice C.a C.na C.ca,.slice C.d C.nd C.cd]) (by decide) 6 (by as_aux_lemma=>kernel_rfl) (by rfl) ?y5 (HBX _ hc0) ?_
    case y5 =>
     rintro w' ⟨q0,q1,q2,q3,q4,q5,q6,q7,q8,q9,q10⟩
     simp only [lgA,lgZ,lgS]
     go_simp
    simp only [lgA,lgZ,lgS,Act.put,lsA,lsZ,lsS]
    refine wpAnyG.one 3 (by as_aux_lemma=>kernel_rfl) (by decide) (by rfl) (fun K hK=>?_)
    simp only [lgA,lgZ,lgS]
    go_simp
    refine (HVA z0 (bel_tr hb1 hc0) HX.out.1).mono ?_
    rintro e z1 ⟨f1,d1,n1,k1,d2,n2,k2,rfl,G1,hk1⟩
    have hc1:Below w1.heap.size w1 z1:=bel_tr hc0 hk1
    dsimp only
    refine hK _ _ (HBX _ hc1) ?_
    clear hK K
    refine wpAnyG.one 6 (by as_aux_lemma=>kernel_rfl) (by decide) (by rfl) (fun K hK=>?_)
    simp only [lgA,lgZ,lgS]
    go_simp
    refine (cmpB t z1 G1.tr (hC.v.below (bel_tr hb1 hc1)) (by omega) (by omega) hC.s1 ET.out).mono ?_
    rintro e z2 ⟨rfl,hk2⟩
    have hc2:Below w1.heap.size w1 z2:=bel_tr hc1 hk2
    dsimp only
    refine hK _ _ (HBX _ hc2) ?_
    clear hK K
    refine wpAnyG.one 7 (by as_aux_lemma=>kernel_rfl) (by decide) (by rfl) (fun K hK=>?_)
    simp only [lgA,lgZ,lgS]
    go_simp
    refine hK _ _ (HBX _ hc2) ?_
    clear hK K
    refine wpAnyG.done (by as_aux_lemma=>kernel_rfl) (NoPanic.normal ?_)
    have hb2:=bel_tr hb1 hc2
    have Pb2:=Pb.below hc2
    have Cb2:=Cb.below hc2
    have E2:=EH.below hb2
    clear HBX hc0 hc1 hc2 hk1 hk2 G1 Pb Cb E1 hb1
    by_cases ht:t = 0
    ·have hv:vlu P C.X = C.v:=cs_zero.1 (by rw [← ET.out];exact ht)
     have HV:Hid (vlu P C.X = C.v):=hv
     subst ht
     clear hv
     have p0:=Pb2 0 _ rfl
     have p1:=Pb2 1 _ rfl
     have p2:=Pb2 2 _ rfl
     have p3:=Pb2 3 _ rfl
     have p4:=Pb2 4 _ rfl
     have p5:=Pb2 5 _ rfl
     have p6:=Pb2 6 _ rfl
     have c5:=Cb2 5 _ rfl
     clear ET
     go_wp2_with fail
     clear p0 p1 p2 p3 p4 p5 p6 c5
     refine (HPR z2 hb2).mono ?_
     rintro e w3 ⟨h3,hh⟩
     have hb3:=bel_tr hb2 h3
     have Cb3:=Cb2.below h3
     have E3:=EH.below hb3
     clear Pb2 Cb2 E2 hb2 h3
     rcases hh with ⟨hn,rfl⟩ | ⟨_,hno,rfl⟩ | ⟨_,hok,f,d3,n3,k3,d4,n4,k4,rfl,G⟩
     ·exact absurd HX.out.2 hn
     ·obtain ⟨ec,pp,rfl⟩:=E3.b
      have hz:=bel_d0 w3 (.cells #[.bool false,.slice none 0 0,.slice none 0 0] 28)
      go_wp2
      go_ret
      exact ⟨bel_tr hb3 hz,.inr ⟨HX.out.1,HX.out.2,.inr ⟨HL.out,.inr ⟨HV.out,.inl ⟨fun h=>hno h.1,rfl⟩⟩⟩⟩⟩
     ·have hz:=bel_d0 w3 (.cells #[.bool f,.slice d3 n3 k3,.slice d4 n4 k4] 28)
      have Cb4:=Cb3.below hz
      have c1:=Cb4 1 _ rfl
      have c2:=Cb4 2 _ rfl
      have c3:=Cb4 3 _ rfl
      have HO:Hid (okS P C.Y):=hok
      go_wp2_with fail
      have hb4:=bel_tr hb3 hz
      have E4:=EH.below hb4
      have G4:=G.below hz
      clear c1 c2 c3 hz Cb3 Cb4 E3 hb3 G
      generalize w3.alloc (.cells #[.bool f,.slice d3 n3 k3,.slice d4 n4 k4] 28) = W4 at *
      obtain ⟨s,es⟩:∃ s,s = cs (pvS P C.Y) C.v:=⟨_,rfl⟩
      have ES:Hid (s = cs (pvS P C.Y) C.v):=es
      refine (cmpB s W4 G4.tr (hC.v.below hb4) (by omega) (by omega) hC.s1 es).mono ?_
      rintro e w5 ⟨rfl,h5⟩
      have hb5:=bel_tr hb4 h5
      have E5:=EH.below hb5
      clear es h5 E4 G4 hb4
      by_cases hs:s = 0
      ·have hv2:pvS P C.Y = C.v:=cs_zero.1 (by rw [← ES.out];exact hs)
       subst hs
       clear ES
       have HF:OptR P C eS eP eV eB w (.returned .nilIface) w5:=⟨hb5,.inr ⟨HX.out.1,HX.out.2,.inr ⟨HL.out,.inr ⟨HV.out,.inr ⟨HO.out,hv2,rfl⟩⟩⟩⟩⟩
       clear hv2
       go_wp2
       go_ret
       exact HF
      ·have hv2:pvS P C.Y ≠ C.v:=fun h=>hs (by rw [ES.out];exact cs_zero.2 h)
       have hsb:(s == 0) = false:=by simpa using hs
       obtain ⟨ec,pp,rfl⟩:=E5.b
       have HF:OptR P C eS eP eV (.iface 131 (.pointer (some pp))) w (.returned (.iface 131 (.pointer (some pp)))) w5:=⟨hb5,.inr ⟨HX.out.1,HX.out.2,.inr ⟨HL.out,.inr ⟨HV.out,.inl ⟨fun h=>hv2 h.2,rfl⟩⟩⟩⟩⟩
       clear hv2 ES
       go_wp2
       go_ret
       exact HF
    ·have hv:vlu P C.X ≠ C.v:=fun h=>ht (by rw [ET.out];exact cs_zero.2 h)
     have htb:(t == 0) = false:=by simpa using ht
     obtain ⟨ec,pp,rfl⟩:=E2.v
     have HF:OptR P C eS eP (.iface 131 (.pointer (some pp))) eB w (.returned (.iface 131 (.pointer (some pp)))) z2:=⟨hb2,.inr ⟨HX.out.1,HX.out.2,.inr ⟨HL.out,.inl ⟨hv,rfl⟩⟩⟩⟩
     clear hv ET Pb2 Cb2
     go_wp2
     go_ret
     exact HF
  ·have hyI:¬ ((C.yn:Int) = (P.rn:Int)):=by omega
   have hyB:((C.yn:Int) == (P.rn:Int)) = false:=by simpa using hyI
   obtain ⟨ec,pp,rfl⟩:=E0.s
   have HY:Hid (¬ C.yn = P.rn):=hy
   clear hx hy
   go_wp2
   go_ret
   exact ⟨hb0,.inl ⟨fun h=>HY.out h.2,rfl⟩⟩
 ·have hxI:¬ ((C.xn:Int) = (P.vn:Int)):=by omega
  have hxB:((C.xn:Int) == (P.vn:Int)) = false:=by simpa using hxI
  obtain ⟨ec,pp,rfl⟩:=E0.s
  go_wp2
  go_ret
  exact ⟨hb0,.inl ⟨fun h=>hx h.1,rfl⟩⟩
set_option maxRecDepth 100000 in
set_option maxHeartbeats 4000000 in
theorem chkB1 (P:Prob) (C:Crt) (w:World) (hv:C.vd = 1) (hP:PQ w P) (hC:CQ w C) (h0:P.rn = 0) (hK:P.K≤1048572) (hSC:C.S≤2200000) (hSX:tot C.ZX C.xn≤1048576) (hSY:tot C.ZY C.yn≤3) (hT:TB w) {eS eP eV eB eR eD:Value} (EH:EE w eS eP eV eB eR eD) :
  Calls Tryz.prog 6 #[P.val,C.val] w fun e w'=>OptR P C eS eP eV eB w e w':=by
 have HV:Hid (C.vd = 1):=hv
 clear hv
 have HQ:=fun w1 (hb:Below w.heap.size w w1)=>optB P C w1 (hP.below hb) (hC.below hb) h0 hK hSC hSX hSY (hT.below hb) (EH.below hb)
 clear h0
 unfold Prob.val Crt.val at *
 rw [HV.out] at HQ ⊢
 have Pb:=box_new w #[.bool P.mx,.string P.nm,.bool P.p,.slice P.a P.na P.ca,.slice P.d P.nd P.cd,.slice P.va P.vn P.vc,.slice P.ra P.rn P.rc] 32
 have hz0:=bel_d0 w (.cells #[.bool P.mx,.string P.nm,.bool P.p,.slice P.a P.na P.ca,.slice P.d P.nd P.cd,.slice P.va P.vn P.vc,.slice P.ra P.rn P.rc] 32)
 have hs0:(w.alloc (.cells #[.bool P.mx,.string P.nm,.bool P.p,.slice P.a P.na P.ca,.slice P.d P.nd P.cd,.slice P.va P.vn P.vc,.slice P.ra P.rn P.rc] 32)).heap.size = w.heap.size + 1:=by simp
 have Cb:=box_new (w.alloc (.cells #[.bool P.mx,.string P.nm,.bool P.p,.slice P.a P.na P.ca,.slice P.d P.nd P.cd,.slice P.va P.vn P.vc,.slice P.ra P.rn P.rc] 32)) #[.int .i64 1,.bool C.p,.slice C.a C.na C.ca,.slice C.d C.nd C.cd,.slice C.xa C.xn C.xc,.slice C.ya C.yn C.yc,.slice C.za C.zn C.zc] 35
 have hz1:=bel_d0 (w.alloc (.cells #[.bool P.mx,.string P.nm,.bool P.p,.slice P.a P.na P.ca,.slice P.d P.nd P.cd,.slice P.va P.vn P.vc,.slice P.ra P.rn P.rc] 32)) (.cells #[.int .i64 1,.bool C.p,.slice C.a C.na C.ca,.slice C.d C.nd C.cd,.slice C.xa C.xn C.xc,.slice C.ya C.yn C.yc,.slice C.za C.zn C.zc] 35)
 rw [hs0] at Cb
 replace Pb:=Pb.below hz1
 have hb0:=bel_tr hz0 hz1
 clear hz0 hz1 hs0
 have p0:=Pb 0 _ rfl;have p1:=Pb 1 _ rfl;have p2:=Pb 2 _ rfl;have p3:=Pb 3 _ rfl;have p4:=Pb 4 _ rfl;have p5:=Pb 5 _ rfl;have p6:=Pb 6 _ rfl
 have c0:=Cb 0 _ rfl;have c1:=Cb 1 _ rfl;have c2:=Cb 2 _ rfl;have c3:=Cb 3 _ rfl;have c4:=Cb 4 _ rfl;have c5:=Cb 5 _ rfl;have c6:=Cb 6 _ rfl
 go_enter Tryz.func6,Tryz.ntmps6
 go_wp2_with fail
 clear p0 p1 p2 p3 p4 p5 p6 c0 c1 c2 c3 c4 c5 c6
 generalize (w.alloc (.cells #[.bool P.mx,.string P.nm,.bool P.p,.slice P.a P.na P.ca,.slice P.d P.nd P.cd,.slice P.va P.vn P.vc,.slice P.ra P.rn P.rc] 32)).alloc (.cells #[.int .i64 1,.bool C.p,.slice C.a C.na C.ca,.slice C.d C.nd C.cd,.slice C.xa C.xn C.xc,.slice C.ya C.yn C.yc,.slice C.za C.zn C.zc] 35) = W0 at *
 refine (HQ W0 hb0).mono ?_
 intro e w1 HR
 replace HR:=HR.up hb0
 clear Pb Cb hb0 HQ
 obtain ⟨v,rfl⟩:=HR.val
 go_wp2
 go_ret
 exact HR
set_option maxRecDepth 100000 in
set_option maxHeartbeats 16000000 in
theorem unbB (P:Prob) (C:Crt) (w:World) (hP:PQ w P) (hC:CQ w C) (h0:P.rn = 0) (hK:P.K≤1048572) (hSX:tot C.ZX C.xn≤1048576) (hSZ:tot C.ZZ C.zn≤1048576) (hT:TB w) {eS eP eV eB eR eD:Value} (EH:EE w eS eP eV eB eR eD) :
  Calls Tryz.prog 17 #[P.val,C.val] w fun e w'=>UnbR P C eS eP eR w e w':=by
 have HHO:=fun w1 (hb:Below w.heap.size w w1)=>holdQ3 P (xc:=C.xc) w1 (hP.below hb) (hC.x.below hb) hC.zx (Nat.le_refl _) hC.xc h0 (by omega) hSX (hT.below hb)
 have HKE:=fun w1 (hb:Below w.heap.size w w1) hn=>keepsQ3 P (zc:=C.zc) w1 (hP.below hb) (hC.z.below hb) hC.zz (Nat.le_refl _) hC.zc hn h0 (by omega) hSZ (hT.below hb)
 have HBE:=fun w1 (hb:Below w.heap.size w w1) hn=>becomesQ3 P (zc:=C.zc) w1 (hP.below hb) (hC.z.below hb) hC.zz (Nat.le_refl _) hC.zc hn (by omega) hSZ (hT.below hb)
 clear h0
 unfold Prob.val Crt.val at *
 have Pb:=box_new w #[.bool P.mx,.string P.nm,.bool P.p,.slice P.a P.na P.ca,.slice P.d P.nd P.cd,.slice P.va P.vn P.vc,.slice P.ra P.rn P.rc] 32
 have hz0:=bel_d0 w (.cells #[.bool P.mx,.string P.nm,.bool P.p,.slice P.a P.na P.ca,.slice P.d P.nd P.cd,.slice P.va P.vn P.vc,.slice P.ra P.rn P.rc] 32)
 have hs0:(w.alloc (.cells #[.bool P.mx,.string P.nm,.bool P.p,.slice P.a P.na P.ca,.slice P.d P.nd P.cd,.slice P.va P.vn P.vc,.slice P.ra P.rn P.rc] 32)).heap.size = w.heap.size + 1:=by simp
 have Cb:=box_new (w.alloc (.cells #[.bool P.mx,.string P.nm,.bool P.p,.slice P.a P.na P.ca,.slice P.d P.nd P.cd,.slice P.va P.vn P.vc,.slice P.ra P.rn P.rc] 32)) #[.int .i64 C.vd,.bool C.p,.slice C.a C.na C.ca,.slice C.d C.nd C.cd,.slice C.xa C.xn C.xc,.slice C.ya C.yn C.yc,.slice C.za C.zn C.zc] 35
 have hz1:=bel_d0 (w.alloc (.cells #[.bool P.mx,.string P.nm,.bool P.p,.slice P.a P.na P.ca,.slice P.d P.nd P.cd,.slice P.va P.vn P.vc,.slice P.ra P.rn P.rc] 32)) (.cells #[.int .i64 C.vd,.bool C.p,.slice C.a C.na C.ca,.slice C.d C.nd C.cd,.slice C.xa C.xn C.xc,.slice C.ya C.yn C.yc,.slice C.za C.zn C.zc] 35)
 rw [hs0] at Cb
 replace Pb:=Pb.below hz1
 have hb0:=bel_tr hz0 hz1
 have E0:=EH.below hb0
 have hall:=hC.all
 have ht1:=tot_pos C.ZX C.xn
 have ht2:=tot_pos C.ZY C.yn
 have ht3:=tot_pos C.ZZ C.zn
 clear hz0 hz1 hs0
 have p0:=Pb 0 _ rfl;have p1:=Pb 1 _ rfl;have p2:=Pb 2 _ rfl;have p3:=Pb 3 _ rfl;have p4:=Pb 4 _ rfl;have p5:=Pb 5 _ rfl;have p6:=Pb 6 _ rfl
 have c4:=Cb 4 _ rfl
 have c6:=Cb 6 _ rfl
 go_enter Tryz.func17,Tryz.ntmps17
 by_cases hx:C.xn = P.vn
 ·have hxI:(C.xn:Int) = (P.vn:Int):=by omega
  by_cases hy:C.zn = P.vn
  ·have hyI:(C.zn:Int) = (P.vn:Int):=by omega
   have HX:Hid (C.xn = P.vn∧C.zn = P.vn):=⟨hx,hy⟩
   clear hx hy
   go_wp2_with fail
   clear p0 p1 p2 p3 p4 p5 p6 c4 c6 hxI hyI
   generalize (w.alloc (.cells #[.bool P.mx,.string P.nm,.bool P.p,.slice P.a P.na P.ca,.slice P.d P.nd P.cd,.slice P.va P.vn P.vc,.slice P.ra P.rn P.rc] 32)).alloc (.cells #[.int .i64 C.vd,.bool C.p,.slice C.a C.na C.ca,.slice C.d C.nd C.cd,.slice C.xa C.xn C.xc,.slice C.ya C.yn C.yc,.slice C.za C.zn C.zc] 35) = W0 at *
   refine (HHO W0 hb0).mono ?_
   rintro e w1 ⟨b,rfl,hb,h1⟩
   have hb1:=bel_tr hb0 h1
   replace Pb:=Pb.below h1
   replace Cb:=Cb.below h1
   have E1:=EH.below hb1
   have HH:Hid (b = true↔Hlds P C.xn C.X):=hb
   clear h1 hb E0 hb0
   cases b
   ·obtain ⟨ec,pp,rfl⟩:=E1.p
    go_wp2
    go_ret
    exact ⟨hb1,.inr ⟨HX.out.1,HX.out.2,.inl ⟨fun h=>(by have:=HH.out.2 h;cases this),rfl⟩⟩⟩
   ·have hH:=HH.out.1 rfl
    have HL:Hid (Hlds P C.xn C.X):=hH
    have p0:=Pb 0 _ rfl;have p1:=Pb 1 _ rfl;have p2:=Pb 2 _ rfl;have p3:=Pb 3 _ rfl;have p4:=Pb 4 _ rfl;have p5:=Pb 5 _ rfl;have p6:=Pb 6 _ rfl
    have c6:=Cb 6 _ rfl
    clear hH HH
    go_wp2_with fail
    clear p0 p1 p2 p3 p4 p5 p6 c6
    refine (HKE w1 hb1 HX.out.2).mono ?_
    rintro e w2 ⟨b,rfl,hb,h2⟩
    have hb2:=bel_tr hb1 h2
    replace Pb:=Pb.below h2
    replace Cb:=Cb.below h2
    have E2:=EH.below hb2
    have HD:Hid (b = true↔Dir P C.Z):=hb
    clear h2 hb E1 hb1
    cases b
    ·obtain ⟨ec,pp,rfl⟩:=E2.r
     go_wp2
     go_ret
     exact ⟨hb2,.inr ⟨HX.out.1,HX.out.2,.inr ⟨HL.out,.inl ⟨fun h=>(by have:=HD.out.2 h.1;cases this),rfl⟩⟩⟩⟩
    ·have p0:=Pb 0 _ rfl;have p1:=Pb 1 _ rfl;have p2:=Pb 2 _ rfl;have p3:=Pb 3 _ rfl;have p4:=Pb 4 _ rfl;have p5:=Pb 5 _ rfl;have p6:=Pb 6 _ rfl
     have c6:=Cb 6 _ rfl
     go_wp2_with fail
     clear p0 p1 p2 p3 p4 p5 p6 c6
     refine (HBE w2 hb2 HX.out.2).mono ?_
     rintro e w3 ⟨b,rfl,hb,h3⟩
     have hb3:=bel_tr hb2 h3
     have E3:=EH.below hb3
     have HI:Hid (b = true↔imp P C.Z):=hb
     clear h3 hb E2 hb2 Pb Cb
     cases b
     ·obtain ⟨ec,pp,rfl⟩:=E3.r
      go_wp2
      go_ret
      exact ⟨hb3,.inr ⟨HX.out.1,HX.out.2,.inr ⟨HL.out,.inl ⟨fun h=>(by have:=HI.out.2 h.2;cases this),rfl⟩⟩⟩⟩
     ·go_wp2
      go_ret
      exact ⟨hb3,.inr ⟨HX.out.1,HX.out.2,.inr ⟨HL.out,.inr ⟨HD.out.1 (by first | rfl | trivial),HI.out.1 (by first | rfl | trivial),rfl⟩⟩⟩⟩
  ·have hyI:¬ ((C.zn:Int) = (P.vn:Int)):=by omega
   have hyB:((C.zn:Int) == (P.vn:Int)) = false:=by simpa using hyI
   obtain ⟨ec,pp,rfl⟩:=E0.s
   have HY:Hid (¬ C.zn = P.vn):=hy
   clear hx hy
   go_wp2
   go_ret
   exact ⟨hb0,.inl ⟨fun h=>HY.out h.2,rfl⟩⟩
 ·have hxI:¬ ((C.xn:Int) = (P.vn:Int)):=by omega
  have hxB:((C.xn:Int) == (P.vn:Int)) = false:=by simpa using hxI
  obtain ⟨ec,pp,rfl⟩:=E0.s
  go_wp2
  go_ret
  exact ⟨hb0,.inl ⟨fun h=>hx h.1,rfl⟩⟩
set_option maxRecDepth 100000 in
set_option maxHeartbeats 4000000 in
theorem chkB3 (P:Prob) (C:Crt) (w:World) (hv:C.vd = 3) (hP:PQ w P) (hC:CQ w C) (h0:P.rn = 0) (hK:P.K≤1048572) (hSX:tot C.ZX C.xn≤1048576) (hSZ:tot C.ZZ C.zn≤1048576) (hT:TB w) {eS eP eV eR eD:Value} {pB:Addr} (EH:EE w eS eP eV (.iface 131 (.pointer (some pB))) eR eD) :
  Calls Tryz.prog 6 #[P.val,C.val] w fun e w'=>UnbR P C eS eP eR w e w':=by
 have HV:Hid (C.vd = 3):=hv
 clear hv
 have HQ:=fun w1 (hb:Below w.heap.size w w1)=>unbB P C w1 (hP.below hb) (hC.below hb) h0 hK hSX hSZ (hT.below hb) (EH.below hb)
 clear h0
 unfold Prob.val Crt.val at *
 rw [HV.out] at HQ ⊢
 have Pb:=box_new w #[.bool P.mx,.string P.nm,.bool P.p,.slice P.a P.na P.ca,.slice P.d P.nd P.cd,.slice P.va P.vn P.vc,.slice P.ra P.rn P.rc] 32
 have hz0:=bel_d0 w (.cells #[.bool P.mx,.string P.nm,.bool P.p,.slice P.a P.na P.ca,.slice P.d P.nd P.cd,.slice P.va P.vn P.vc,.slice P.ra P.rn P.rc] 32)
 have hs0:(w.alloc (.cells #[.bool P.mx,.string P.nm,.bool P.p,.slice P.a P.na P.ca,.slice P.d P.nd P.cd,.slice P.va P.vn P.vc,.slice P.ra P.rn P.rc] 32)).heap.size = w.heap.size + 1:=by simp
 have Cb:=box_new (w.alloc (.cells #[.bool P.mx,.string P.nm,.bool P.p,.slice P.a P.na P.ca,.slice P.d P.nd P.cd,.slice P.va P.vn P.vc,.slice P.ra P.rn P.rc] 32)) #[.int .i64 3,.bool C.p,.slice C.a C.na C.ca,.slice C.d C.nd C.cd,.slice C.xa C.xn C.xc,.slice C.ya C.yn C.yc,.slice C.za C.zn C.zc] 35
 have hz1:=bel_d0 (w.alloc (.cells #[.bool P.mx,.string P.nm,.bool P.p,.slice P.a P.na P.ca,.slice P.d P.nd P.cd,.slice P.va P.vn P.vc,.slice P.ra P.rn P.rc] 32)) (.cells #[.int .i64 3,.bool C.p,.slice C.a C.na C.ca,.slice C.d C.nd C.cd,.slice C.xa C.xn C.xc,.slice C.ya C.yn C.yc,.slice C.za C.zn C.zc] 35)
 rw [hs0] at Cb
 replace Pb:=Pb.below hz1
 have hb0:=bel_tr hz0 hz1
 clear hz0 hz1 hs0
 have p0:=Pb 0 _ rfl;have p1:=Pb 1 _ rfl;have p2:=Pb 2 _ rfl;have p3:=Pb 3 _ rfl;have p4:=Pb 4 _ rfl;have p5:=Pb 5 _ rfl;have p6:=Pb 6 _ rfl
 have c0:=Cb 0 _ rfl;have c1:=Cb 1 _ rfl;have c2:=Cb 2 _ rfl;have c3:=Cb 3 _ rfl;have c4:=Cb 4 _ rfl;have c5:=Cb 5 _ rfl;have c6:=Cb 6 _ rfl
 go_enter Tryz.func6,Tryz.ntmps6
 go_wp2_with fail
 clear p0 p1 p2 p3 p4 p5 p6 c0 c1 c2 c3 c4 c5 c6
 generalize (w.alloc (.cells #[.bool P.mx,.string P.nm,.bool P.p,.slice P.a P.na P.ca,.slice P.d P.nd P.cd,.slice P.va P.vn P.vc,.slice P.ra P.rn P.rc] 32)).alloc (.cells #[.int .i64 3,.bool C.p,.slice C.a C.na C.ca,.slice C.d C.nd C.cd,.slice C.xa C.xn C.xc,.slice C.ya C.yn C.yc,.slice C.za C.zn C.zc] 35) = W0 at *
 refine (HQ W0 hb0).mono ?_
 intro e w1 HR
 replace HR:=HR.up hb0
 clear Pb Cb hb0 HQ
 obtain ⟨v,rfl⟩:=HR.val
 go_wp2
 go_ret
 exact HR
end Go.Proofs.YtjapbhdoemfgkaaGreatDoor

import Derived.Test.YtjapbhdoemfgkaaGreatDoorPvK
import Derived.Test.YtjapbhdoemfgkaaGreatDoorPvL
import Derived.Test.YtjapbhdoemfgkaaGreatDoorGuardS
namespace Go.Proofs.YtjapbhdoemfgkaaGreatDoor
open Go.RowKit
theorem wp_cutM {P:Program} {c:Code} {Q:Exit→Act→World→Prop} {a:Act} {w:World} (J:Act→Act→World→Prop) (h1:c.wp P (fun e a' w'=>e = .normal∧J a a' w') a w) (h2:∀ a' w',J a a' w'→Q .normal a' w'):c.wp P Q a w :=
 Code.wp_mono (fun e a' w' h=>by obtain ⟨rfl,h⟩:=h;exact h2 a' w' h) h1
theorem wob_ok {P:Prob} {ga:Option Addr} {gc:Nat} {Y:Nat→Rat}:okS (P.wob ga gc) Y↔okp P.bare Y:=by
 unfold okS
 rw [if_neg (by show ¬ (false = true);decide)]
 exact Iff.rfl
theorem wob_pv (P:Prob) (ga:Option Addr) (gc:Nat) (Y:Nat→Rat):pvS (P.wob ga gc) Y = pv P.bare Y:=by
 unfold pvS
 rw [if_neg (by show ¬ (false = true);decide)]
 rfl
def InfR (P:Prob) (C:Crt) (eS eB:Value) (w:World) (e:Ending) (w':World):Prop :=
 Below w.heap.size w w'∧((C.yn ≠ P.rn∧e = .returned eS)∨(C.yn = P.rn∧((Crs P∧e = .returned .nilIface)∨(¬ Crs P∧((¬ (okp P.bare C.Y∧0 < pv P.bare C.Y)∧e = .returned eB)∨(okp P.bare C.Y∧0 < pv P.bare C.Y∧e = .returned .nilIface))))))
set_option maxRecDepth 100000 in
set_option maxHeartbeats 32000000 in
theorem infQ (P:Prob) (C:Crt) (w:World) (hP:PQ w P) (hC:CQ w C) (hKK:P.K + C.K≤1048576) (hT:TB w) {eS eP eV eR eD:Value} {pB:Addr} (EH:EE w eS eP eV (.iface 131 (.pointer (some pB))) eR eD) :
  Calls Tryz.prog 16 #[P.val,C.val] w fun e w'=>InfR P C eS (.iface 131 (.pointer (some pB))) w e w':=by
 unfold Prob.val Crt.val
 have Pb:=box_new w #[.bool P.mx,.string P.nm,.bool P.p,.slice P.a P.na P.ca,.slice P.d P.nd P.cd,.slice P.va P.vn P.vc,.slice P.ra P.rn P.rc] 32
 have hz0:=bel_d0 w (.cells #[.bool P.mx,.string P.nm,.bool P.p,.slice P.a P.na P.ca,.slice P.d P.nd P.cd,.slice P.va P.vn P.vc,.slice P.ra P.rn P.rc] 32)
 have hs0:(w.alloc (.cells #[.bool P.mx,.string P.nm,.bool P.p,.slice P.a P.na P.ca,.slice P.d P.nd P.cd,.slice P.va P.vn P.vc,.slice P.ra P.rn P.rc] 32)).heap.size = w.heap.size + 1:=by simp
 have Cb:=box_new (w.alloc (.cells #[.bool P.mx,.string P.nm,.bool P.p,.slice P.a P.na P.ca,.slice P.d P.nd P.cd,.slice P.va P.vn P.vc,.slice P.ra P.rn P.rc] 32)) #[.int .i64 C.vd,.bool C.p,.slice C.a C.na C.ca,.slice C.d C.nd C.cd,.slice C.xa C.xn C.xc,.slice C.ya C.yn C.yc,.slice C.za C.zn C.zc] 35
 have hz1:=bel_d0 (w.alloc (.cells #[.bool P.mx,.string P.nm,.bool P.p,.slice P.a P.na P.ca,.slice P.d P.nd P.cd,.slice P.va P.vn P.vc,.slice P.ra P.rn P.rc] 32)) (.cells #[.int .i64 C.vd,.bool C.p,.slice C.a C.na C.ca,.slice C.d C.nd C.cd,.slice C.xa C.xn C.xc,.slice C.ya C.yn C.yc,.slice C.za C.zn C.zc] 35)
 rw [hs0] at Cb
 replace Pb:=Pb.below hz1
 have hb0:=bel_tr hz0 hz1
 have E0:=EH.below hb0
 have hall:=hC.all
 have ht1:=tot_pos C.ZX C.xn
 have ht2:=tot_pos C.ZY C.yn
 have ht3:=tot_pos C.ZZ C.zn
 clear hz0 hz1 hs0
 have p0:=Pb 0 _ rfl;have p1:=Pb 1 _ rfl;have p2:=Pb 2 _ rfl;have p3:=Pb 3 _ rfl;have p4:=Pb 4 _ rfl;have p5:=Pb 5 _ rfl;have p6:=Pb 6 _ rfl
 have c5:=Cb 5 _ rfl
 go_enter Tryz.func16,Tryz.ntmps16
 by_cases hy:C.yn = P.rn
 ·have hyI:(C.yn:Int) = (P.rn:Int):=by omega
  have HX:Hid (C.yn = P.rn):=hy
  clear hy
  go_wp2_with fail
  clear p0 p1 p2 p3 p4 p5 p6 c5 hyI
  generalize (w.alloc (.cells #[.bool P.mx,.string P.nm,.bool P.p,.slice P.a P.na P.ca,.slice P.d P.nd P.cd,.slice P.va P.vn P.vc,.slice P.ra P.rn P.rc] 32)).alloc (.cells #[.int .i64 C.vd,.bool C.p,.slice C.a C.na C.ca,.slice C.d C.nd C.cd,.slice C.xa C.xn C.xc,.slice C.ya C.yn C.yc,.slice C.za C.zn C.zc] 35) = W0 at *
  refine (crossedQ P W0 (hP.below hb0) (by omega)).mono ?_
  rintro e w1 ⟨b,rfl,hb,h1⟩
  have hb1:=bel_tr hb0 h1
  replace Pb:=Pb.below h1
  replace Cb:=Cb.below h1
  have HC:Hid (b = true↔Crs P):=hb
  clear h1 hb E0 hb0
  cases b
  ·have HNC:Hid (¬ Crs P):=fun h=>(by have:=HC.out.2 h;cases this)
   clear HC
   by_cases hok:okp P.bare C.Y
   ·have HO:Hid (okp P.bare C.Y):=hok
    clear hok
    go_wp2_with fail
    have HBX:∀ w',Below w1.heap.size w1 w'→(w'.cell? ⟨w.heap.size,0,none⟩ = some (.bool P.mx)∧w'.cell? ⟨w.heap.size,1,none⟩ = some (.string P.nm)∧w'.cell? ⟨w.heap.size,2,none⟩ = some (.bool P.p)∧w'.cell? ⟨w.heap.size,3,none⟩ = some (.slice P.a P.na P.ca)∧w'.cell? ⟨w.heap.size,4,none⟩ = some (.slice P.d P.nd P.cd)∧w'.cell? ⟨w.heap.size,5,none⟩ = some (.slice P.va P.vn P.vc)∧w'.cell? ⟨w.heap.size,6,none⟩ = some (.slice P.ra P.rn P.rc)∧w'.cell? ⟨w.heap.size + 1,5,none⟩ = some (.slice C.ya C.yn C.yc)):=fun w' h=>⟨(Pb.below h) 0 _ rfl,(Pb.below h) 1 _ rfl,(Pb.below h) 2 _ rfl,(Pb.below h) 3 _ rfl,(Pb.below h) 4 _ rfl,(Pb.below h) 5 _ rfl,(Pb.below h) 6 _ rfl,(Cb.below h) 5 _ rfl⟩
    refine wp_cutM (fun a0 a' w'=>∃ (u1 u2 u3 u4 u5 u6 u7:Value) (RW:Nat) (f:Bool) (c:Option Addr) (n k:Nat) (d:Option Addr) (m l:Nat),a' = ((((((((((a0.put (some 18) u1).put (some 19) u2).put (some 20) u3).put (some 21) u4).put (some 22) u5).put (some 17) u6).put (some 23) u7).put (some 24) (.nilIface)).put (some 5) (.pointer (some ⟨RW,0,none⟩))).put (some 6) (.nilIface))∧Var3 w' RW (.bool f) (.slice c n k) (.slice d m l)∧GR w' w1.heap.size f c n k d m l (pv P.bare C.Y) 2097160∧w1.heap.size≤RW∧Below w1.heap.size w1 w') ?_ ?_
    ·refine wp_region_noPanic (wp_region_guardT 10 HBX (by as_aux_lemma=>kernel_rfl) ?_)
     have hc0:Below w1.heap.size w1 w1.drew:=bel_d1 _
     generalize w1.drew = z0 at *
     refine wpAnyG.tT 0 (v:=.agg #[.bool P.mx,.string P.nm,.bool P.p,.slice P.a P.na P.ca,.slice P.d P.nd P.cd,.slice P.va P.vn P.vc,.slice P.ra P.rn P.rc]) (by decide) 10 (by as_aux_lemma=>kernel_rfl) (by rfl) ?y0 (HBX _ hc0) ?_
     case y0 =>
      rintro w' ⟨q0,q1,q2,q3,q4,q5,q6,q7⟩
      simp only [lgA,lgZ]
      go_simp
     simp only [lgA,lgZ,Act.put,lsA,lsZ,lsS]
     refine wpAnyG.tT 2 (v:=.pointer (some ⟨w.heap.size + 1,5,none⟩)) (by decide) 10 (by as_aux_lemma=>kernel_rfl) (by rfl) ?y2 (HBX _ hc0) ?_
     case y2 =>
      rintro w' ⟨q0,q1,q2,q3,q4,q5,q6,q7⟩
      simp only [lgA,lgZ,lgS]
      go_simp
     simp only [lgA,lgZ,lgS,Act.put,lsA,lsZ,lsS]
     refine wpAnyG.tT 3 (v:=.slice C.ya C.yn C.yc) (by decide) 10 (by as_aux_lemma=>kernel_rfl) (by rfl) ?y3 (HBX _ hc0) ?_
     case y3 =>
      rintro w' ⟨q0,q1,q2,q3,q4,q5,q6,q7⟩
      simp only [lgA,lgZ,lgS]
      go_simp
     simp only [lgA,lgZ,lgS,Act.put,lsA,lsZ,lsS]
     refine wpAnyG.two 1 8 (by as_aux_lemma=>kernel_rfl) (by decide) (by decide) (by rfl) (by rfl) (fun K hK=>?_) (fun K hK=>?_)
     ·simp only [lgA,lgZ,lgS]
      go_simp
      refine (wobQ P z0 (hP.below (bel_tr hb1 hc0)) (by omega)).mono ?_
      rintro e z1 ⟨ga,gc,rfl,H1,hk⟩
      have hc1:=bel_tr hc0 hk
      dsimp only
      refine hK _ _ ⟨fun _=>HBX _ hc1,fun _=>trivial⟩ ?_
      clear hK K hk
      refine wpAnyG.two 4 8 (by as_aux_lemma=>kernel_rfl) (by decide) (by decide) (by rfl) (by rfl) (fun K hK=>?_) (fun K hK=>?_)
      ·simp only [lgA,lgZ,lgS]
       go_simp
       refine (proveQ (P.wob ga gc) (Ky:=C.K) z1 H1 (hC.y.below (bel_tr hb1 hc1)) hC.zy (by omega) hKK (hT.below (bel_tr hb1 hc1)) (EH.below (bel_tr hb1 hc1)).s (EH.below (bel_tr hb1 hc1)).b).mono ?_
       rintro e z2 ⟨hk,hh⟩
       have hc2:=bel_tr hc1 hk
       obtain ⟨f,c,n,k,d,m,l,rfl,R2⟩:∃ f c n k d m l,e = .returned (.tuple #[.agg #[.bool f,.slice c n k,.slice d m l],.nilIface])∧GR z2 z1.heap.size f c n k d m l (pv P.bare C.Y) 2097160:=by
        rcases hh with ⟨hn,_⟩ | ⟨_,hno,_⟩ | ⟨_,_,f,c,n,k,d,m,l,h1,h2⟩
        ·exact absurd HX.out hn
        ·exact absurd (wob_ok.2 HO.out) hno
        ·exact ⟨f,c,n,k,d,m,l,h1,h2.val (wob_pv _ _ _ _)⟩
       replace R2:=R2.mono (B':=w1.heap.size) hc1.size
       dsimp only
       refine hK _ _ ⟨fun _=>HBX _ hc2,fun _=>trivial⟩ ?_
       clear hK K hk hh H1
       refine wpAnyG.tT 5 (v:=.tuple #[.agg #[.bool f,.slice c n k,.slice d m l],.nilIface]) (by decide) 10 (by as_aux_lemma=>kernel_rfl) (by rfl) ?y5 (HBX _ hc2) ?_
       case y5 =>
        rintro w' ⟨q0,q1,q2,q3,q4,q5,q6,q7⟩
        simp only [lgA,lgZ,lgS]
        go_simp
       simp only [lgA,lgZ,lgS,Act.put,lsA,lsZ,lsS]
       refine wpAnyG.tT 6 (v:=.agg #[.bool f,.slice c n k,.slice d m l]) (by decide) 10 (by as_aux_lemma=>kernel_rfl) (by rfl) ?y6 (HBX _ hc2) ?_
       case y6 =>
        rintro w' ⟨q0,q1,q2,q3,q4,q5,q6,q7⟩
        simp only [lgA,lgZ,lgS]
        go_simp
       simp only [lgA,lgZ,lgS,Act.put,lsA,lsZ,lsS]
       refine wpAnyG.tT 7 (v:=.nilIface) (by decide) 10 (by as_aux_lemma=>kernel_rfl) (by rfl) ?y7 (HBX _ hc2) ?_
       case y7 =>
        rintro w' ⟨q0,q1,q2,q3,q4,q5,q6,q7⟩
        simp only [lgA,lgZ,lgS]
        go_simp
       simp only [lgA,lgZ,lgS,Act.put,lsA,lsZ,lsS]
       refine wpAnyG.one 8 (by as_aux_lemma=>kernel_rfl) (by decide) (by rfl) (fun K hK=>?_)
       simp only [lgA,lgZ,lgS]
       go_simp
       replace R2:=R2.gx (R:=z2.heap.size) (.inr (Nat.le_refl _))
       have hx:=bel_d0 z2 (.cells #[.bool false,.slice none 0 0,.slice none 0 0] 28)
       have VA3:=var3_new z2 (.bool false) (.slice none 0 0) (.slice none 0 0) 28
       have hc3:=bel_tr hc2 hx
       have hR0:w1.heap.size≤z2.heap.size:=hc2.size
       have hRz3:z2.heap.size < (z2.alloc (.cells #[.bool false,.slice none 0 0,.slice none 0 0] 28)).heap.size:=by simp
       have R3:=R2.below hx
       refine hK _ _ ⟨fun _=>HBX _ hc3,fun _=>trivial⟩ ?_
       clear hK K hx
       generalize z2.alloc (.cells #[.bool false,.slice none 0 0,.slice none 0 0] 28) = z3 at *
       refine wpAnyG.one 9 (by as_aux_lemma=>kernel_rfl) (by decide) (by rfl) (fun K hK=>?_)
       obtain ⟨x0,x1,x2,x3,x4,x5⟩:=id VA3
       simp only [lgA,lgZ,lgS]
       go_simp
       obtain ⟨VN,O⟩:=VA3.set (.bool f) (.slice c n k) (.slice d m l)
       refine hK _ _ ⟨fun _=>HBX _ (hc3.trans (O.below hR0)),fun _=>trivial⟩ ?_
       clear hK K
       refine wpAnyG.one 10 (by as_aux_lemma=>kernel_rfl) (by decide) (by rfl) (fun K hK=>?_)
       simp only [lgA,lgZ,lgS]
       go_simp
       refine hK _ _ ⟨fun h=>absurd h (by decide),fun _=>trivial⟩ ?_
       clear hK K
       refine wpAnyG.done (by as_aux_lemma=>kernel_rfl) (NoPanic.normal ?_)
       exact ⟨rfl,_,_,_,_,_,_,_,z2.heap.size,f,c,n,k,d,m,l,rfl,VN,(R3.off O).1,hR0,hc3.trans (O.below hR0)⟩
      ·simp only [lgA,lgZ,lgS]
       go_simp
       have hx:=bel_d0 z1 (.cells #[.bool false,.slice none 0 0,.slice none 0 0] 28)
       have VA2:=var3_new z1 (.bool false) (.slice none 0 0) (.slice none 0 0) 28
       have hc2:=bel_tr hc1 hx
       have hR0:w1.heap.size≤z1.heap.size:=hc1.size
       have hRz2:z1.heap.size < (z1.alloc (.cells #[.bool false,.slice none 0 0,.slice none 0 0] 28)).heap.size:=by simp
       have H2:=H1.below hx
       refine hK _ _ ⟨fun _=>HBX _ hc2,fun _=>trivial⟩ ?_
       clear hK K hx
       generalize z1.alloc (.cells #[.bool false,.slice none 0 0,.slice none 0 0] 28) = z2 at *
       refine wpAnyG.one 4 (by as_aux_lemma=>kernel_rfl) (by decide) (by rfl) (fun K hK=>?_)
       simp only [lgA,lgZ,lgS]
       go_simp
       refine (proveQ (P.wob ga gc) (Ky:=C.K) z2 H2 (hC.y.below (bel_tr hb1 hc2)) hC.zy (by omega) hKK (hT.below (bel_tr hb1 hc2)) (EH.below (bel_tr hb1 hc2)).s (EH.below (bel_tr hb1 hc2)).b).mono ?_
       rintro e z3 ⟨hk,hh⟩
       have hc3:=bel_tr hc2 hk
       obtain ⟨f,c,n,k,d,m,l,rfl,R3⟩:∃ f c n k d m l,e = .returned (.tuple #[.agg #[.bool f,.slice c n k,.slice d m l],.nilIface])∧GR z3 z2.heap.size f c n k d m l (pv P.bare C.Y) 2097160:=by
        rcases hh with ⟨hn,_⟩ | ⟨_,hno,_⟩ | ⟨_,_,f,c,n,k,d,m,l,h1,h2⟩
        ·exact absurd HX.out hn
        ·exact absurd (wob_ok.2 HO.out) hno
        ·exact ⟨f,c,n,k,d,m,l,h1,h2.val (wob_pv _ _ _ _)⟩
       replace R3:=(R3.gx (R:=z1.heap.size) (.inl hRz2)).mono (B':=w1.heap.size) hc2.size
       have VA3:=VA2.below hk
       have hRz3:=Nat.lt_of_lt_of_le hRz2 hk.size
       dsimp only
       refine hK _ _ ⟨fun _=>HBX _ hc3,fun _=>trivial⟩ ?_
       clear hK K hk hh H2
       refine wpAnyG.tT 5 (v:=.tuple #[.agg #[.bool f,.slice c n k,.slice d m l],.nilIface]) (by decide) 10 (by as_aux_lemma=>kernel_rfl) (by rfl) ?y5 (HBX _ hc3) ?_
       case y5 =>
        rintro w' ⟨q0,q1,q2,q3,q4,q5,q6,q7⟩
        simp only [lgA,lgZ,lgS]
        go_simp
       simp only [lgA,lgZ,lgS,Act.put,lsA,lsZ,lsS]
       refine wpAnyG.tT 6 (v:=.agg #[.bool f,.slice c n k,.slice d m l]) (by decide) 10 (by as_aux_lemma=>kernel_rfl) (by rfl) ?y6 (HBX _ hc3) ?_
       case y6 =>
        rintro w' ⟨q0,q1,q2,q3,q4,q5,q6,q7⟩
        simp only [lgA,lgZ,lgS]
        go_simp
       simp only [lgA,lgZ,lgS,Act.put,lsA,lsZ,lsS]
       refine wpAnyG.tT 7 (v:=.nilIface) (by decide) 10 (by as_aux_lemma=>kernel_rfl) (by rfl) ?y7 (HBX _ hc3) ?_
       case y7 =>
        rintro w' ⟨q0,q1,q2,q3,q4,q5,q6,q7⟩
        simp only [lgA,lgZ,lgS]
        go_simp
       simp only [lgA,lgZ,lgS,Act.put,lsA,lsZ,lsS]
       refine wpAnyG.one 9 (by as_aux_lemma=>kernel_rfl) (by decide) (by rfl) (fun K hK=>?_)
       obtain ⟨x0,x1,x2,x3,x4,x5⟩:=id VA3
       simp only [lgA,lgZ,lgS]
       go_simp
       obtain ⟨VN,O⟩:=VA3.set (.bool f) (.slice c n k) (.slice d m l)
       refine hK _ _ ⟨fun _=>HBX _ (hc3.trans (O.below hR0)),fun _=>trivial⟩ ?_
       clear hK K
       refine wpAnyG.one 10 (by as_aux_lemma=>kernel_rfl) (by decide) (by rfl) (fun K hK=>?_)
       simp only [lgA,lgZ,lgS]
       go_simp
       refine hK _ _ ⟨fun h=>absurd h (by decide),fun _=>trivial⟩ ?_
       clear hK K
       refine wpAnyG.done (by as_aux_lemma=>kernel_rfl) (NoPanic.normal ?_)
       exact ⟨rfl,_,_,_,_,_,_,_,z1.heap.size,f,c,n,k,d,m,l,rfl,VN,(R3.off O).1,hR0,hc3.trans (O.below hR0)⟩
     ·simp only [lgA,lgZ,lgS]
      go_simp
      have hx:=bel_d0 z0 (.cells #[.bool false,.slice none 0 0,.slice none 0 0] 28)
      have VA1:=var3_new z0 (.bool false) (.slice none 0 0) (.slice none 0 0) 28
      have hc1:=bel_tr hc0 hx
      have hR0:w1.heap.size≤z0.heap.size:=hc0.size
      have hRz1:z0.heap.size < (z0.alloc (.cells #[.bool false,.slice none 0 0,.slice none 0 0] 28)).heap.size:=by simp
      refine hK _ _ ⟨fun _=>HBX _ hc1,fun _=>trivial⟩ ?_
      clear hK K hx
      generalize z0.alloc (.cells #[.bool false,.slice none 0 0,.slice none 0 0] 28) = z1 at *
      refine wpAnyG.one 1 (by as_aux_lemma=>kernel_rfl) (by decide) (by rfl) (fun K hK=>?_)
      simp only [lgA,lgZ,lgS]
      go_simp
      refine (wobQ P z1 (hP.below (bel_tr hb1 hc1)) (by omega)).mono ?_
      rintro e z2 ⟨ga,gc,rfl,H2,hk⟩
      have hc2:=bel_tr hc1 hk
      have VA2:=VA1.below hk
      have hRz2:=Nat.lt_of_lt_of_le hRz1 hk.size
      dsimp only
      refine hK _ _ ⟨fun _=>HBX _ hc2,fun _=>trivial⟩ ?_
      clear hK K hk
      refine wpAnyG.one 4 (by as_aux_lemma=>kernel_rfl) (by decide) (by rfl) (fun K hK=>?_)
      simp only [lgA,lgZ,lgS]
      go_simp
      refine (proveQ (P.wob ga gc) (Ky:=C.K) z2 H2 (hC.y.below (bel_tr hb1 hc2)) hC.zy (by omega) hKK (hT.below (bel_tr hb1 hc2)) (EH.below (bel_tr hb1 hc2)).s (EH.below (bel_tr hb1 hc2)).b).mono ?_
      rintro e z3 ⟨hk,hh⟩
      have hc3:=bel_tr hc2 hk
      obtain ⟨f,c,n,k,d,m,l,rfl,R3⟩:∃ f c n k d m l,e = .returned (.tuple #[.agg #[.bool f,.slice c n k,.slice d m l],.nilIface])∧GR z3 z2.heap.size f c n k d m l (pv P.bare C.Y) 2097160:=by
       rcases hh with ⟨hn,_⟩ | ⟨_,hno,_⟩ | ⟨_,_,f,c,n,k,d,m,l,h1,h2⟩
       ·exact absurd HX.out hn
       ·exact absurd (wob_ok.2 HO.out) hno
       ·exact ⟨f,c,n,k,d,m,l,h1,h2.val (wob_pv _ _ _ _)⟩
      replace R3:=(R3.gx (R:=z0.heap.size) (.inl hRz2)).mono (B':=w1.heap.size) hc2.size
      have VA3:=VA2.below hk
      have hRz3:=Nat.lt_of_lt_of_le hRz2 hk.size
      dsimp only
      refine hK _ _ ⟨fun _=>HBX _ hc3,fun _=>trivial⟩ ?_
      clear hK K hk hh H2
      refine wpAnyG.tT 5 (v:=.tuple #[.agg #[.bool f,.slice c n k,.slice d m l],.nilIface]) (by decide) 10 (by as_aux_lemma=>kernel_rfl) (by rfl) ?y5 (HBX _ hc3) ?_
      case y5 =>
       rintro w' ⟨q0,q1,q2,q3,q4,q5,q6,q7⟩
       simp only [lgA,lgZ,lgS]
       go_simp
      simp only [lgA,lgZ,lgS,Act.put,lsA,lsZ,lsS]
      refine wpAnyG.tT 6 (v:=.agg #[.bool f,.slice c n k,.slice d m l]) (by decide) 10 (by as_aux_lemma=>kernel_rfl) (by rfl) ?y6 (HBX _ hc3) ?_
      case y6 =>
       rintro w' ⟨q0,q1,q2,q3,q4,q5,q6,q7⟩
       simp only [lgA,lgZ,lgS]
       go_simp
      simp only [lgA,lgZ,lgS,Act.put,lsA,lsZ,lsS]
      refine wpAnyG.tT 7 (v:=.nilIface) (by decide) 10 (by as_aux_lemma=>kernel_rfl) (by rfl) ?y7 (HBX _ hc3) ?_
      case y7 =>
       rintro w' ⟨q0,q1,q2,q3,q4,q5,q6,q7⟩
       simp only [lgA,lgZ,lgS]
       go_simp
      simp only [lgA,lgZ,lgS,Act.put,lsA,lsZ,lsS]
      refine wpAnyG.one 9 (by as_aux_lemma=>kernel_rfl) (by decide) (by rfl) (fun K hK=>?_)
      obtain ⟨x0,x1,x2,x3,x4,x5⟩:=id VA3
      simp only [lgA,lgZ,lgS]
      go_simp
      obtain ⟨VN,O⟩:=VA3.set (.bool f) (.slice c n k) (.slice d m l)
      refine hK _ _ ⟨fun _=>HBX _ (hc3.trans (O.below hR0)),fun _=>trivial⟩ ?_
      clear hK K
      refine wpAnyG.one 10 (by as_aux_lemma=>kernel_rfl) (by decide) (by rfl) (fun K hK=>?_)
      simp only [lgA,lgZ,lgS]
      go_simp
      refine hK _ _ ⟨fun h=>absurd h (by decide),fun _=>trivial⟩ ?_
      clear hK K
      refine wpAnyG.done (by as_aux_lemma=>kernel_rfl) (NoPanic.normal ?_)
      exact ⟨rfl,_,_,_,_,_,_,_,z0.heap.size,f,c,n,k,d,m,l,rfl,VN,(R3.off O).1,hR0,hc3.trans (O.below hR0)⟩
    rintro a' w2 ⟨u1,u2,u3,u4,u5,u6,u7,RW,f,c,n,k,d,m,l,rfl,V2,G2,hRW,hx⟩
    simp only [Act.put,List.setIfInBounds_toArray,List.set_cons_zero,List.set_cons_succ]
    have hb2:=bel_tr hb1 hx
    obtain ⟨v0,v1,v2,_,_,_⟩:=id V2
    clear HBX hx Pb Cb hb1
    go_wp2_with fail
    clear v0 v1 v2
    rcases (show pv P.bare C.Y = 0∨0 < pv P.bare C.Y∨pv P.bare C.Y < 0 by grind) with hm0 | hm0 | hm0
    ·refine (rsignB (0) w2 G2.tr (by omega) (by omega) (sgn_nil hm0)).mono ?_
     rintro e w3 ⟨rfl,h3⟩
     have hw:=bel_tr hb2 h3
     have E3:=EH.below hw
     have HM:Hid (¬ 0 < pv P.bare C.Y):=by show ¬ 0 < _;grind
     clear h3 hb2 G2 V2 hm0
     have g0:=E3.b.1
     go_wp2
     go_ret
     exact ⟨hw,.inr ⟨HX.out,.inr ⟨HNC.out,.inl ⟨fun h=>HM.out h.2,rfl⟩⟩⟩⟩
    ·refine (rsignB (1) w2 G2.tr (by omega) (by omega) (sgn_pos hm0)).mono ?_
     rintro e w3 ⟨rfl,h3⟩
     have hw:=bel_tr hb2 h3
     have E3:=EH.below hw
     have HM:Hid (0 < pv P.bare C.Y):=by show 0 < _;grind
     clear h3 hb2 G2 V2 hm0
     have g0:=E3.b.1
     go_wp2
     go_ret
     exact ⟨hw,.inr ⟨HX.out,.inr ⟨HNC.out,.inr ⟨HO.out,HM.out,rfl⟩⟩⟩⟩
    ·refine (rsignB (-1) w2 G2.tr (by omega) (by omega) (sgn_neg hm0)).mono ?_
     rintro e w3 ⟨rfl,h3⟩
     have hw:=bel_tr hb2 h3
     have E3:=EH.below hw
     have HM:Hid (¬ 0 < pv P.bare C.Y):=by show ¬ 0 < _;grind
     clear h3 hb2 G2 V2 hm0
     have g0:=E3.b.1
     go_wp2
     go_ret
     exact ⟨hw,.inr ⟨HX.out,.inr ⟨HNC.out,.inl ⟨fun h=>HM.out h.2,rfl⟩⟩⟩⟩
   ·have HO:Hid (¬ okp P.bare C.Y):=hok
    clear hok
    go_wp2_with fail
    have HBX:∀ w',Below w1.heap.size w1 w'→(w'.cell? ⟨w.heap.size,0,none⟩ = some (.bool P.mx)∧w'.cell? ⟨w.heap.size,1,none⟩ = some (.string P.nm)∧w'.cell? ⟨w.heap.size,2,none⟩ = some (.bool P.p)∧w'.cell? ⟨w.heap.size,3,none⟩ = some (.slice P.a P.na P.ca)∧w'.cell? ⟨w.heap.size,4,none⟩ = some (.slice P.d P.nd P.cd)∧w'.cell? ⟨w.heap.size,5,none⟩ = some (.slice P.va P.vn P.vc)∧w'.cell? ⟨w.heap.size,6,none⟩ = some (.slice P.ra P.rn P.rc)∧w'.cell? ⟨w.heap.size + 1,5,none⟩ = some (.slice C.ya C.yn C.yc)):=fun w' h=>⟨(Pb.below h) 0 _ rfl,(Pb.below h) 1 _ rfl,(Pb.below h) 2 _ rfl,(Pb.below h) 3 _ rfl,(Pb.below h) 4 _ rfl,(Pb.below h) 5 _ rfl,(Pb.below h) 6 _ rfl,(Cb.below h) 5 _ rfl⟩
    refine wp_cutM (fun a0 a' w'=>∃ (u1 u2 u3 u4 u5 u6 u7:Value) (RW:Nat),a' = ((((((((((a0.put (some 18) u1).put (some 19) u2).put (some 20) u3).put (some 21) u4).put (some 22) u5).put (some 17) u6).put (some 23) u7).put (some 24) (.iface 131 (.pointer (some pB)))).put (some 5) (.pointer (some ⟨RW,0,none⟩))).put (some 6) (.iface 131 (.pointer (some pB))))∧Var3 w' RW (.bool false) (.slice none 0 0) (.slice none 0 0)∧w1.heap.size≤RW∧Below w1.heap.size w1 w') ?_ ?_
    ·refine wp_region_noPanic (wp_region_guardT 10 HBX (by as_aux_lemma=>kernel_rfl) ?_)
     have hc0:Below w1.heap.size w1 w1.drew:=bel_d1 _
     generalize w1.drew = z0 at *
     refine wpAnyG.tT 0 (v:=.agg #[.bool P.mx,.string P.nm,.bool P.p,.slice P.a P.na P.ca,.slice P.d P.nd P.cd,.slice P.va P.vn P.vc,.slice P.ra P.rn P.rc]) (by decide) 10 (by as_aux_lemma=>kernel_rfl) (by rfl) ?y0 (HBX _ hc0) ?_
     case y0 =>
      rintro w' ⟨q0,q1,q2,q3,q4,q5,q6,q7⟩
      simp only [lgA,lgZ]
      go_simp
     simp only [lgA,lgZ,Act.put,lsA,lsZ,lsS]
     refine wpAnyG.tT 2 (v:=.pointer (some ⟨w.heap.size + 1,5,none⟩)) (by decide) 10 (by as_aux_lemma=>kernel_rfl) (by rfl) ?y2 (HBX _ hc0) ?_
     case y2 =>
      rintro w' ⟨q0,q1,q2,q3,q4,q5,q6,q7⟩
      simp only [lgA,lgZ,lgS]
      go_simp
     simp only [lgA,lgZ,lgS,Act.put,lsA,lsZ,lsS]
     refine wpAnyG.tT 3 (v:=.slice C.ya C.yn C.yc) (by decide) 10 (by as_aux_lemma=>kernel_rfl) (by rfl) ?y3 (HBX _ hc0) ?_
     case y3 =>
      rintro w' ⟨q0,q1,q2,q3,q4,q5,q6,q7⟩
      simp only [lgA,lgZ,lgS]
      go_simp
     simp only [lgA,lgZ,lgS,Act.put,lsA,lsZ,lsS]
     refine wpAnyG.two 1 8 (by as_aux_lemma=>kernel_rfl) (by decide) (by decide) (by rfl) (by rfl) (fun K hK=>?_) (fun K hK=>?_)
     ·simp only [lgA,lgZ,lgS]
      go_simp
      refine (wobQ P z0 (hP.below (bel_tr hb1 hc0)) (by omega)).mono ?_
      rintro e z1 ⟨ga,gc,rfl,H1,hk⟩
      have hc1:=bel_tr hc0 hk
      dsimp only
      refine hK _ _ ⟨fun _=>HBX _ hc1,fun _=>trivial⟩ ?_
      clear hK K hk
      refine wpAnyG.two 4 8 (by as_aux_lemma=>kernel_rfl) (by decide) (by decide) (by rfl) (by rfl) (fun K hK=>?_) (fun K hK=>?_)
      ·simp only [lgA,lgZ,lgS]
       go_simp
       refine (proveQ (P.wob ga gc) (Ky:=C.K) z1 H1 (hC.y.below (bel_tr hb1 hc1)) hC.zy (by omega) hKK (hT.below (bel_tr hb1 hc1)) (EH.below (bel_tr hb1 hc1)).s (EH.below (bel_tr hb1 hc1)).b).mono ?_
       rintro e z2 ⟨hk,hh⟩
       have hc2:=bel_tr hc1 hk
       obtain rfl:e = .returned (.tuple #[.agg #[.bool false,.slice none 0 0,.slice none 0 0],.iface 131 (.pointer (some pB))]):=by
        rcases hh with ⟨hn,_⟩ | ⟨_,_,h⟩ | ⟨_,hok,_⟩
        ·exact absurd HX.out hn
        ·exact h
        ·exact absurd (wob_ok.1 hok) HO.out
       dsimp only
       refine hK _ _ ⟨fun _=>HBX _ hc2,fun _=>trivial⟩ ?_
       clear hK K hk hh H1
       refine wpAnyG.tT 5 (v:=.tuple #[.agg #[.bool false,.slice none 0 0,.slice none 0 0],.iface 131 (.pointer (some pB))]) (by decide) 10 (by as_aux_lemma=>kernel_rfl) (by rfl) ?y5 (HBX _ hc2) ?_
       case y5 =>
        rintro w' ⟨q0,q1,q2,q3,q4,q5,q6,q7⟩
        simp only [lgA,lgZ,lgS]
        go_simp
       simp only [lgA,lgZ,lgS,Act.put,lsA,lsZ,lsS]
       refine wpAnyG.tT 6 (v:=.agg #[.bool false,.slice none 0 0,.slice none 0 0]) (by decide) 10 (by as_aux_lemma=>kernel_rfl) (by rfl) ?y6 (HBX _ hc2) ?_
       case y6 =>
        rintro w' ⟨q0,q1,q2,q3,q4,q5,q6,q7⟩
        simp only [lgA,lgZ,lgS]
        go_simp
       simp only [lgA,lgZ,lgS,Act.put,lsA,lsZ,lsS]
       refine wpAnyG.tT 7 (v:=.iface 131 (.pointer (some pB))) (by decide) 10 (by as_aux_lemma=>kernel_rfl) (by rfl) ?y7 (HBX _ hc2) ?_
       case y7 =>
        rintro w' ⟨q0,q1,q2,q3,q4,q5,q6,q7⟩
        simp only [lgA,lgZ,lgS]
        go_simp
       simp only [lgA,lgZ,lgS,Act.put,lsA,lsZ,lsS]
       refine wpAnyG.one 8 (by as_aux_lemma=>kernel_rfl) (by decide) (by rfl) (fun K hK=>?_)
       simp only [lgA,lgZ,lgS]
       go_simp
       have hx:=bel_d0 z2 (.cells #[.bool false,.slice none 0 0,.slice none 0 0] 28)
       have VA3:=var3_new z2 (.bool false) (.slice none 0 0) (.slice none 0 0) 28
       have hc3:=bel_tr hc2 hx
       have hR0:w1.heap.size≤z2.heap.size:=hc2.size
       have hRz3:z2.heap.size < (z2.alloc (.cells #[.bool false,.slice none 0 0,.slice none 0 0] 28)).heap.size:=by simp
       refine hK _ _ ⟨fun _=>HBX _ hc3,fun _=>trivial⟩ ?_
       clear hK K hx
       generalize z2.alloc (.cells #[.bool false,.slice none 0 0,.slice none 0 0] 28) = z3 at *
       refine wpAnyG.one 9 (by as_aux_lemma=>kernel_rfl) (by decide) (by rfl) (fun K hK=>?_)
       obtain ⟨x0,x1,x2,x3,x4,x5⟩:=id VA3
       simp only [lgA,lgZ,lgS]
       go_simp
       obtain ⟨VN,O⟩:=VA3.set (.bool false) (.slice none 0 0) (.slice none 0 0)
       refine hK _ _ ⟨fun _=>HBX _ (hc3.trans (O.below hR0)),fun _=>trivial⟩ ?_
       clear hK K
       refine wpAnyG.one 10 (by as_aux_lemma=>kernel_rfl) (by decide) (by rfl) (fun K hK=>?_)
       simp only [lgA,lgZ,lgS]
       go_simp
       refine hK _ _ ⟨fun h=>absurd h (by decide),fun _=>trivial⟩ ?_
       clear hK K
       refine wpAnyG.done (by as_aux_lemma=>kernel_rfl) (NoPanic.normal ?_)
       exact ⟨rfl,_,_,_,_,_,_,_,z2.heap.size,rfl,VN,hR0,hc3.trans (O.below hR0)⟩
      ·simp only [lgA,lgZ,lgS]
       go_simp
       have hx:=bel_d0 z1 (.cells #[.bool false,.slice none 0 0,.slice none 0 0] 28)
       have VA2:=var3_new z1 (.bool false) (.slice none 0 0) (.slice none 0 0) 28
       have hc2:=bel_tr hc1 hx
       have hR0:w1.heap.size≤z1.heap.size:=hc1.size
       have hRz2:z1.heap.size < (z1.alloc (.cells #[.bool false,.slice none 0 0,.slice none 0 0] 28)).heap.size:=by simp
       have H2:=H1.below hx
       refine hK _ _ ⟨fun _=>HBX _ hc2,fun _=>trivial⟩ ?_
       clear hK K hx
       generalize z1.alloc (.cells #[.bool false,.slice none 0 0,.slice none 0 0] 28) = z2 at *
       refine wpAnyG.one 4 (by as_aux_lemma=>kernel_rfl) (by decide) (by rfl) (fun K hK=>?_)
       simp only [lgA,lgZ,lgS]
       go_simp
       refine (proveQ (P.wob ga gc) (Ky:=C.K) z2 H2 (hC.y.below (bel_tr hb1 hc2)) hC.zy (by omega) hKK (hT.below (bel_tr hb1 hc2)) (EH.below (bel_tr hb1 hc2)).s (EH.below (bel_tr hb1 hc2)).b).mono ?_
       rintro e z3 ⟨hk,hh⟩
       have hc3:=bel_tr hc2 hk
       obtain rfl:e = .returned (.tuple #[.agg #[.bool false,.slice none 0 0,.slice none 0 0],.iface 131 (.pointer (some pB))]):=by
        rcases hh with ⟨hn,_⟩ | ⟨_,_,h⟩ | ⟨_,hok,_⟩
        ·exact absurd HX.out hn
        ·exact h
        ·exact absurd (wob_ok.1 hok) HO.out
       have VA3:=VA2.below hk
       have hRz3:=Nat.lt_of_lt_of_le hRz2 hk.size
       dsimp only
       refine hK _ _ ⟨fun _=>HBX _ hc3,fun _=>trivial⟩ ?_
       clear hK K hk hh H2
       refine wpAnyG.tT 5 (v:=.tuple #[.agg #[.bool false,.slice none 0 0,.slice none 0 0],.iface 131 (.pointer (some pB))]) (by decide) 10 (by as_aux_lemma=>kernel_rfl) (by rfl) ?y5 (HBX _ hc3) ?_
       case y5 =>
        rintro w' ⟨q0,q1,q2,q3,q4,q5,q6,q7⟩
        simp only [lgA,lgZ,lgS]
        go_simp
       simp only [lgA,lgZ,lgS,Act.put,lsA,lsZ,lsS]
       refine wpAnyG.tT 6 (v:=.agg #[.bool false,.slice none 0 0,.slice none 0 0]) (by decide) 10 (by as_aux_lemma=>kernel_rfl) (by rfl) ?y6 (HBX _ hc3) ?_
       case y6 =>
        rintro w' ⟨q0,q1,q2,q3,q4,q5,q6,q7⟩
        simp only [lgA,lgZ,lgS]
        go_simp
       simp only [lgA,lgZ,lgS,Act.put,lsA,lsZ,lsS]
       refine wpAnyG.tT 7 (v:=.iface 131 (.pointer (some pB))) (by decide) 10 (by as_aux_lemma=>kernel_rfl) (by rfl) ?y7 (HBX _ hc3) ?_
       case y7 =>
        rintro w' ⟨q0,q1,q2,q3,q4,q5,q6,q7⟩
        simp only [lgA,lgZ,lgS]
        go_simp
       simp only [lgA,lgZ,lgS,Act.put,lsA,lsZ,lsS]
       refine wpAnyG.one 9 (by as_aux_lemma=>kernel_rfl) (by decide) (by rfl) (fun K hK=>?_)
       obtain ⟨x0,x1,x2,x3,x4,x5⟩:=id VA3
       simp only [lgA,lgZ,lgS]
       go_simp
       obtain ⟨VN,O⟩:=VA3.set (.bool false) (.slice none 0 0) (.slice none 0 0)
       refine hK _ _ ⟨fun _=>HBX _ (hc3.trans (O.below hR0)),fun _=>trivial⟩ ?_
       clear hK K
       refine wpAnyG.one 10 (by as_aux_lemma=>kernel_rfl) (by decide) (by rfl) (fun K hK=>?_)
       simp only [lgA,lgZ,lgS]
       go_simp
       refine hK _ _ ⟨fun h=>absurd h (by decide),fun _=>trivial⟩ ?_
       clear hK K
       refine wpAnyG.done (by as_aux_lemma=>kernel_rfl) (NoPanic.normal ?_)
       exact ⟨rfl,_,_,_,_,_,_,_,z1.heap.size,rfl,VN,hR0,hc3.trans (O.below hR0)⟩
     ·simp only [lgA,lgZ,lgS]
      go_simp
      have hx:=bel_d0 z0 (.cells #[.bool false,.slice none 0 0,.slice none 0 0] 28)
      have VA1:=var3_new z0 (.bool false) (.slice none 0 0) (.slice none 0 0) 28
      have hc1:=bel_tr hc0 hx
      have hR0:w1.heap.size≤z0.heap.size:=hc0.size
      have hRz1:z0.heap.size < (z0.alloc (.cells #[.bool false,.slice none 0 0,.slice none 0 0] 28)).heap.size:=by simp
      refine hK _ _ ⟨fun _=>HBX _ hc1,fun _=>trivial⟩ ?_
      clear hK K hx
      generalize z0.alloc (.cells #[.bool false,.slice none 0 0,.slice none 0 0] 28) = z1 at *
      refine wpAnyG.one 1 (by as_aux_lemma=>kernel_rfl) (by decide) (by rfl) (fun K hK=>?_)
      simp only [lgA,lgZ,lgS]
      go_simp
      refine (wobQ P z1 (hP.below (bel_tr hb1 hc1)) (by omega)).mono ?_
      rintro e z2 ⟨ga,gc,rfl,H2,hk⟩
      have hc2:=bel_tr hc1 hk
      have VA2:=VA1.below hk
      have hRz2:=Nat.lt_of_lt_of_le hRz1 hk.size
      dsimp only
      refine hK _ _ ⟨fun _=>HBX _ hc2,fun _=>trivial⟩ ?_
      clear hK K hk
      refine wpAnyG.one 4 (by as_aux_lemma=>kernel_rfl) (by decide) (by rfl) (fun K hK=>?_)
      simp only [lgA,lgZ,lgS]
      go_simp
      refine (proveQ (P.wob ga gc) (Ky:=C.K) z2 H2 (hC.y.below (bel_tr hb1 hc2)) hC.zy (by omega) hKK (hT.below (bel_tr hb1 hc2)) (EH.below (bel_tr hb1 hc2)).s (EH.below (bel_tr hb1 hc2)).b).mono ?_
      rintro e z3 ⟨hk,hh⟩
      have hc3:=bel_tr hc2 hk
      obtain rfl:e = .returned (.tuple #[.agg #[.bool false,.slice none 0 0,.slice none 0 0],.iface 131 (.pointer (some pB))]):=by
       rcases hh with ⟨hn,_⟩ | ⟨_,_,h⟩ | ⟨_,hok,_⟩
       ·exact absurd HX.out hn
       ·exact h
       ·exact absurd (wob_ok.1 hok) HO.out
      have VA3:=VA2.below hk
      have hRz3:=Nat.lt_of_lt_of_le hRz2 hk.size
      dsimp only
      refine hK _ _ ⟨fun _=>HBX _ hc3,fun _=>trivial⟩ ?_
      clear hK K hk hh H2
      refine wpAnyG.tT 5 (v:=.tuple #[.agg #[.bool false,.slice none 0 0,.slice none 0 0],.iface 131 (.pointer (some pB))]) (by decide) 10 (by as_aux_lemma=>kernel_rfl) (by rfl) ?y5 (HBX _ hc3) ?_
      case y5 =>
       rintro w' ⟨q0,q1,q2,q3,q4,q5,q6,q7⟩
       simp only [lgA,lgZ,lgS]
       go_simp
      simp only [lgA,lgZ,lgS,Act.put,lsA,lsZ,lsS]
      refine wpAnyG.tT 6 (v:=.agg #[.bool false,.slice none 0 0,.slice none 0 0]) (by decide) 10 (by as_aux_lemma=>kernel_rfl) (by rfl) ?y6 (HBX _ hc3) ?_
      case y6 =>
       rintro w' ⟨q0,q1,q2,q3,q4,q5,q6,q7⟩
       simp only [lgA,lgZ,lgS]
       go_simp
      simp only [lgA,lgZ,lgS,Act.put,lsA,lsZ,lsS]
      refine wpAnyG.tT 7 (v:=.iface 131 (.pointer (some pB))) (by decide) 10 (by as_aux_lemma=>kernel_rfl) (by rfl) ?y7 (HBX _ hc3) ?_
      case y7 =>
       rintro w' ⟨q0,q1,q2,q3,q4,q5,q6,q7⟩
       simp only [lgA,lgZ,lgS]
       go_simp
      simp only [lgA,lgZ,lgS,Act.put,lsA,lsZ,lsS]
      refine wpAnyG.one 9 (by as_aux_lemma=>kernel_rfl) (by decide) (by rfl) (fun K hK=>?_)
      obtain ⟨x0,x1,x2,x3,x4,x5⟩:=id VA3
      simp only [lgA,lgZ,lgS]
      go_simp
      obtain ⟨VN,O⟩:=VA3.set (.bool false) (.slice none 0 0) (.slice none 0 0)
      refine hK _ _ ⟨fun _=>HBX _ (hc3.trans (O.below hR0)),fun _=>trivial⟩ ?_
      clear hK K
      refine wpAnyG.one 10 (by as_aux_lemma=>kernel_rfl) (by decide) (by rfl) (fun K hK=>?_)
      simp only [lgA,lgZ,lgS]
      go_simp
      refine hK _ _ ⟨fun h=>absurd h (by decide),fun _=>trivial⟩ ?_
      clear hK K
      refine wpAnyG.done (by as_aux_lemma=>kernel_rfl) (NoPanic.normal ?_)
      exact ⟨rfl,_,_,_,_,_,_,_,z0.heap.size,rfl,VN,hR0,hc3.trans (O.below hR0)⟩
    rintro a' w2 ⟨u1,u2,u3,u4,u5,u6,u7,RW,rfl,V2,hRW,hx⟩
    simp only [Act.put,List.setIfInBounds_toArray,List.set_cons_zero,List.set_cons_succ]
    have hw:=bel_tr hb1 hx
    clear HBX hx Pb Cb hb1 V2
    go_wp2
    go_ret
    exact ⟨hw,.inr ⟨HX.out,.inr ⟨HNC.out,.inl ⟨fun h=>HO.out h.1,rfl⟩⟩⟩⟩
  ·go_wp2
   go_ret
   exact ⟨hb1,.inr ⟨HX.out,.inl ⟨HC.out.1 (by first | rfl | trivial),rfl⟩⟩⟩
 ·have hyI:¬ ((C.yn:Int) = (P.rn:Int)):=by omega
  have hyB:((C.yn:Int) == (P.rn:Int)) = false:=by simpa using hyI
  obtain ⟨ec,pp,rfl⟩:=E0.s
  have HY:Hid (¬ C.yn = P.rn):=hy
  clear hy
  go_wp2
  go_ret
  exact ⟨hb0,.inl ⟨HY.out,rfl⟩⟩
end Go.Proofs.YtjapbhdoemfgkaaGreatDoor

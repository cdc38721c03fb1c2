import Derived.Test.YtjapbhdoemfgkaaGreatDoorPvFAll
import Derived.Test.YtjapbhdoemfgkaaGreatDoorQ3OAll
import Derived.Test.YtjapbhdoemfgkaaGreatDoorGuardS
import Derived.Test.YtjapbhdoemfgkaaGreatDoorLaid3
namespace Go.Proofs.YtjapbhdoemfgkaaGreatDoor
open Go.RowKit
theorem wp_cutK {P:Program} {c:Code} {Q:Exit→Act→World→Prop} {a:Act} {w:World} (J:Act→Act→World→Prop) (h1:c.wp P (fun e a' w'=>e = .normal∧J a a' w') a w) (h2:∀ a' w',J a a' w'→Q .normal a' w'):c.wp P Q a w :=
 Code.wp_mono (fun e a' w' h=>by obtain ⟨rfl,h⟩:=h;exact h2 a' w' h) h1
theorem lq_one {w:World} {p:Bool} {a:Option Addr} {na ca:Nat} {d:Option Addr} {nd cd:Nat} {r:Rat} {S:Nat} (h:TR w p a na ca d nd cd r S):LQ (w.alloc (.cells #[.bool p,.slice a na ca,.slice d nd cd] 28)) (some ⟨w.heap.size,0,none⟩) 1 (fun _=>r) (fun _=>S):=by
 have hb:=bel_d0 w (.cells #[.bool p,.slice a na ca,.slice d nd cd] 28)
 obtain ⟨c0,c1,c2,_,_,_⟩:=var3_new w (.bool p) (.slice a na ca) (.slice d nd cd) 28
 refine .inr ⟨_,0,rfl,fun i hi=>?_⟩
 obtain rfl:i = 0:=by omega
 exact ⟨p,a,na,ca,d,nd,cd,c0,c1,c2,h.below hb⟩
theorem eqS14 (w:World) (a:Addr):(binOp .eql 42 (.iface 131 (.pointer (some a))) (.iface 131 (.pointer (some a)))).run Tryz.prog w = .ok (.bool true) w:=by
 obtain ⟨i,hi,hcmp⟩:=Option.map_eq_some_iff.1 Tryz.errComp3
 obtain ⟨j,hj,hsz⟩:=Option.map_eq_some_iff.1 Tryz.errSize3
 exact run_eql_iface_ptr_same (P:=Tryz.prog) w a Tryz.underlying42 Tryz.underlying131 hi hcmp hj
theorem lq_two {w:World} {p:Bool} {a:Option Addr} {na ca:Nat} {d:Option Addr} {nd cd:Nat} {p':Bool} {a':Option Addr} {na' ca':Nat} {d':Option Addr} {nd' cd':Nat} {X:Nat→Rat} {S:Nat} (h:TR w p a na ca d nd cd (X 0) S) (h':TR w p' a' na' ca' d' nd' cd' (X 1) S) :
  LQ (w.alloc (.cells #[.bool p,.slice a na ca,.slice d nd cd,.bool p',.slice a' na' ca',.slice d' nd' cd'] 28)) (some ⟨w.heap.size,0,none⟩) 2 X (fun _=>S):=by
 have hb:=bel_d0 w (.cells #[.bool p,.slice a na ca,.slice d nd cd,.bool p',.slice a' na' ca',.slice d' nd' cd'] 28)
 have Bx:=box_new w #[.bool p,.slice a na ca,.slice d nd cd,.bool p',.slice a' na' ca',.slice d' nd' cd'] 28
 refine .inr ⟨_,0,rfl,fun i hi=>?_⟩
 match i,hi with
 | 0,_=>exact ⟨p,a,na,ca,d,nd,cd,Bx 0 _ rfl,Bx 1 _ rfl,Bx 2 _ rfl,h.below hb⟩
 | 1,_=>exact ⟨p',a',na',ca',d',nd',cd',Bx 3 _ rfl,Bx 4 _ rfl,Bx 5 _ rfl,h'.below hb⟩
theorem set_mid {w:World} {R:Nat} {t:TypeId} {v0 v1 v2 v3 v4 v5 v6 a b c:Value} (h:Rw t w R #[v0,v1,v2,v3,v4,v5,v6]) :
  BoxC (((w.setCell ⟨R,1,none⟩ a).setCell ⟨R,2,none⟩ b).setCell ⟨R,3,none⟩ c) R [v0,a,b,c,v4,v5,v6]∧Off R w (((w.setCell ⟨R,1,none⟩ a).setCell ⟨R,2,none⟩ b).setCell ⟨R,3,none⟩ c):=by
 have y1:=(h.cell 1).trans (show _ = some v1 from rfl)
 have y2:=(h.cell 2).trans (show _ = some v2 from rfl)
 have y3:=(h.cell 3).trans (show _ = some v3 from rfl)
 refine ⟨fun i u hu=>?_,(((Off.refl _ _).set 1 _).set 2 _).set 3 _⟩
 match i,hu with
 | 0,hu=>simp at hu;subst hu;rw [World.cell?_setCell_other _ _ _ _ (by simp),World.cell?_setCell_other _ _ _ _ (by simp),World.cell?_setCell_other _ _ _ _ (by simp)];exact (h.cell 0).trans rfl
 | 1,hu=>simp at hu;subst hu;rw [World.cell?_setCell_other _ _ _ _ (by simp),World.cell?_setCell_other _ _ _ _ (by simp),World.cell?_setCell_same _ _ _ y1]
 | 2,hu=>simp at hu;subst hu;rw [World.cell?_setCell_other _ _ _ _ (by simp),World.cell?_setCell_same _ _ _ ((World.cell?_setCell_other _ _ _ _ (by simp)).trans y2)]
 | 3,hu=>simp at hu;subst hu;rw [World.cell?_setCell_same _ _ _ ((World.cell?_setCell_other _ _ _ _ (by simp)).trans ((World.cell?_setCell_other _ _ _ _ (by simp)).trans y3))]
 | 4,hu=>simp at hu;subst hu;rw [World.cell?_setCell_other _ _ _ _ (by simp),World.cell?_setCell_other _ _ _ _ (by simp),World.cell?_setCell_other _ _ _ _ (by simp)];exact (h.cell 4).trans rfl
 | 5,hu=>simp at hu;subst hu;rw [World.cell?_setCell_other _ _ _ _ (by simp),World.cell?_setCell_other _ _ _ _ (by simp),World.cell?_setCell_other _ _ _ _ (by simp)];exact (h.cell 5).trans rfl
 | 6,hu=>simp at hu;subst hu;rw [World.cell?_setCell_other _ _ _ _ (by simp),World.cell?_setCell_other _ _ _ _ (by simp),World.cell?_setCell_other _ _ _ _ (by simp)];exact (h.cell 6).trans rfl
 | n + 7,hu=>simp at hu
def exC (v:Rat) (p:Bool) (a:Option Addr) (na ca:Nat) (d:Option Addr) (nd cd:Nat) (xa ya:Option Addr):Crt :=
 { vd:=1,p:=p,a:=a,na:=na,ca:=ca,d:=d,nd:=nd,cd:=cd,xa:=xa,xn:=2,xc:=2,ya:=ya,yn:=1,yc:=1,za:=none,zn:=0,zc:=0,v:=v,X:=exX,Y:=fun _=>((3:Int):Rat),Z:=fun _=>0,ZX:=fun _=>1,ZY:=fun _=>1,ZZ:=fun _=>1,S:=1,K:=10 }
theorem exC_q {w:World} {v:Rat} {p:Bool} {a:Option Addr} {na ca:Nat} {d:Option Addr} {nd cd:Nat} {xa ya:Option Addr} (h:TR w p a na ca d nd cd v 1) (hv:SzR v 1) (hx:LQ w xa 2 exX (fun _=>1)) (hy:LQ w ya 1 (fun _=>((3:Int):Rat)) (fun _=>1)):CQ w (exC v p a na ca d nd cd xa ya) :=
 ⟨h,Nat.le_refl _,hv,hx,fun i _=>⟨Nat.le_refl _,by show SzR (if i = 0 then ((3:Int):Rat) else ((1:Int):Rat)) 1;split;exact szw 3 (by decide);exact szw 1 (by decide)⟩,hy,fun i _=>⟨Nat.le_refl _,szw 3 (by decide)⟩,.inl rfl,fun i hi=>absurd hi (Nat.not_lt_zero _),Nat.le_of_ble_eq_true rfl,Nat.le_refl _,Nat.le_refl _⟩
def exN:Crt:={ vd:=4,p:=false,a:=none,na:=0,ca:=0,d:=none,nd:=0,cd:=0,xa:=none,xn:=0,xc:=0,ya:=none,yn:=0,yc:=0,za:=none,zn:=0,zc:=0,v:=0,X:=fun _=>0,Y:=fun _=>0,Z:=fun _=>0,ZX:=fun _=>1,ZY:=fun _=>1,ZZ:=fun _=>1,S:=1,K:=4 }
set_option maxRecDepth 100000 in
set_option maxHeartbeats 32000000 in
theorem awake14 (w:World) (hT:TB w) {eS eP eV eB eR eD:Value} (EH:EE w eS eP eV eB eR eD):Calls Tryz.prog 4 #[] w fun e w'=>e = .returned (.bool true)∧Below w.heap.size w w':=by
 obtain ⟨_,pB,rfl⟩:=EH.b
 obtain ⟨_,pV,rfl⟩:=EH.v
 obtain ⟨_,pD,rfl⟩:=EH.d
 go_enter Tryz.func4,Tryz.ntmps4
 go_wp2_with fail
 refine (exampleQ w).mono ?_
 rintro e w1 ⟨p,a,na,ca,d,nd,cd,va,ra,rfl,hP,hx⟩
 obtain ⟨P,hPe⟩:∃ P,P = exP p a na ca d nd cd va ra:=⟨_,rfl⟩
 rw [← hPe] at hP ⊢
 have HM:Hid (P.rn = 1∧okS P (fun _=>((3:Int):Rat))∧pvS P (fun _=>((3:Int):Rat)) = ((10:Int):Rat)∧¬ okS P (fun _=>((4:Int):Rat))):=by rw [hPe];exact ⟨rfl,ex_ok3 _ _ _ _ _ _ _ _ _,ex_pv3 _ _ _ _ _ _ _ _ _,ex_no4 _ _ _ _ _ _ _ _ _⟩
 have HM2:Hid (P.vn = 2∧Hlds P 2 exX∧vlu P exX = ((10:Int):Rat)):=by rw [hPe];exact ⟨rfl,ex_holds _ _ _ _ _ _ _ _ _,ex_vlu _ _ _ _ _ _ _ _ _⟩
 have hK:P.K = 13:=by rw [hPe];rfl
 clear hPe
 have hb0:=bel_tr hx (bel_d0 w1 (.cells #[.bool P.mx,.string P.nm,.bool P.p,.slice P.a P.na P.ca,.slice P.d P.nd P.cd,.slice P.va P.vn P.vc,.slice P.ra P.rn P.rc] 32))
 have Pb:=box_new w1 #[.bool P.mx,.string P.nm,.bool P.p,.slice P.a P.na P.ca,.slice P.d P.nd P.cd,.slice P.va P.vn P.vc,.slice P.ra P.rn P.rc] 32
 have hz:=bel_d0 w1 (.cells #[.bool P.mx,.string P.nm,.bool P.p,.slice P.a P.na P.ca,.slice P.d P.nd P.cd,.slice P.va P.vn P.vc,.slice P.ra P.rn P.rc] 32)
 replace hP:=hP.below hz
 have hs1:w1.heap.size≤(w1.alloc (.cells #[.bool P.mx,.string P.nm,.bool P.p,.slice P.a P.na P.ca,.slice P.d P.nd P.cd,.slice P.va P.vn P.vc,.slice P.ra P.rn P.rc] 32)).heap.size:=by simp
 unfold Prob.val
 go_wp2_with fail
 generalize w1.alloc (.cells #[.bool P.mx,.string P.nm,.bool P.p,.slice P.a P.na P.ca,.slice P.d P.nd P.cd,.slice P.va P.vn P.vc,.slice P.ra P.rn P.rc] 32) = U at *
 replace hT:=hT.below hb0
 replace EH:=EH.below hb0
 clear hx hz
 have HBX:∀ w',Below U.heap.size U w'→(w'.cell? ⟨w1.heap.size,0,none⟩ = some (.bool P.mx)∧w'.cell? ⟨w1.heap.size,1,none⟩ = some (.string P.nm)∧w'.cell? ⟨w1.heap.size,2,none⟩ = some (.bool P.p)∧w'.cell? ⟨w1.heap.size,3,none⟩ = some (.slice P.a P.na P.ca)∧w'.cell? ⟨w1.heap.size,4,none⟩ = some (.slice P.d P.nd P.cd)∧w'.cell? ⟨w1.heap.size,5,none⟩ = some (.slice P.va P.vn P.vc)∧w'.cell? ⟨w1.heap.size,6,none⟩ = some (.slice P.ra P.rn P.rc)):=fun w' h=>⟨(Pb.below h) 0 _ rfl,(Pb.below h) 1 _ rfl,(Pb.below h) 2 _ rfl,(Pb.below h) 3 _ rfl,(Pb.below h) 4 _ rfl,(Pb.below h) 5 _ rfl,(Pb.below h) 6 _ rfl⟩
 refine wp_cutK (fun a0 a' w'=>∃ (u1 u2 u3 u4 u5 u6:Value) (RW:Nat) (f:Bool) (c:Option Addr) (n k:Nat) (d:Option Addr) (m l:Nat),a' = (((((((((a0.put (some 13) u1).put (some 14) u2).put (some 15) u3).put (some 16) u4).put (some 12) u5).put (some 17) u6).put (some 18) (.nilIface)).put (some 2) (.pointer (some ⟨RW,0,none⟩))).put (some 3) (.nilIface))∧Var3 w' RW (.bool f) (.slice c n k) (.slice d m l)∧GR w' U.heap.size f c n k d m l ((10:Int):Rat) 2097160∧U.heap.size≤RW∧Below U.heap.size U w') ?_ ?_
 ·refine wp_region_noPanic (wp_region_guardT 9 HBX (by as_aux_lemma=>kernel_rfl) ?_)
  have hc0:Below U.heap.size U U.drew:=bel_d1 _
  generalize U.drew = z0 at *
  refine wpAnyG.tT 0 (v:=.agg #[.bool P.mx,.string P.nm,.bool P.p,.slice P.a P.na P.ca,.slice P.d P.nd P.cd,.slice P.va P.vn P.vc,.slice P.ra P.rn P.rc]) (by decide) 9 (by as_aux_lemma=>kernel_rfl) (by rfl) ?y0 (HBX _ hc0) ?_
  case y0 =>
   rintro w' ⟨q0,q1,q2,q3,q4,q5,q6⟩
   simp only [lgA,lgZ]
   go_simp
  simp only [lgA,lgZ,Act.put,lsA,lsZ,lsS]
  refine wpAnyG.two 1 7 (by as_aux_lemma=>kernel_rfl) (by decide) (by decide) (by rfl) (by rfl) (fun K hK=>?_) (fun K hK=>?_)
  ·simp only [lgA,lgZ,lgS]
   go_simp
   refine (nQ14 3 z0 (by decide) (by decide)).mono ?_
   rintro e z1 ⟨f1,c1,n1,k1,d1,m1,l1,rfl,G1,hk⟩
   have hc1:=bel_tr hc0 hk
   dsimp only
   refine hK _ _ ⟨fun _=>HBX _ hc1,fun _=>trivial⟩ ?_
   clear hK K hk
   refine wpAnyG.two 2 7 (by as_aux_lemma=>kernel_rfl) (by decide) (by decide) (by rfl) (by rfl) (fun K hK=>?_) (fun K hK=>?_)
   ·simp only [lgA,lgZ,lgS]
    go_simp
    have hx:=bel_d0 z1 (.cells #[.bool f1,.slice c1 n1 k1,.slice d1 m1 l1] 28)
    have L2:=lq_one G1.tr
    have hc2:=bel_tr hc1 hx
    refine hK _ _ ⟨fun _=>HBX _ hc2,fun _=>trivial⟩ ?_
    clear hK K hx G1
    generalize z1.alloc (.cells #[.bool f1,.slice c1 n1 k1,.slice d1 m1 l1] 28) = z2 at *
    refine wpAnyG.two 3 7 (by as_aux_lemma=>kernel_rfl) (by decide) (by decide) (by rfl) (by rfl) (fun K hK=>?_) (fun K hK=>?_)
    ·simp only [lgA,lgZ,lgS]
     go_simp
     refine (proveQ P (Ky:=3) z2 (hP.below hc2) L2 (fun i hi=>⟨Nat.le_refl _,szw 3 (by decide)⟩) (by decide) (by omega) (hT.below hc2) (EH.below hc2).s (EH.below hc2).b).mono ?_
     rintro e z3 ⟨hk,hh⟩
     have hc3:=bel_tr hc2 hk
     obtain ⟨f,c,n,k,d,m,l,rfl,R3⟩:∃ f c n k d m l,e = .returned (.tuple #[.agg #[.bool f,.slice c n k,.slice d m l],.nilIface])∧GR z3 z2.heap.size f c n k d m l ((10:Int):Rat) 2097160:=by
      rcases hh with ⟨hn,_⟩ | ⟨_,hno,_⟩ | ⟨_,_,f,c,n,k,d,m,l,h1,h2⟩
      ·exact absurd HM.out.1.symm hn
      ·exact absurd HM.out.2.1 hno
      ·exact ⟨f,c,n,k,d,m,l,h1,h2.val HM.out.2.2.1⟩
     replace R3:=R3.mono (B':=U.heap.size) hc2.size
     dsimp only
     refine hK _ _ ⟨fun _=>HBX _ hc3,fun _=>trivial⟩ ?_
     clear hK K hk hh L2
     refine wpAnyG.tT 4 (v:=.tuple #[.agg #[.bool f,.slice c n k,.slice d m l],.nilIface]) (by decide) 9 (by as_aux_lemma=>kernel_rfl) (by rfl) ?y4 (HBX _ hc3) ?_
     case y4 =>
      rintro w' ⟨q0,q1,q2,q3,q4,q5,q6⟩
      simp only [lgA,lgZ,lgS]
      go_simp
     simp only [lgA,lgZ,lgS,Act.put,lsA,lsZ,lsS]
     refine wpAnyG.tT 5 (v:=.agg #[.bool f,.slice c n k,.slice d m l]) (by decide) 9 (by as_aux_lemma=>kernel_rfl) (by rfl) ?y5 (HBX _ hc3) ?_
     case y5 =>
      rintro w' ⟨q0,q1,q2,q3,q4,q5,q6⟩
      simp only [lgA,lgZ,lgS]
      go_simp
     simp only [lgA,lgZ,lgS,Act.put,lsA,lsZ,lsS]
     refine wpAnyG.tT 6 (v:=.nilIface) (by decide) 9 (by as_aux_lemma=>kernel_rfl) (by rfl) ?y6 (HBX _ hc3) ?_
     case y6 =>
      rintro w' ⟨q0,q1,q2,q3,q4,q5,q6⟩
      simp only [lgA,lgZ,lgS]
      go_simp
     simp only [lgA,lgZ,lgS,Act.put,lsA,lsZ,lsS]
     refine wpAnyG.one 7 (by as_aux_lemma=>kernel_rfl) (by decide) (by rfl) (fun K hK=>?_)
     simp only [lgA,lgZ,lgS]
     go_simp
     replace R3:=R3.gx (R:=z3.heap.size) (.inr (Nat.le_refl _))
     have hx:=bel_d0 z3 (.cells #[.bool false,.slice none 0 0,.slice none 0 0] 28)
     have VA4:=var3_new z3 (.bool false) (.slice none 0 0) (.slice none 0 0) 28
     have hc4:=bel_tr hc3 hx
     have hR0:U.heap.size≤z3.heap.size:=hc3.size
     have R4:=R3.below hx
     refine hK _ _ ⟨fun _=>HBX _ hc4,fun _=>trivial⟩ ?_
     clear hK K hx
     generalize z3.alloc (.cells #[.bool false,.slice none 0 0,.slice none 0 0] 28) = z4 at *
     refine wpAnyG.one 8 (by as_aux_lemma=>kernel_rfl) (by decide) (by rfl) (fun K hK=>?_)
     obtain ⟨x0,x1,x2,x3,x4,x5⟩:=id VA4
     simp only [lgA,lgZ,lgS]
     go_simp
     obtain ⟨VN,O⟩:=VA4.set (.bool f) (.slice c n k) (.slice d m l)
     refine hK _ _ ⟨fun _=>HBX _ (hc4.trans (O.below hR0)),fun _=>trivial⟩ ?_
     clear hK K
     refine wpAnyG.one 9 (by as_aux_lemma=>kernel_rfl) (by decide) (by rfl) (fun K hK=>?_)
     simp only [lgA,lgZ,lgS]
     go_simp
     refine hK _ _ ⟨fun h=>absurd h (by decide),fun _=>trivial⟩ ?_
     clear hK K
     refine wpAnyG.done (by as_aux_lemma=>kernel_rfl) (NoPanic.normal ?_)
     exact ⟨rfl,_,_,_,_,_,_,z3.heap.size,f,c,n,k,d,m,l,rfl,VN,(R4.off O).1,hR0,hc4.trans (O.below hR0)⟩
    ·simp only [lgA,lgZ,lgS]
     go_simp
     have hx:=bel_d0 z2 (.cells #[.bool false,.slice none 0 0,.slice none 0 0] 28)
     have VA3:=var3_new z2 (.bool false) (.slice none 0 0) (.slice none 0 0) 28
     have hc3:=bel_tr hc2 hx
     have hR0:U.heap.size≤z2.heap.size:=hc2.size
     have hRz3:z2.heap.size < (z2.alloc (.cells #[.bool false,.slice none 0 0,.slice none 0 0] 28)).heap.size:=by simp
     have L3:=L2.below hx
     refine hK _ _ ⟨fun _=>HBX _ hc3,fun _=>trivial⟩ ?_
     clear hK K hx
     generalize z2.alloc (.cells #[.bool false,.slice none 0 0,.slice none 0 0] 28) = z3 at *
     refine wpAnyG.one 3 (by as_aux_lemma=>kernel_rfl) (by decide) (by rfl) (fun K hK=>?_)
     simp only [lgA,lgZ,lgS]
     go_simp
     refine (proveQ P (Ky:=3) z3 (hP.below hc3) L3 (fun i hi=>⟨Nat.le_refl _,szw 3 (by decide)⟩) (by decide) (by omega) (hT.below hc3) (EH.below hc3).s (EH.below hc3).b).mono ?_
     rintro e z4 ⟨hk,hh⟩
     have hc4:=bel_tr hc3 hk
     obtain ⟨f,c,n,k,d,m,l,rfl,R4⟩:∃ f c n k d m l,e = .returned (.tuple #[.agg #[.bool f,.slice c n k,.slice d m l],.nilIface])∧GR z4 z3.heap.size f c n k d m l ((10:Int):Rat) 2097160:=by
      rcases hh with ⟨hn,_⟩ | ⟨_,hno,_⟩ | ⟨_,_,f,c,n,k,d,m,l,h1,h2⟩
      ·exact absurd HM.out.1.symm hn
      ·exact absurd HM.out.2.1 hno
      ·exact ⟨f,c,n,k,d,m,l,h1,h2.val HM.out.2.2.1⟩
     replace R4:=(R4.gx (R:=z2.heap.size) (.inl hRz3)).mono (B':=U.heap.size) hc3.size
     have VA4:=VA3.below hk
     have hRz4:=Nat.lt_of_lt_of_le hRz3 hk.size
     dsimp only
     refine hK _ _ ⟨fun _=>HBX _ hc4,fun _=>trivial⟩ ?_
     clear hK K hk hh L3
     refine wpAnyG.tT 4 (v:=.tuple #[.agg #[.bool f,.slice c n k,.slice d m l],.nilIface]) (by decide) 9 (by as_aux_lemma=>kernel_rfl) (by rfl) ?y4 (HBX _ hc4) ?_
     case y4 =>
      rintro w' ⟨q0,q1,q2,q3,q4,q5,q6⟩
      simp only [lgA,lgZ,lgS]
      go_simp
     simp only [lgA,lgZ,lgS,Act.put,lsA,lsZ,lsS]
     refine wpAnyG.tT 5 (v:=.agg #[.bool f,.slice c n k,.slice d m l]) (by decide) 9 (by as_aux_lemma=>kernel_rfl) (by rfl) ?y5 (HBX _ hc4) ?_
     case y5 =>
      rintro w' ⟨q0,q1,q2,q3,q4,q5,q6⟩
      simp only [lgA,lgZ,lgS]
      go_simp
     simp only [lgA,lgZ,lgS,Act.put,lsA,lsZ,lsS]
     refine wpAnyG.tT 6 (v:=.nilIface) (by decide) 9 (by as_aux_lemma=>kernel_rfl) (by rfl) ?y6 (HBX _ hc4) ?_
     case y6 =>
      rintro w' ⟨q0,q1,q2,q3,q4,q5,q6⟩
      simp only [lgA,lgZ,lgS]
      go_simp
     simp only [lgA,lgZ,lgS,Act.put,lsA,lsZ,lsS]
     refine wpAnyG.one 8 (by as_aux_lemma=>kernel_rfl) (by decide) (by rfl) (fun K hK=>?_)
     obtain ⟨x0,x1,x2,x3,x4,x5⟩:=id VA4
     simp only [lgA,lgZ,lgS]
     go_simp
     obtain ⟨VN,O⟩:=VA4.set (.bool f) (.slice c n k) (.slice d m l)
     refine hK _ _ ⟨fun _=>HBX _ (hc4.trans (O.below hR0)),fun _=>trivial⟩ ?_
     clear hK K
     refine wpAnyG.one 9 (by as_aux_lemma=>kernel_rfl) (by decide) (by rfl) (fun K hK=>?_)
     simp only [lgA,lgZ,lgS]
     go_simp
     refine hK _ _ ⟨fun h=>absurd h (by decide),fun _=>trivial⟩ ?_
     clear hK K
     refine wpAnyG.done (by as_aux_lemma=>kernel_rfl) (NoPanic.normal ?_)
     exact ⟨rfl,_,_,_,_,_,_,z2.heap.size,f,c,n,k,d,m,l,rfl,VN,(R4.off O).1,hR0,hc4.trans (O.below hR0)⟩
   ·simp only [lgA,lgZ,lgS]
    go_simp
    have hx:=bel_d0 z1 (.cells #[.bool false,.slice none 0 0,.slice none 0 0] 28)
    have VA2:=var3_new z1 (.bool false) (.slice none 0 0) (.slice none 0 0) 28
    have hc2:=bel_tr hc1 hx
    have hR0:U.heap.size≤z1.heap.size:=hc1.size
    have hRz2:z1.heap.size < (z1.alloc (.cells #[.bool false,.slice none 0 0,.slice none 0 0] 28)).heap.size:=by simp
    have G2:=G1.below hx
    refine hK _ _ ⟨fun _=>HBX _ hc2,fun _=>trivial⟩ ?_
    clear hK K hx
    generalize z1.alloc (.cells #[.bool false,.slice none 0 0,.slice none 0 0] 28) = z2 at *
    refine wpAnyG.one 2 (by as_aux_lemma=>kernel_rfl) (by decide) (by rfl) (fun K hK=>?_)
    simp only [lgA,lgZ,lgS]
    go_simp
    have hx:=bel_d0 z2 (.cells #[.bool f1,.slice c1 n1 k1,.slice d1 m1 l1] 28)
    have L3:=lq_one G2.tr
    have hc3:=bel_tr hc2 hx
    have VA3:=VA2.below hx
    have hRz3:=Nat.lt_of_lt_of_le hRz2 hx.size
    refine hK _ _ ⟨fun _=>HBX _ hc3,fun _=>trivial⟩ ?_
    clear hK K hx G2
    generalize z2.alloc (.cells #[.bool f1,.slice c1 n1 k1,.slice d1 m1 l1] 28) = z3 at *
    refine wpAnyG.one 3 (by as_aux_lemma=>kernel_rfl) (by decide) (by rfl) (fun K hK=>?_)
    simp only [lgA,lgZ,lgS]
    go_simp
    refine (proveQ P (Ky:=3) z3 (hP.below hc3) L3 (fun i hi=>⟨Nat.le_refl _,szw 3 (by decide)⟩) (by decide) (by omega) (hT.below hc3) (EH.below hc3).s (EH.below hc3).b).mono ?_
    rintro e z4 ⟨hk,hh⟩
    have hc4:=bel_tr hc3 hk
    obtain ⟨f,c,n,k,d,m,l,rfl,R4⟩:∃ f c n k d m l,e = .returned (.tuple #[.agg #[.bool f,.slice c n k,.slice d m l],.nilIface])∧GR z4 z3.heap.size f c n k d m l ((10:Int):Rat) 2097160:=by
     rcases hh with ⟨hn,_⟩ | ⟨_,hno,_⟩ | ⟨_,_,f,c,n,k,d,m,l,h1,h2⟩
     ·exact absurd HM.out.1.symm hn
     ·exact absurd HM.out.2.1 hno
     ·exact ⟨f,c,n,k,d,m,l,h1,h2.val HM.out.2.2.1⟩
    replace R4:=(R4.gx (R:=z1.heap.size) (.inl hRz3)).mono (B':=U.heap.size) hc3.size
    have VA4:=VA3.below hk
    have hRz4:=Nat.lt_of_lt_of_le hRz3 hk.size
    dsimp only
    refine hK _ _ ⟨fun _=>HBX _ hc4,fun _=>trivial⟩ ?_
    clear hK K hk hh L3
    refine wpAnyG.tT 4 (v:=.tuple #[.agg #[.bool f,.slice c n k,.slice d m l],.nilIface]) (by decide) 9 (by as_aux_lemma=>kernel_rfl) (by rfl) ?y4 (HBX _ hc4) ?_
    case y4 =>
     rintro w' ⟨q0,q1,q2,q3,q4,q5,q6⟩
     simp only [lgA,lgZ,lgS]
     go_simp
    simp only [lgA,lgZ,lgS,Act.put,lsA,lsZ,lsS]
    refine wpAnyG.tT 5 (v:=.agg #[.bool f,.slice c n k,.slice d m l]) (by decide) 9 (by as_aux_lemma=>kernel_rfl) (by rfl) ?y5 (HBX _ hc4) ?_
    case y5 =>
     rintro w' ⟨q0,q1,q2,q3,q4,q5,q6⟩
     simp only [lgA,lgZ,lgS]
     go_simp
    simp only [lgA,lgZ,lgS,Act.put,lsA,lsZ,lsS]
    refine wpAnyG.tT 6 (v:=.nilIface) (by decide) 9 (by as_aux_lemma=>kernel_rfl) (by rfl) ?y6 (HBX _ hc4) ?_
    case y6 =>
     rintro w' ⟨q0,q1,q2,q3,q4,q5,q6⟩
     simp only [lgA,lgZ,lgS]
     go_simp
    simp only [lgA,lgZ,lgS,Act.put,lsA,lsZ,lsS]
    refine wpAnyG.one 8 (by as_aux_lemma=>kernel_rfl) (by decide) (by rfl) (fun K hK=>?_)
    obtain ⟨x0,x1,x2,x3,x4,x5⟩:=id VA4
    simp only [lgA,lgZ,lgS]
    go_simp
    obtain ⟨VN,O⟩:=VA4.set (.bool f) (.slice c n k) (.slice d m l)
    refine hK _ _ ⟨fun _=>HBX _ (hc4.trans (O.below hR0)),fun _=>trivial⟩ ?_
    clear hK K
    refine wpAnyG.one 9 (by as_aux_lemma=>kernel_rfl) (by decide) (by rfl) (fun K hK=>?_)
    simp only [lgA,lgZ,lgS]
    go_simp
    refine hK _ _ ⟨fun h=>absurd h (by decide),fun _=>trivial⟩ ?_
    clear hK K
    refine wpAnyG.done (by as_aux_lemma=>kernel_rfl) (NoPanic.normal ?_)
    exact ⟨rfl,_,_,_,_,_,_,z1.heap.size,f,c,n,k,d,m,l,rfl,VN,(R4.off O).1,hR0,hc4.trans (O.below hR0)⟩
  ·simp only [lgA,lgZ,lgS]
   go_simp
   have hx:=bel_d0 z0 (.cells #[.bool false,.slice none 0 0,.slice none 0 0] 28)
   have VA1:=var3_new z0 (.bool false) (.slice none 0 0) (.slice none 0 0) 28
   have hc1:=bel_tr hc0 hx
   have hR0:U.heap.size≤z0.heap.size:=hc0.size
   have hRz1:z0.heap.size < (z0.alloc (.cells #[.bool false,.slice none 0 0,.slice none 0 0] 28)).heap.size:=by simp
   refine hK _ _ ⟨fun _=>HBX _ hc1,fun _=>trivial⟩ ?_
   clear hK K hx
   generalize z0.alloc (.cells #[.bool false,.slice none 0 0,.slice none 0 0] 28) = z1 at *
   refine wpAnyG.one 1 (by as_aux_lemma=>kernel_rfl) (by decide) (by rfl) (fun K hK=>?_)
   simp only [lgA,lgZ,lgS]
   go_simp
   refine (nQ14 3 z1 (by decide) (by decide)).mono ?_
   rintro e z2 ⟨f1,c1,n1,k1,d1,m1,l1,rfl,G2,hk⟩
   have hc2:=bel_tr hc1 hk
   have VA2:=VA1.below hk
   have hRz2:=Nat.lt_of_lt_of_le hRz1 hk.size
   dsimp only
   refine hK _ _ ⟨fun _=>HBX _ hc2,fun _=>trivial⟩ ?_
   clear hK K hk
   refine wpAnyG.one 2 (by as_aux_lemma=>kernel_rfl) (by decide) (by rfl) (fun K hK=>?_)
   simp only [lgA,lgZ,lgS]
   go_simp
   have hx:=bel_d0 z2 (.cells #[.bool f1,.slice c1 n1 k1,.slice d1 m1 l1] 28)
   have L3:=lq_one G2.tr
   have hc3:=bel_tr hc2 hx
   have VA3:=VA2.below hx
   have hRz3:=Nat.lt_of_lt_of_le hRz2 hx.size
   refine hK _ _ ⟨fun _=>HBX _ hc3,fun _=>trivial⟩ ?_
   clear hK K hx G2
   generalize z2.alloc (.cells #[.bool f1,.slice c1 n1 k1,.slice d1 m1 l1] 28) = z3 at *
   refine wpAnyG.one 3 (by as_aux_lemma=>kernel_rfl) (by decide) (by rfl) (fun K hK=>?_)
   simp only [lgA,lgZ,lgS]
   go_simp
   refine (proveQ P (Ky:=3) z3 (hP.below hc3) L3 (fun i hi=>⟨Nat.le_refl _,szw 3 (by decide)⟩) (by decide) (by omega) (hT.below hc3) (EH.below hc3).s (EH.below hc3).b).mono ?_
   rintro e z4 ⟨hk,hh⟩
   have hc4:=bel_tr hc3 hk
   obtain ⟨f,c,n,k,d,m,l,rfl,R4⟩:∃ f c n k d m l,e = .returned (.tuple #[.agg #[.bool f,.slice c n k,.slice d m l],.nilIface])∧GR z4 z3.heap.size f c n k d m l ((10:Int):Rat) 2097160:=by
    rcases hh with ⟨hn,_⟩ | ⟨_,hno,_⟩ | ⟨_,_,f,c,n,k,d,m,l,h1,h2⟩
    ·exact absurd HM.out.1.symm hn
    ·exact absurd HM.out.2.1 hno
    ·exact ⟨f,c,n,k,d,m,l,h1,h2.val HM.out.2.2.1⟩
   replace R4:=(R4.gx (R:=z0.heap.size) (.inl hRz3)).mono (B':=U.heap.size) hc3.size
   have VA4:=VA3.below hk
   have hRz4:=Nat.lt_of_lt_of_le hRz3 hk.size
   dsimp only
   refine hK _ _ ⟨fun _=>HBX _ hc4,fun _=>trivial⟩ ?_
   clear hK K hk hh L3
   refine wpAnyG.tT 4 (v:=.tuple #[.agg #[.bool f,.slice c n k,.slice d m l],.nilIface]) (by decide) 9 (by as_aux_lemma=>kernel_rfl) (by rfl) ?y4 (HBX _ hc4) ?_
   case y4 =>
    rintro w' ⟨q0,q1,q2,q3,q4,q5,q6⟩
    simp only [lgA,lgZ,lgS]
    go_simp
   simp only [lgA,lgZ,lgS,Act.put,lsA,lsZ,lsS]
   refine wpAnyG.tT 5 (v:=.agg #[.bool f,.slice c n k,.slice d m l]) (by decide) 9 (by as_aux_lemma=>kernel_rfl) (by rfl) ?y5 (HBX _ hc4) ?_
   case y5 =>
    rintro w' ⟨q0,q1,q2,q3,q4,q5,q6⟩
    simp only [lgA,lgZ,lgS]
    go_simp
   simp only [lgA,lgZ,lgS,Act.put,lsA,lsZ,lsS]
   refine wpAnyG.tT 6 (v:=.nilIface) (by decide) 9 (by as_aux_lemma=>kernel_rfl) (by rfl) ?y6 (HBX _ hc4) ?_
   case y6 =>
    rintro w' ⟨q0,q1,q2,q3,q4,q5,q6⟩
    simp only [lgA,lgZ,lgS]
    go_simp
   simp only [lgA,lgZ,lgS,Act.put,lsA,lsZ,lsS]
   refine wpAnyG.one 8 (by as_aux_lemma=>kernel_rfl) (by decide) (by rfl) (fun K hK=>?_)
   obtain ⟨x0,x1,x2,x3,x4,x5⟩:=id VA4
   simp only [lgA,lgZ,lgS]
   go_simp
   obtain ⟨VN,O⟩:=VA4.set (.bool f) (.slice c n k) (.slice d m l)
   refine hK _ _ ⟨fun _=>HBX _ (hc4.trans (O.below hR0)),fun _=>trivial⟩ ?_
   clear hK K
   refine wpAnyG.one 9 (by as_aux_lemma=>kernel_rfl) (by decide) (by rfl) (fun K hK=>?_)
   simp only [lgA,lgZ,lgS]
   go_simp
   refine hK _ _ ⟨fun h=>absurd h (by decide),fun _=>trivial⟩ ?_
   clear hK K
   refine wpAnyG.done (by as_aux_lemma=>kernel_rfl) (NoPanic.normal ?_)
   exact ⟨rfl,_,_,_,_,_,_,z0.heap.size,f,c,n,k,d,m,l,rfl,VN,(R4.off O).1,hR0,hc4.trans (O.below hR0)⟩
 rintro a' w2 ⟨u1,u2,u3,u4,u5,u6,RA,fQ,cQ,nQ,kQ,dQ,mQ,lQ,rfl,VQ,GQ,hRA,hx⟩
 simp only [Act.put,List.setIfInBounds_toArray,List.set_cons_zero,List.set_cons_succ]
 replace hP:=hP.below hx
 replace hT:=hT.below hx
 replace EH:=EH.below hx
 replace Pb:=Pb.below hx
 replace hb0:=bel_tr hb0 hx
 have hs2:=hx.size
 clear HBX hx
 go_wp2_with fail
 have HBX:∀ w',Below w2.heap.size w2 w'→(w'.cell? ⟨w1.heap.size,0,none⟩ = some (.bool P.mx)∧w'.cell? ⟨w1.heap.size,1,none⟩ = some (.string P.nm)∧w'.cell? ⟨w1.heap.size,2,none⟩ = some (.bool P.p)∧w'.cell? ⟨w1.heap.size,3,none⟩ = some (.slice P.a P.na P.ca)∧w'.cell? ⟨w1.heap.size,4,none⟩ = some (.slice P.d P.nd P.cd)∧w'.cell? ⟨w1.heap.size,5,none⟩ = some (.slice P.va P.vn P.vc)∧w'.cell? ⟨w1.heap.size,6,none⟩ = some (.slice P.ra P.rn P.rc)):=fun w' h=>⟨(Pb.below h) 0 _ rfl,(Pb.below h) 1 _ rfl,(Pb.below h) 2 _ rfl,(Pb.below h) 3 _ rfl,(Pb.below h) 4 _ rfl,(Pb.below h) 5 _ rfl,(Pb.below h) 6 _ rfl⟩
 refine wp_cutK (fun a0 a' w'=>∃ (u1 u2 u3 u4 u5 u6:Value) (RW:Nat),a' = (((((((((a0.put (some 20) u1).put (some 21) u2).put (some 22) u3).put (some 23) u4).put (some 19) u5).put (some 24) u6).put (some 25) (.iface 131 (.pointer (some pB)))).put (some 4) (.pointer (some ⟨RW,0,none⟩))).put (some 5) (.iface 131 (.pointer (some pB))))∧Var3 w' RW (.bool false) (.slice none 0 0) (.slice none 0 0)∧w2.heap.size≤RW∧Below w2.heap.size w2 w') ?_ ?_
 ·refine wp_region_noPanic (wp_region_guardT 9 HBX (by as_aux_lemma=>kernel_rfl) ?_)
  have hc0:Below w2.heap.size w2 w2.drew:=bel_d1 _
  generalize w2.drew = z0 at *
  refine wpAnyG.tT 0 (v:=.agg #[.bool P.mx,.string P.nm,.bool P.p,.slice P.a P.na P.ca,.slice P.d P.nd P.cd,.slice P.va P.vn P.vc,.slice P.ra P.rn P.rc]) (by decide) 9 (by as_aux_lemma=>kernel_rfl) (by rfl) ?y0 (HBX _ hc0) ?_
  case y0 =>
   rintro w' ⟨q0,q1,q2,q3,q4,q5,q6⟩
   simp only [lgA,lgZ]
   go_simp
  simp only [lgA,lgZ,Act.put,lsA,lsZ,lsS]
  refine wpAnyG.two 1 7 (by as_aux_lemma=>kernel_rfl) (by decide) (by decide) (by rfl) (by rfl) (fun K hK=>?_) (fun K hK=>?_)
  ·simp only [lgA,lgZ,lgS]
   go_simp
   refine (nQ14 4 z0 (by decide) (by decide)).mono ?_
   rintro e z1 ⟨f1,c1,n1,k1,d1,m1,l1,rfl,G1,hk⟩
   have hc1:=bel_tr hc0 hk
   dsimp only
   refine hK _ _ ⟨fun _=>HBX _ hc1,fun _=>trivial⟩ ?_
   clear hK K hk
   refine wpAnyG.two 2 7 (by as_aux_lemma=>kernel_rfl) (by decide) (by decide) (by rfl) (by rfl) (fun K hK=>?_) (fun K hK=>?_)
   ·simp only [lgA,lgZ,lgS]
    go_simp
    have hx:=bel_d0 z1 (.cells #[.bool f1,.slice c1 n1 k1,.slice d1 m1 l1] 28)
    have L2:=lq_one G1.tr
    have hc2:=bel_tr hc1 hx
    refine hK _ _ ⟨fun _=>HBX _ hc2,fun _=>trivial⟩ ?_
    clear hK K hx G1
    generalize z1.alloc (.cells #[.bool f1,.slice c1 n1 k1,.slice d1 m1 l1] 28) = z2 at *
    refine wpAnyG.two 3 7 (by as_aux_lemma=>kernel_rfl) (by decide) (by decide) (by rfl) (by rfl) (fun K hK=>?_) (fun K hK=>?_)
    ·simp only [lgA,lgZ,lgS]
     go_simp
     refine (proveQ P (Ky:=3) z2 (hP.below hc2) L2 (fun i hi=>⟨Nat.le_refl _,szw 4 (by decide)⟩) (by decide) (by omega) (hT.below hc2) (EH.below hc2).s (EH.below hc2).b).mono ?_
     rintro e z3 ⟨hk,hh⟩
     have hc3:=bel_tr hc2 hk
     obtain rfl:e = .returned (.tuple #[.agg #[.bool false,.slice none 0 0,.slice none 0 0],(.iface 131 (.pointer (some pB)))]):=by
      rcases hh with ⟨hn,_⟩ | ⟨_,_,h⟩ | ⟨_,hok,_⟩
      ·exact absurd HM.out.1.symm hn
      ·exact h
      ·exact absurd hok HM.out.2.2.2
     dsimp only
     refine hK _ _ ⟨fun _=>HBX _ hc3,fun _=>trivial⟩ ?_
     clear hK K hk hh L2
     refine wpAnyG.tT 4 (v:=.tuple #[.agg #[.bool false,.slice none 0 0,.slice none 0 0],(.iface 131 (.pointer (some pB)))]) (by decide) 9 (by as_aux_lemma=>kernel_rfl) (by rfl) ?y4 (HBX _ hc3) ?_
     case y4 =>
      rintro w' ⟨q0,q1,q2,q3,q4,q5,q6⟩
      simp only [lgA,lgZ,lgS]
      go_simp
     simp only [lgA,lgZ,lgS,Act.put,lsA,lsZ,lsS]
     refine wpAnyG.tT 5 (v:=.agg #[.bool false,.slice none 0 0,.slice none 0 0]) (by decide) 9 (by as_aux_lemma=>kernel_rfl) (by rfl) ?y5 (HBX _ hc3) ?_
     case y5 =>
      rintro w' ⟨q0,q1,q2,q3,q4,q5,q6⟩
      simp only [lgA,lgZ,lgS]
      go_simp
     simp only [lgA,lgZ,lgS,Act.put,lsA,lsZ,lsS]
     refine wpAnyG.tT 6 (v:=(.iface 131 (.pointer (some pB)))) (by decide) 9 (by as_aux_lemma=>kernel_rfl) (by rfl) ?y6 (HBX _ hc3) ?_
     case y6 =>
      rintro w' ⟨q0,q1,q2,q3,q4,q5,q6⟩
      simp only [lgA,lgZ,lgS]
      go_simp
     simp only [lgA,lgZ,lgS,Act.put,lsA,lsZ,lsS]
     refine wpAnyG.one 7 (by as_aux_lemma=>kernel_rfl) (by decide) (by rfl) (fun K hK=>?_)
     simp only [lgA,lgZ,lgS]
     go_simp
     have hx:=bel_d0 z3 (.cells #[.bool false,.slice none 0 0,.slice none 0 0] 28)
     have VA4:=var3_new z3 (.bool false) (.slice none 0 0) (.slice none 0 0) 28
     have hc4:=bel_tr hc3 hx
     have hR0:w2.heap.size≤z3.heap.size:=hc3.size
     refine hK _ _ ⟨fun _=>HBX _ hc4,fun _=>trivial⟩ ?_
     clear hK K hx
     generalize z3.alloc (.cells #[.bool false,.slice none 0 0,.slice none 0 0] 28) = z4 at *
     refine wpAnyG.one 8 (by as_aux_lemma=>kernel_rfl) (by decide) (by rfl) (fun K hK=>?_)
     obtain ⟨x0,x1,x2,x3,x4,x5⟩:=id VA4
     simp only [lgA,lgZ,lgS]
     go_simp
     obtain ⟨VN,O⟩:=VA4.set (.bool false) (.slice none 0 0) (.slice none 0 0)
     refine hK _ _ ⟨fun _=>HBX _ (hc4.trans (O.below hR0)),fun _=>trivial⟩ ?_
     clear hK K
     refine wpAnyG.one 9 (by as_aux_lemma=>kernel_rfl) (by decide) (by rfl) (fun K hK=>?_)
     simp only [lgA,lgZ,lgS]
     go_simp
     refine hK _ _ ⟨fun h=>absurd h (by decide),fun _=>trivial⟩ ?_
     clear hK K
     refine wpAnyG.done (by as_aux_lemma=>kernel_rfl) (NoPanic.normal ?_)
     exact ⟨rfl,_,_,_,_,_,_,z3.heap.size,rfl,VN,hR0,hc4.trans (O.below hR0)⟩
    ·simp only [lgA,lgZ,lgS]
     go_simp
     have hx:=bel_d0 z2 (.cells #[.bool false,.slice none 0 0,.slice none 0 0] 28)
     have VA3:=var3_new z2 (.bool false) (.slice none 0 0) (.slice none 0 0) 28
     have hc3:=bel_tr hc2 hx
     have hR0:w2.heap.size≤z2.heap.size:=hc2.size
     have hRz3:z2.heap.size < (z2.alloc (.cells #[.bool false,.slice none 0 0,.slice none 0 0] 28)).heap.size:=by simp
     have L3:=L2.below hx
     refine hK _ _ ⟨fun _=>HBX _ hc3,fun _=>trivial⟩ ?_
     clear hK K hx
     generalize z2.alloc (.cells #[.bool false,.slice none 0 0,.slice none 0 0] 28) = z3 at *
     refine wpAnyG.one 3 (by as_aux_lemma=>kernel_rfl) (by decide) (by rfl) (fun K hK=>?_)
     simp only [lgA,lgZ,lgS]
     go_simp
     refine (proveQ P (Ky:=3) z3 (hP.below hc3) L3 (fun i hi=>⟨Nat.le_refl _,szw 4 (by decide)⟩) (by decide) (by omega) (hT.below hc3) (EH.below hc3).s (EH.below hc3).b).mono ?_
     rintro e z4 ⟨hk,hh⟩
     have hc4:=bel_tr hc3 hk
     obtain rfl:e = .returned (.tuple #[.agg #[.bool false,.slice none 0 0,.slice none 0 0],(.iface 131 (.pointer (some pB)))]):=by
      rcases hh with ⟨hn,_⟩ | ⟨_,_,h⟩ | ⟨_,hok,_⟩
      ·exact absurd HM.out.1.symm hn
      ·exact h
      ·exact absurd hok HM.out.2.2.2
     have VA4:=VA3.below hk
     have hRz4:=Nat.lt_of_lt_of_le hRz3 hk.size
     dsimp only
     refine hK _ _ ⟨fun _=>HBX _ hc4,fun _=>trivial⟩ ?_
     clear hK K hk hh L3
     refine wpAnyG.tT 4 (v:=.tuple #[.agg #[.bool false,.slice none 0 0,.slice none 0 0],(.iface 131 (.pointer (some pB)))]) (by decide) 9 (by as_aux_lemma=>kernel_rfl) (by rfl) ?y4 (HBX _ hc4) ?_
     case y4 =>
      rintro w' ⟨q0,q1,q2,q3,q4,q5,q6⟩
      simp only [lgA,lgZ,lgS]
      go_simp
     simp only [lgA,lgZ,lgS,Act.put,lsA,lsZ,lsS]
     refine wpAnyG.tT 5 (v:=.agg #[.bool false,.slice none 0 0,.slice none 0 0]) (by decide) 9 (by as_aux_lemma=>kernel_rfl) (by rfl) ?y5 (HBX _ hc4) ?_
     case y5 =>
      rintro w' ⟨q0,q1,q2,q3,q4,q5,q6⟩
      simp only [lgA,lgZ,lgS]
      go_simp
     simp only [lgA,lgZ,lgS,Act.put,lsA,lsZ,lsS]
     refine wpAnyG.tT 6 (v:=(.iface 131 (.pointer (some pB)))) (by decide) 9 (by as_aux_lemma=>kernel_rfl) (by rfl) ?y6 (HBX _ hc4) ?_
     case y6 =>
      rintro w' ⟨q0,q1,q2,q3,q4,q5,q6⟩
      simp only [lgA,lgZ,lgS]
      go_simp
     simp only [lgA,lgZ,lgS,Act.put,lsA,lsZ,lsS]
     refine wpAnyG.one 8 (by as_aux_lemma=>kernel_rfl) (by decide) (by rfl) (fun K hK=>?_)
     obtain ⟨x0,x1,x2,x3,x4,x5⟩:=id VA4
     simp only [lgA,lgZ,lgS]
     go_simp
     obtain ⟨VN,O⟩:=VA4.set (.bool false) (.slice none 0 0) (.slice none 0 0)
     refine hK _ _ ⟨fun _=>HBX _ (hc4.trans (O.below hR0)),fun _=>trivial⟩ ?_
     clear hK K
     refine wpAnyG.one 9 (by as_aux_lemma=>kernel_rfl) (by decide) (by rfl) (fun K hK=>?_)
     simp only [lgA,lgZ,lgS]
     go_simp
     refine hK _ _ ⟨fun h=>absurd h (by decide),fun _=>trivial⟩ ?_
     clear hK K
     refine wpAnyG.done (by as_aux_lemma=>kernel_rfl) (NoPanic.normal ?_)
     exact ⟨rfl,_,_,_,_,_,_,z2.heap.size,rfl,VN,hR0,hc4.trans (O.below hR0)⟩
   ·simp only [lgA,lgZ,lgS]
    go_simp
    have hx:=bel_d0 z1 (.cells #[.bool false,.slice none 0 0,.slice none 0 0] 28)
    have VA2:=var3_new z1 (.bool false) (.slice none 0 0) (.slice none 0 0) 28
    have hc2:=bel_tr hc1 hx
    have hR0:w2.heap.size≤z1.heap.size:=hc1.size
    have hRz2:z1.heap.size < (z1.alloc (.cells #[.bool false,.slice none 0 0,.slice none 0 0] 28)).heap.size:=by simp
    have G2:=G1.below hx
    refine hK _ _ ⟨fun _=>HBX _ hc2,fun _=>trivial⟩ ?_
    clear hK K hx
    generalize z1.alloc (.cells #[.bool false,.slice none 0 0,.slice none 0 0] 28) = z2 at *
    refine wpAnyG.one 2 (by as_aux_lemma=>kernel_rfl) (by decide) (by rfl) (fun K hK=>?_)
    simp only [lgA,lgZ,lgS]
    go_simp
    have hx:=bel_d0 z2 (.cells #[.bool f1,.slice c1 n1 k1,.slice d1 m1 l1] 28)
    have L3:=lq_one G2.tr
    have hc3:=bel_tr hc2 hx
    have VA3:=VA2.below hx
    have hRz3:=Nat.lt_of_lt_of_le hRz2 hx.size
    refine hK _ _ ⟨fun _=>HBX _ hc3,fun _=>trivial⟩ ?_
    clear hK K hx G2
    generalize z2.alloc (.cells #[.bool f1,.slice c1 n1 k1,.slice d1 m1 l1] 28) = z3 at *
    refine wpAnyG.one 3 (by as_aux_lemma=>kernel_rfl) (by decide) (by rfl) (fun K hK=>?_)
    simp only [lgA,lgZ,lgS]
    go_simp
    refine (proveQ P (Ky:=3) z3 (hP.below hc3) L3 (fun i hi=>⟨Nat.le_refl _,szw 4 (by decide)⟩) (by decide) (by omega) (hT.below hc3) (EH.below hc3).s (EH.below hc3).b).mono ?_
    rintro e z4 ⟨hk,hh⟩
    have hc4:=bel_tr hc3 hk
    obtain rfl:e = .returned (.tuple #[.agg #[.bool false,.slice none 0 0,.slice none 0 0],(.iface 131 (.pointer (some pB)))]):=by
     rcases hh with ⟨hn,_⟩ | ⟨_,_,h⟩ | ⟨_,hok,_⟩
     ·exact absurd HM.out.1.symm hn
     ·exact h
     ·exact absurd hok HM.out.2.2.2
    have VA4:=VA3.below hk
    have hRz4:=Nat.lt_of_lt_of_le hRz3 hk.size
    dsimp only
    refine hK _ _ ⟨fun _=>HBX _ hc4,fun _=>trivial⟩ ?_
    clear hK K hk hh L3
    refine wpAnyG.tT 4 (v:=.tuple #[.agg #[.bool false,.slice none 0 0,.slice none 0 0],(.iface 131 (.pointer (some pB)))]) (by decide) 9 (by as_aux_lemma=>kernel_rfl) (by rfl) ?y4 (HBX _ hc4) ?_
    case y4 =>
     rintro w' ⟨q0,q1,q2,q3,q4,q5,q6⟩
     simp only [lgA,lgZ,lgS]
     go_simp
    simp only [lgA,lgZ,lgS,Act.put,lsA,lsZ,lsS]
    refine wpAnyG.tT 5 (v:=.agg #[.bool false,.slice none 0 0,.slice none 0 0]) (by decide) 9 (by as_aux_lemma=>kernel_rfl) (by rfl) ?y5 (HBX _ hc4) ?_
    case y5 =>
     rintro w' ⟨q0,q1,q2,q3,q4,q5,q6⟩
     simp only [lgA,lgZ,lgS]
     go_simp
    simp only [lgA,lgZ,lgS,Act.put,lsA,lsZ,lsS]
    refine wpAnyG.tT 6 (v:=(.iface 131 (.pointer (some pB)))) (by decide) 9 (by as_aux_lemma=>kernel_rfl) (by rfl) ?y6 (HBX _ hc4) ?_
    case y6 =>
     rintro w' ⟨q0,q1,q2,q3,q4,q5,q6⟩
     simp only [lgA,lgZ,lgS]
     go_simp
    simp only [lgA,lgZ,lgS,Act.put,lsA,lsZ,lsS]
    refine wpAnyG.one 8 (by as_aux_lemma=>kernel_rfl) (by decide) (by rfl) (fun K hK=>?_)
    obtain ⟨x0,x1,x2,x3,x4,x5⟩:=id VA4
    simp only [lgA,lgZ,lgS]
    go_simp
    obtain ⟨VN,O⟩:=VA4.set (.bool false) (.slice none 0 0) (.slice none 0 0)
    refine hK _ _ ⟨fun _=>HBX _ (hc4.trans (O.below hR0)),fun _=>trivial⟩ ?_
    clear hK K
    refine wpAnyG.one 9 (by as_aux_lemma=>kernel_rfl) (by decide) (by rfl) (fun K hK=>?_)
    simp only [lgA,lgZ,lgS]
    go_simp
    refine hK _ _ ⟨fun h=>absurd h (by decide),fun _=>trivial⟩ ?_
    clear hK K
    refine wpAnyG.done (by as_aux_lemma=>kernel_rfl) (NoPanic.normal ?_)
    exact ⟨rfl,_,_,_,_,_,_,z1.heap.size,rfl,VN,hR0,hc4.trans (O.below hR0)⟩
  ·simp only [lgA,lgZ,lgS]
   go_simp
   have hx:=bel_d0 z0 (.cells #[.bool false,.slice none 0 0,.slice none 0 0] 28)
   have VA1:=var3_new z0 (.bool false) (.slice none 0 0) (.slice none 0 0) 28
   have hc1:=bel_tr hc0 hx
   have hR0:w2.heap.size≤z0.heap.size:=hc0.size
   have hRz1:z0.heap.size < (z0.alloc (.cells #[.bool false,.slice none 0 0,.slice none 0 0] 28)).heap.size:=by simp
   refine hK _ _ ⟨fun _=>HBX _ hc1,fun _=>trivial⟩ ?_
   clear hK K hx
   generalize z0.alloc (.cells #[.bool false,.slice none 0 0,.slice none 0 0] 28) = z1 at *
   refine wpAnyG.one 1 (by as_aux_lemma=>kernel_rfl) (by decide) (by rfl) (fun K hK=>?_)
   simp only [lgA,lgZ,lgS]
   go_simp
   refine (nQ14 4 z1 (by decide) (by decide)).mono ?_
   rintro e z2 ⟨f1,c1,n1,k1,d1,m1,l1,rfl,G2,hk⟩
   have hc2:=bel_tr hc1 hk
   have VA2:=VA1.below hk
   have hRz2:=Nat.lt_of_lt_of_le hRz1 hk.size
   dsimp only
   refine hK _ _ ⟨fun _=>HBX _ hc2,fun _=>trivial⟩ ?_
   clear hK K hk
   refine wpAnyG.one 2 (by as_aux_lemma=>kernel_rfl) (by decide) (by rfl) (fun K hK=>?_)
   simp only [lgA,lgZ,lgS]
   go_simp
   have hx:=bel_d0 z2 (.cells #[.bool f1,.slice c1 n1 k1,.slice d1 m1 l1] 28)
   have L3:=lq_one G2.tr
   have hc3:=bel_tr hc2 hx
   have VA3:=VA2.below hx
   have hRz3:=Nat.lt_of_lt_of_le hRz2 hx.size
   refine hK _ _ ⟨fun _=>HBX _ hc3,fun _=>trivial⟩ ?_
   clear hK K hx G2
   generalize z2.alloc (.cells #[.bool f1,.slice c1 n1 k1,.slice d1 m1 l1] 28) = z3 at *
   refine wpAnyG.one 3 (by as_aux_lemma=>kernel_rfl) (by decide) (by rfl) (fun K hK=>?_)
   simp only [lgA,lgZ,lgS]
   go_simp
   refine (proveQ P (Ky:=3) z3 (hP.below hc3) L3 (fun i hi=>⟨Nat.le_refl _,szw 4 (by decide)⟩) (by decide) (by omega) (hT.below hc3) (EH.below hc3).s (EH.below hc3).b).mono ?_
   rintro e z4 ⟨hk,hh⟩
   have hc4:=bel_tr hc3 hk
   obtain rfl:e = .returned (.tuple #[.agg #[.bool false,.slice none 0 0,.slice none 0 0],(.iface 131 (.pointer (some pB)))]):=by
    rcases hh with ⟨hn,_⟩ | ⟨_,_,h⟩ | ⟨_,hok,_⟩
    ·exact absurd HM.out.1.symm hn
    ·exact h
    ·exact absurd hok HM.out.2.2.2
   have VA4:=VA3.below hk
   have hRz4:=Nat.lt_of_lt_of_le hRz3 hk.size
   dsimp only
   refine hK _ _ ⟨fun _=>HBX _ hc4,fun _=>trivial⟩ ?_
   clear hK K hk hh L3
   refine wpAnyG.tT 4 (v:=.tuple #[.agg #[.bool false,.slice none 0 0,.slice none 0 0],(.iface 131 (.pointer (some pB)))]) (by decide) 9 (by as_aux_lemma=>kernel_rfl) (by rfl) ?y4 (HBX _ hc4) ?_
   case y4 =>
    rintro w' ⟨q0,q1,q2,q3,q4,q5,q6⟩
    simp only [lgA,lgZ,lgS]
    go_simp
   simp only [lgA,lgZ,lgS,Act.put,lsA,lsZ,lsS]
   refine wpAnyG.tT 5 (v:=.agg #[.bool false,.slice none 0 0,.slice none 0 0]) (by decide) 9 (by as_aux_lemma=>kernel_rfl) (by rfl) ?y5 (HBX _ hc4) ?_
   case y5 =>
    rintro w' ⟨q0,q1,q2,q3,q4,q5,q6⟩
    simp only [lgA,lgZ,lgS]
    go_simp
   simp only [lgA,lgZ,lgS,Act.put,lsA,lsZ,lsS]
   refine wpAnyG.tT 6 (v:=(.iface 131 (.pointer (some pB)))) (by decide) 9 (by as_aux_lemma=>kernel_rfl) (by rfl) ?y6 (HBX _ hc4) ?_
   case y6 =>
    rintro w' ⟨q0,q1,q2,q3,q4,q5,q6⟩
    simp only [lgA,lgZ,lgS]
    go_simp
   simp only [lgA,lgZ,lgS,Act.put,lsA,lsZ,lsS]
   refine wpAnyG.one 8 (by as_aux_lemma=>kernel_rfl) (by decide) (by rfl) (fun K hK=>?_)
   obtain ⟨x0,x1,x2,x3,x4,x5⟩:=id VA4
   simp only [lgA,lgZ,lgS]
   go_simp
   obtain ⟨VN,O⟩:=VA4.set (.bool false) (.slice none 0 0) (.slice none 0 0)
   refine hK _ _ ⟨fun _=>HBX _ (hc4.trans (O.below hR0)),fun _=>trivial⟩ ?_
   clear hK K
   refine wpAnyG.one 9 (by as_aux_lemma=>kernel_rfl) (by decide) (by rfl) (fun K hK=>?_)
   simp only [lgA,lgZ,lgS]
   go_simp
   refine hK _ _ ⟨fun h=>absurd h (by decide),fun _=>trivial⟩ ?_
   clear hK K
   refine wpAnyG.done (by as_aux_lemma=>kernel_rfl) (NoPanic.normal ?_)
   exact ⟨rfl,_,_,_,_,_,_,z0.heap.size,rfl,VN,hR0,hc4.trans (O.below hR0)⟩
 rintro a' w3 ⟨u7,u8,u9,u10,u11,u12,RB,rfl,_,_,hx⟩
 simp only [Act.put,List.setIfInBounds_toArray,List.set_cons_zero,List.set_cons_succ]
 replace hP:=hP.below hx
 replace hT:=hT.below hx
 replace EH:=EH.below hx
 replace Pb:=Pb.below hx
 replace VQ:=VQ.below hx
 replace GQ:=GQ.below hx
 replace hb0:=bel_tr hb0 hx
 have hs3:=hx.size
 clear HBX hx
 go_wp2_with fail
 have hb3:=Below.refl w3.heap.size w3
 refine (nQ14 10 w3 (by decide) (by decide)).mono ?_
 rintro e w4 ⟨fA,cA,nA,kA,dA,mA,lA,rfl,GA,hx⟩
 replace hb3:=bel_tr hb3 hx
 clear hx
 go_wp2_with fail
 refine (nQ14 3 w4 (by decide) (by decide)).mono ?_
 rintro e w5 ⟨fB,cB,nB,kB,dB,mB,lB,rfl,GB,hx⟩
 replace hb3:=bel_tr hb3 hx
 replace GA:=GA.below hx
 clear hx
 go_wp2_with fail
 refine (nQ14 1 w5 (by decide) (by decide)).mono ?_
 rintro e w6 ⟨fC,cC,nC,kC,dC,mC,lC,rfl,GC,hx⟩
 replace hb3:=bel_tr hb3 hx
 replace GA:=GA.below hx
 replace GB:=GB.below hx
 clear hx
 have hx:=bel_d0 w6 (.cells #[.bool fB,.slice cB nB kB,.slice dB mB lB,.bool fC,.slice cC nC kC,.slice dC mC lC] 28)
 have LX:=lq_two (X:=exX) GB.tr GC.tr
 replace hb3:=bel_tr hb3 hx
 replace GA:=GA.below hx
 clear hx GB GC
 go_wp2_with fail
 generalize w6.alloc (.cells #[.bool fB,.slice cB nB kB,.slice dB mB lB,.bool fC,.slice cC nC kC,.slice dC mC lC] 28) = W6 at *
 refine (nQ14 3 W6 (by decide) (by decide)).mono ?_
 rintro e w7 ⟨fD,cD,nD,kD,dD,mD,lD,rfl,GD,hx⟩
 replace hb3:=bel_tr hb3 hx
 replace GA:=GA.below hx
 replace LX:=LX.below hx
 clear hx
 have hx:=bel_d0 w7 (.cells #[.bool fD,.slice cD nD kD,.slice dD mD lD] 28)
 have LY:=lq_one GD.tr
 replace hb3:=bel_tr hb3 hx
 replace GA:=GA.below hx
 replace LX:=LX.below hx
 clear hx GD
 have hx:=bel_d0 (w7.alloc (.cells #[.bool fD,.slice cD nD kD,.slice dD mD lD] 28)) (.cells #[.int .i64 1,.bool fA,.slice cA nA kA,.slice dA mA lA,.slice (some ⟨w6.heap.size,0,none⟩) 2 2,.slice (some ⟨w7.heap.size,0,none⟩) 1 1,.slice none 0 0] 35)
 have Bg:=box_new (w7.alloc (.cells #[.bool fD,.slice cD nD kD,.slice dD mD lD] 28)) #[.int .i64 1,.bool fA,.slice cA nA kA,.slice dA mA lA,.slice (some ⟨w6.heap.size,0,none⟩) 2 2,.slice (some ⟨w7.heap.size,0,none⟩) 1 1,.slice none 0 0] 35
 have hs7:(w7.alloc (.cells #[.bool fD,.slice cD nD kD,.slice dD mD lD] 28)).heap.size = w7.heap.size + 1:=by simp
 have hs8:((w7.alloc (.cells #[.bool fD,.slice cD nD kD,.slice dD mD lD] 28)).alloc (.cells #[.int .i64 1,.bool fA,.slice cA nA kA,.slice dA mA lA,.slice (some ⟨w6.heap.size,0,none⟩) 2 2,.slice (some ⟨w7.heap.size,0,none⟩) 1 1,.slice none 0 0] 35)).heap.size = w7.heap.size + 2:=by simp
 have QG:CQ ((w7.alloc (.cells #[.bool fD,.slice cD nD kD,.slice dD mD lD] 28)).alloc (.cells #[.int .i64 1,.bool fA,.slice cA nA kA,.slice dA mA lA,.slice (some ⟨w6.heap.size,0,none⟩) 2 2,.slice (some ⟨w7.heap.size,0,none⟩) 1 1,.slice none 0 0] 35)) (exC ((10:Int):Rat) fA cA nA kA dA mA lA (some ⟨w6.heap.size,0,none⟩) (some ⟨w7.heap.size,0,none⟩)):=(exC_q GA.tr (szw 10 (by decide)) LX LY).below hx
 rw [hs7] at Bg
 replace hb3:=bel_tr hb3 hx
 clear hx GA LX LY
 have hx:=bel_d0 ((w7.alloc (.cells #[.bool fD,.slice cD nD kD,.slice dD mD lD] 28)).alloc (.cells #[.int .i64 1,.bool fA,.slice cA nA kA,.slice dA mA lA,.slice (some ⟨w6.heap.size,0,none⟩) 2 2,.slice (some ⟨w7.heap.size,0,none⟩) 1 1,.slice none 0 0] 35)) (.cells #[.int .i64 1,.bool fA,.slice cA nA kA,.slice dA mA lA,.slice (some ⟨w6.heap.size,0,none⟩) 2 2,.slice (some ⟨w7.heap.size,0,none⟩) 1 1,.slice none 0 0] 35)
 have Rb:=Rw.new 35 ((w7.alloc (.cells #[.bool fD,.slice cD nD kD,.slice dD mD lD] 28)).alloc (.cells #[.int .i64 1,.bool fA,.slice cA nA kA,.slice dA mA lA,.slice (some ⟨w6.heap.size,0,none⟩) 2 2,.slice (some ⟨w7.heap.size,0,none⟩) 1 1,.slice none 0 0] 35)) #[.int .i64 1,.bool fA,.slice cA nA kA,.slice dA mA lA,.slice (some ⟨w6.heap.size,0,none⟩) 2 2,.slice (some ⟨w7.heap.size,0,none⟩) 1 1,.slice none 0 0]
 rw [hs8] at Rb
 have hs9:(((w7.alloc (.cells #[.bool fD,.slice cD nD kD,.slice dD mD lD] 28)).alloc (.cells #[.int .i64 1,.bool fA,.slice cA nA kA,.slice dA mA lA,.slice (some ⟨w6.heap.size,0,none⟩) 2 2,.slice (some ⟨w7.heap.size,0,none⟩) 1 1,.slice none 0 0] 35)).alloc (.cells #[.int .i64 1,.bool fA,.slice cA nA kA,.slice dA mA lA,.slice (some ⟨w6.heap.size,0,none⟩) 2 2,.slice (some ⟨w7.heap.size,0,none⟩) 1 1,.slice none 0 0] 35)).heap.size = w7.heap.size + 3:=by simp
 have Bg2:=Bg.below hx
 have g0:=Bg 0 _ rfl;have g1:=Bg 1 _ rfl;have g2:=Bg 2 _ rfl;have g3:=Bg 3 _ rfl;have g4:=Bg 4 _ rfl;have g5:=Bg 5 _ rfl;have g6:=Bg 6 _ rfl
 go_wp2_with fail
 clear g0 g1 g2 g3 g4 g5 g6
 generalize ((w7.alloc (.cells #[.bool fD,.slice cD nD kD,.slice dD mD lD] 28)).alloc (.cells #[.int .i64 1,.bool fA,.slice cA nA kA,.slice dA mA lA,.slice (some ⟨w6.heap.size,0,none⟩) 2 2,.slice (some ⟨w7.heap.size,0,none⟩) 1 1,.slice none 0 0] 35)).alloc (.cells #[.int .i64 1,.bool fA,.slice cA nA kA,.slice dA mA lA,.slice (some ⟨w6.heap.size,0,none⟩) 2 2,.slice (some ⟨w7.heap.size,0,none⟩) 1 1,.slice none 0 0] 35) = W9 at *
 generalize (w7.alloc (.cells #[.bool fD,.slice cD nD kD,.slice dD mD lD] 28)).alloc (.cells #[.int .i64 1,.bool fA,.slice cA nA kA,.slice dA mA lA,.slice (some ⟨w6.heap.size,0,none⟩) 2 2,.slice (some ⟨w7.heap.size,0,none⟩) 1 1,.slice none 0 0] 35) = W8 at *
 refine (nQ14 9 W9 (by decide) (by decide)).mono ?_
 rintro e wA ⟨fE,cE,nE,kE,dE,mE,lE,rfl,GE,hy⟩
 have hsA:=hy.size
 replace Rb:=Rb.below hy
 replace hx:=bel_tr hx hy
 obtain ⟨Bb,O⟩:=set_mid (a:=.bool fE) (b:=.slice cE nE kE) (c:=.slice dE mE lE) Rb
 have hbE:Below W8.heap.size W8 _:=hx.trans (O.below (by omega))
 have QE:=QG.below hbE
 have GEE:=GE.off O (by omega)
 have QB:=exC_q (xa:=some ⟨w6.heap.size,0,none⟩) (ya:=some ⟨w7.heap.size,0,none⟩) GEE.tr (szw 9 (by decide)) QE.x QE.y
 have BgE:=Bg.below hbE
 have hb4:Below w3.heap.size w3 _:=bel_tr hb3 hbE
 have PbE:=Pb.below hb4
 have y1:=(Rb.cell 1).trans (show _ = some _ from rfl);have y2:=(Rb.cell 2).trans (show _ = some _ from rfl);have y3:=(Rb.cell 3).trans (show _ = some _ from rfl)
 have z1:=Rb.frozen 1;have z2:=Rb.frozen 2;have z3:=Rb.frozen 3
 have g0:=BgE 0 _ rfl;have g1:=BgE 1 _ rfl;have g2:=BgE 2 _ rfl;have g3:=BgE 3 _ rfl;have g4:=BgE 4 _ rfl;have g5:=BgE 5 _ rfl;have g6:=BgE 6 _ rfl
 have p0:=PbE 0 _ rfl;have p1:=PbE 1 _ rfl;have p2:=PbE 2 _ rfl;have p3:=PbE 3 _ rfl;have p4:=PbE 4 _ rfl;have p5:=PbE 5 _ rfl;have p6:=PbE 6 _ rfl
 clear QG GE GEE O Bg Bg2 hx hy hbE
 go_wp2_with fail
 clear g0 p0 g1 p1 g2 p2 g3 p3 g4 p4 g5 p5 g6 p6 y1 y2 y3 z1 z2 z3 Rb
 generalize ((wA.setCell ⟨w7.heap.size + 2,1,none⟩ (.bool fE)).setCell ⟨w7.heap.size + 2,2,none⟩ (.slice cE nE kE)).setCell ⟨w7.heap.size + 2,3,none⟩ (.slice dE mE lE) = wE at *
 refine (chk1 P (exC ((10:Int):Rat) fA cA nA kA dA mA lA (some ⟨w6.heap.size,0,none⟩) (some ⟨w7.heap.size,0,none⟩)) wE rfl (hP.below hb4) QE (show P.K + 10≤1048576 by omega) (hT.below hb4) (EH.below hb4)).mono ?_
 intro e wF HR
 have hF:=HR.1
 obtain rfl:e = .returned .nilIface:=by
  rcases HR.2 with ⟨h,_⟩ | ⟨_,_,⟨h,_⟩ | ⟨_,⟨h,_⟩ | ⟨_,⟨h,_⟩ | ⟨_,_,h⟩⟩⟩⟩
  ·exact absurd ⟨HM2.out.1.symm,HM.out.1.symm⟩ h
  ·exact absurd HM2.out.2.1 h
  ·exact absurd HM2.out.2.2 h
  ·exact absurd ⟨HM.out.2.1,HM.out.2.2.1⟩ h
  ·exact h
 clear HR QE
 have hb5:=bel_tr hb4 hF
 replace QB:=QB.below hF
 replace Bb:=Bb.below hF
 replace PbE:=PbE.below hF
 have g0:=Bb 0 _ rfl;have g1:=Bb 1 _ rfl;have g2:=Bb 2 _ rfl;have g3:=Bb 3 _ rfl;have g4:=Bb 4 _ rfl;have g5:=Bb 5 _ rfl;have g6:=Bb 6 _ rfl
 have p0:=PbE 0 _ rfl;have p1:=PbE 1 _ rfl;have p2:=PbE 2 _ rfl;have p3:=PbE 3 _ rfl;have p4:=PbE 4 _ rfl;have p5:=PbE 5 _ rfl;have p6:=PbE 6 _ rfl
 clear hF hb4 BgE
 go_wp2_with fail
 clear g0 p0 g1 p1 g2 p2 g3 p3 g4 p4 g5 p5 g6 p6
 refine (chk1 P (exC ((9:Int):Rat) fE cE nE kE dE mE lE (some ⟨w6.heap.size,0,none⟩) (some ⟨w7.heap.size,0,none⟩)) wF rfl (hP.below hb5) QB (show P.K + 10≤1048576 by omega) (hT.below hb5) (EH.below hb5)).mono ?_
 intro e wG HR
 have hF:=HR.1
 obtain rfl:e = .returned (.iface 131 (.pointer (some pV))):=by
  rcases HR.2 with ⟨h,_⟩ | ⟨_,_,⟨h,_⟩ | ⟨_,⟨_,h⟩ | ⟨h,_⟩⟩⟩
  ·exact absurd ⟨HM2.out.1.symm,HM.out.1.symm⟩ h
  ·exact absurd HM2.out.2.1 h
  ·exact h
  ·have h2:vlu P exX = ((9:Int):Rat):=h
   rw [HM2.out.2.2] at h2
   have h3:(10:Int) = 9:=Rat.intCast_inj.1 h2
   omega
 clear HR QB Bb
 have hb6:=bel_tr hb5 hF
 replace PbE:=PbE.below hF
 have p0:=PbE 0 _ rfl;have p1:=PbE 1 _ rfl;have p2:=PbE 2 _ rfl;have p3:=PbE 3 _ rfl;have p4:=PbE 4 _ rfl;have p5:=PbE 5 _ rfl;have p6:=PbE 6 _ rfl
 clear hF hb5
 go_wp2_with fail
 clear p0 p1 p2 p3 p4 p5 p6
 refine (chk4 P exN wG (by decide) (by decide) (by decide) (EH.below hb6)).mono ?_
 rintro e wH ⟨rfl,hF⟩
 have hb7:=bel_tr hb6 hF
 clear hF hb6 PbE
 have EZ:=EH.below hb7
 have VZ:=VQ.below hb7
 have GZ:=GQ.below hb7
 have e0:=EZ.b.1
 have e2:=EZ.v.1
 have e3:=EZ.d.1
 obtain ⟨v0,v1,v2,_,_,_⟩:=id VZ
 have hw:Below w.heap.size w wH:=bel_tr hb0 hb7
 clear hb7 hP hT EH EZ VZ VQ GQ Pb hb3 HM HM2
 go_wp2_with fail
 have HBX:∀ w',Below wH.heap.size wH w'→(w'.cell? ⟨1,0,none⟩ = some (.iface 131 (.pointer (some pB)))∧w'.cell? ⟨0,0,none⟩ = some (.iface 131 (.pointer (some pV)))∧w'.cell? ⟨2,0,none⟩ = some (.iface 131 (.pointer (some pD)))∧w'.cell? ⟨RA,0,none⟩ = some (.bool fQ)∧w'.cell? ⟨RA,1,none⟩ = some (.slice cQ nQ kQ)∧w'.cell? ⟨RA,2,none⟩ = some (.slice dQ mQ lQ)):=fun w' h=>⟨kept_c h e0,kept_c h e2,kept_c h e3,kept_c h v0,kept_c h v1,kept_c h v2⟩
 clear e0 e2 e3 v0 v1 v2
 refine wp_region_noPanic (wp_region_guardB HBX (by as_aux_lemma=>kernel_rfl) ?_)
 have hc0:Below wH.heap.size wH wH.drew:=bel_d1 _
 generalize wH.drew = z0 at *
 refine wpAnyG.tA 0 (v:=.nilIface) (by decide) 26 (by as_aux_lemma=>kernel_rfl) (by rfl) ?y0 (HBX _ hc0) ?_
 case y0 =>
  rintro w' ⟨q0,q1,q2,q3,q4,q5⟩
  simp only [lgA,lgZ]
  go_simp
 simp only [lgA,lgZ,Act.put,lsA,lsZ,lsS]
 refine wpAnyG.tA 1 (v:=.bool true) (by decide) 26 (by as_aux_lemma=>kernel_rfl) (by rfl) ?y1 (HBX _ hc0) ?_
 case y1 =>
  rintro w' ⟨q0,q1,q2,q3,q4,q5⟩
  simp only [lgA,lgZ,lgS]
  go_simp
 simp only [lgA,lgZ,lgS,Act.put,lsA,lsZ,lsS]
 refine wpAnyG.tA 2 (v:=.bool true) (by decide) 26 (by as_aux_lemma=>kernel_rfl) (by rfl) ?y2 (HBX _ hc0) ?_
 case y2 =>
  rintro w' ⟨q0,q1,q2,q3,q4,q5⟩
  simp only [lgA,lgZ,lgS]
  go_simp
 simp only [lgA,lgZ,lgS,Act.put,lsA,lsZ,lsS]
 refine wpAnyG.tA 3 (v:=.iface 131 (.pointer (some pB))) (by decide) 26 (by as_aux_lemma=>kernel_rfl) (by rfl) ?y3 (HBX _ hc0) ?_
 case y3 =>
  rintro w' ⟨q0,q1,q2,q3,q4,q5⟩
  simp only [lgA,lgZ,lgS]
  go_simp
 simp only [lgA,lgZ,lgS,Act.put,lsA,lsZ,lsS]
 refine wpAnyG.tA 4 (v:=.iface 131 (.pointer (some pB))) (by decide) 26 (by as_aux_lemma=>kernel_rfl) (by rfl) ?y4 (HBX _ hc0) ?_
 case y4 =>
  rintro w' ⟨q0,q1,q2,q3,q4,q5⟩
  simp only [lgA,lgZ,lgS]
  go_simp
 simp only [lgA,lgZ,lgS,Act.put,lsA,lsZ,lsS]
 refine wpAnyG.tA 5 (v:=.bool true) (by decide) 26 (by as_aux_lemma=>kernel_rfl) (by rfl) ?y5 (HBX _ hc0) ?_
 case y5 =>
  rintro w' ⟨q0,q1,q2,q3,q4,q5⟩
  have heq:=eqS14 w' pB
  simp only [lgA,lgZ,lgS]
  go_simp
 simp only [lgA,lgZ,lgS,Act.put,lsA,lsZ,lsS]
 refine wpAnyG.tA 6 (v:=.bool true) (by decide) 26 (by as_aux_lemma=>kernel_rfl) (by rfl) ?y6 (HBX _ hc0) ?_
 case y6 =>
  rintro w' ⟨q0,q1,q2,q3,q4,q5⟩
  simp only [lgA,lgZ,lgS]
  go_simp
 simp only [lgA,lgZ,lgS,Act.put,lsA,lsZ,lsS]
 refine wpAnyG.tA 7 (v:=.bool true) (by decide) 26 (by as_aux_lemma=>kernel_rfl) (by rfl) ?y7 (HBX _ hc0) ?_
 case y7 =>
  rintro w' ⟨q0,q1,q2,q3,q4,q5⟩
  simp only [lgA,lgZ,lgS]
  go_simp
 simp only [lgA,lgZ,lgS,Act.put,lsA,lsZ,lsS]
 refine wpAnyG.tA 8 (v:=.agg #[.bool fQ,.slice cQ nQ kQ,.slice dQ mQ lQ]) (by decide) 26 (by as_aux_lemma=>kernel_rfl) (by rfl) ?y8 (HBX _ hc0) ?_
 case y8 =>
  rintro w' ⟨q0,q1,q2,q3,q4,q5⟩
  simp only [lgA,lgZ,lgS]
  go_simp
 simp only [lgA,lgZ,lgS,Act.put,lsA,lsZ,lsS]
 refine wpAnyG.one 9 (by as_aux_lemma=>kernel_rfl) (by decide) (by rfl) (fun K hK=>?_)
 simp only [lgA,lgZ,lgS]
 go_simp
 refine (nQ14 10 z0 (by decide) (by decide)).mono ?_
 rintro e z1 ⟨fZ,cZ,nZ,kZ,dZ,mZ,lZ,rfl,GN,hk1⟩
 have hc1:Below wH.heap.size wH z1:=bel_tr hc0 hk1
 dsimp only
 refine hK _ _ (HBX _ hc1) ?_
 clear hK K
 refine wpAnyG.one 10 (by as_aux_lemma=>kernel_rfl) (by decide) (by rfl) (fun K hK=>?_)
 simp only [lgA,lgZ,lgS]
 go_simp
 refine (refSameP z1 (GZ.below hc1).1 (GZ.below hc1).2 GN.1 GN.2 (by decide)).mono ?_
 rintro e z2 ⟨rfl,hk2⟩
 have hc2:Below wH.heap.size wH z2:=bel_tr hc1 hk2
 dsimp only
 refine hK _ _ (HBX _ hc2) ?_
 clear hK K
 refine wpAnyG.tA 11 (v:=.bool true) (by decide) 26 (by as_aux_lemma=>kernel_rfl) (by rfl) ?y11 (HBX _ hc2) ?_
 case y11 =>
  rintro w' ⟨q0,q1,q2,q3,q4,q5⟩
  simp only [lgA,lgZ,lgS]
  go_simp
 simp only [lgA,lgZ,lgS,Act.put,lsA,lsZ,lsS]
 refine wpAnyG.tA 12 (v:=.bool true) (by decide) 26 (by as_aux_lemma=>kernel_rfl) (by rfl) ?y12 (HBX _ hc2) ?_
 case y12 =>
  rintro w' ⟨q0,q1,q2,q3,q4,q5⟩
  simp only [lgA,lgZ,lgS]
  go_simp
 simp only [lgA,lgZ,lgS,Act.put,lsA,lsZ,lsS]
 refine wpAnyG.tA 13 (v:=.nilIface) (by decide) 26 (by as_aux_lemma=>kernel_rfl) (by rfl) ?y13 (HBX _ hc2) ?_
 case y13 =>
  rintro w' ⟨q0,q1,q2,q3,q4,q5⟩
  simp only [lgA,lgZ,lgS]
  go_simp
 simp only [lgA,lgZ,lgS,Act.put,lsA,lsZ,lsS]
 refine wpAnyG.tA 14 (v:=.bool true) (by decide) 26 (by as_aux_lemma=>kernel_rfl) (by rfl) ?y14 (HBX _ hc2) ?_
 case y14 =>
  rintro w' ⟨q0,q1,q2,q3,q4,q5⟩
  simp only [lgA,lgZ,lgS]
  go_simp
 simp only [lgA,lgZ,lgS,Act.put,lsA,lsZ,lsS]
 refine wpAnyG.tA 15 (v:=.bool true) (by decide) 26 (by as_aux_lemma=>kernel_rfl) (by rfl) ?y15 (HBX _ hc2) ?_
 case y15 =>
  rintro w' ⟨q0,q1,q2,q3,q4,q5⟩
  simp only [lgA,lgZ,lgS]
  go_simp
 simp only [lgA,lgZ,lgS,Act.put,lsA,lsZ,lsS]
 refine wpAnyG.tA 16 (v:=.bool true) (by decide) 26 (by as_aux_lemma=>kernel_rfl) (by rfl) ?y16 (HBX _ hc2) ?_
 case y16 =>
  rintro w' ⟨q0,q1,q2,q3,q4,q5⟩
  simp only [lgA,lgZ,lgS]
  go_simp
 simp only [lgA,lgZ,lgS,Act.put,lsA,lsZ,lsS]
 refine wpAnyG.tA 17 (v:=.iface 131 (.pointer (some pV))) (by decide) 26 (by as_aux_lemma=>kernel_rfl) (by rfl) ?y17 (HBX _ hc2) ?_
 case y17 =>
  rintro w' ⟨q0,q1,q2,q3,q4,q5⟩
  simp only [lgA,lgZ,lgS]
  go_simp
 simp only [lgA,lgZ,lgS,Act.put,lsA,lsZ,lsS]
 refine wpAnyG.tA 18 (v:=.iface 131 (.pointer (some pV))) (by decide) 26 (by as_aux_lemma=>kernel_rfl) (by rfl) ?y18 (HBX _ hc2) ?_
 case y18 =>
  rintro w' ⟨q0,q1,q2,q3,q4,q5⟩
  simp only [lgA,lgZ,lgS]
  go_simp
 simp only [lgA,lgZ,lgS,Act.put,lsA,lsZ,lsS]
 refine wpAnyG.tA 19 (v:=.bool true) (by decide) 26 (by as_aux_lemma=>kernel_rfl) (by rfl) ?y19 (HBX _ hc2) ?_
 case y19 =>
  rintro w' ⟨q0,q1,q2,q3,q4,q5⟩
  have heq:=eqS14 w' pV
  simp only [lgA,lgZ,lgS]
  go_simp
 simp only [lgA,lgZ,lgS,Act.put,lsA,lsZ,lsS]
 refine wpAnyG.tA 20 (v:=.bool true) (by decide) 26 (by as_aux_lemma=>kernel_rfl) (by rfl) ?y20 (HBX _ hc2) ?_
 case y20 =>
  rintro w' ⟨q0,q1,q2,q3,q4,q5⟩
  simp only [lgA,lgZ,lgS]
  go_simp
 simp only [lgA,lgZ,lgS,Act.put,lsA,lsZ,lsS]
 refine wpAnyG.tA 21 (v:=.bool true) (by decide) 26 (by as_aux_lemma=>kernel_rfl) (by rfl) ?y21 (HBX _ hc2) ?_
 case y21 =>
  rintro w' ⟨q0,q1,q2,q3,q4,q5⟩
  simp only [lgA,lgZ,lgS]
  go_simp
 simp only [lgA,lgZ,lgS,Act.put,lsA,lsZ,lsS]
 refine wpAnyG.tA 22 (v:=.iface 131 (.pointer (some pD))) (by decide) 26 (by as_aux_lemma=>kernel_rfl) (by rfl) ?y22 (HBX _ hc2) ?_
 case y22 =>
  rintro w' ⟨q0,q1,q2,q3,q4,q5⟩
  simp only [lgA,lgZ,lgS]
  go_simp
 simp only [lgA,lgZ,lgS,Act.put,lsA,lsZ,lsS]
 refine wpAnyG.tA 23 (v:=.iface 131 (.pointer (some pD))) (by decide) 26 (by as_aux_lemma=>kernel_rfl) (by rfl) ?y23 (HBX _ hc2) ?_
 case y23 =>
  rintro w' ⟨q0,q1,q2,q3,q4,q5⟩
  simp only [lgA,lgZ,lgS]
  go_simp
 simp only [lgA,lgZ,lgS,Act.put,lsA,lsZ,lsS]
 refine wpAnyG.tA 24 (v:=.bool true) (by decide) 26 (by as_aux_lemma=>kernel_rfl) (by rfl) ?y24 (HBX _ hc2) ?_
 case y24 =>
  rintro w' ⟨q0,q1,q2,q3,q4,q5⟩
  have heq:=eqS14 w' pD
  simp only [lgA,lgZ,lgS]
  go_simp
 simp only [lgA,lgZ,lgS,Act.put,lsA,lsZ,lsS]
 refine wpAnyG.tA 25 (v:=.bool true) (by decide) 26 (by as_aux_lemma=>kernel_rfl) (by rfl) ?y25 (HBX _ hc2) ?_
 case y25 =>
  rintro w' ⟨q0,q1,q2,q3,q4,q5⟩
  simp only [lgA,lgZ,lgS]
  go_simp
 simp only [lgA,lgZ,lgS,Act.put,lsA,lsZ,lsS]
 refine wpAnyG.one 26 (by as_aux_lemma=>kernel_rfl) (by decide) (by rfl) (fun K hK=>?_)
 simp only [lgA,lgZ,lgS]
 go_simp
 refine hK _ _ (HBX _ hc2) ?_
 clear hK K
 refine wpAnyG.done (by as_aux_lemma=>kernel_rfl) (NoPanic.normal ?_)
 have hw2:=bel_tr hw hc2
 clear HBX hc0 hc1 hc2 hk1 hk2 GN GZ hw
 go_wp2
 go_ret
 exact ⟨rfl,hw2⟩
end Go.Proofs.YtjapbhdoemfgkaaGreatDoor

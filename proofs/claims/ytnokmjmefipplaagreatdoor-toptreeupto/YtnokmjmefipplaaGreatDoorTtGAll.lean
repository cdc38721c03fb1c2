import Derived.Test.YtnokmjmefipplaaGreatDoorTtDAll
import Derived.Deep.OwnRows
set_option maxRecDepth 100000
set_option maxHeartbeats 8000000
namespace Go.Proofs.YtnokmjmefipplaaGreatDoor
open Go.RowKit
def OpnR (P:Prob) (w:World) (e:Ending) (w':World):Prop:=∃ b,e = .returned (.bool b)∧(b = false↔∀ j,j < P.vn→(P.V j).whole = true→(P.V j).hlo = true∧(P.V j).hhi = true)∧Below w.heap.size w w'
theorem aR3 (P:Prob) (w:World) (hP:PQ w P) (hK:P.K≤1048576) :
 Calls Tryz.prog 8 #[P.val] w fun e w'=>OpnR P w e w':=by
 have hvn:P.vn≤1048576:=by have:=hP.all;have:=aT P.ZV P.vn;omega
 unfold Prob.val
 have hb:=aG w (.cells #[.bool P.mx,.string P.nm,.bool P.p,.slice P.a P.na P.ca,.slice P.d P.nd P.cd,.slice P.va P.vn P.vc,.slice P.ra P.rn P.rc] 31)
 go_enter Tryz.func8,Tryz.ntmps8
 go_wp2
 generalize w.alloc (.cells #[.bool P.mx,.string P.nm,.bool P.p,.slice P.a P.na P.ca,.slice P.d P.nd P.cd,.slice P.va P.vn P.vc,.slice P.ra P.rn P.rc] 31) = W at *
 go_loopw [8] (fun s8 wr=>∃ (i:Nat),i≤P.vn∧s8 = .int .i64 i∧(∀ j,j < i→(P.V j).whole = true→(P.V j).hlo = true∧(P.V j).hhi = true)∧Below w.heap.size w wr) (fun s8 _=>P.vn - (intOf s8).toNat)
 case atStart=>exact ⟨0,Nat.zero_le _,rfl,fun j hj=>by omega,hb⟩
 case round =>
  obtain ⟨i,hi,rfl,HY,hbel⟩:=hrel
  by_cases hlt:i < P.vn
  ·have hkI:(i:Int) < (P.vn:Int):=by omega
   rcases (hP.v.below hbel) with h0 | ⟨bv,ov,hva,hev⟩
   ·omega
   have hV:=hev i hlt
   obtain ⟨nmV,enm⟩:∃ nmV,nmV = (P.V i).nm:=⟨_,rfl⟩
   obtain ⟨hl,ehl⟩:∃ hl,hl = (P.V i).hlo:=⟨_,rfl⟩
   obtain ⟨hh,ehh⟩:∃ hh,hh = (P.V i).hhi:=⟨_,rfl⟩
   obtain ⟨wh,ewh⟩:∃ wh,wh = (P.V i).whole:=⟨_,rfl⟩
   have r0:=hV.nm
   obtain ⟨pO,aO,nO,cO,dO,mO,lO,r1,r2,r3,_⟩:=hV.obj
   have r4:=hV.hlo
   obtain ⟨pl,al,nl,cl,dl,ml,ll,r5,r6,r7,_⟩:=hV.lo
   have r8:=hV.hhi
   obtain ⟨ph,ah,nh,ch,dh,mh,lh,r9,r10,r11,_⟩:=hV.hi
   have r12:=hV.whole
   rw [← enm] at r0
   rw [← ehl] at r4
   rw [← ehh] at r8
   rw [← ewh] at r12
   have HE:Hid (wh = (P.V i).whole∧hl = (P.V i).hlo∧hh = (P.V i).hhi):=⟨ewh,ehl,ehh⟩
   have hkI2:(i:Int) * 13 = ((i * 13:Nat):Int):=by omega
   have hva':P.va = some ⟨bv,ov,none⟩:=hva
   have hbel2:=aB hbel (aG wr (.cells #[.string nmV,.bool pO,.slice aO nO cO,.slice dO mO lO,.bool hl,.bool pl,.slice al nl cl,.slice dl ml ll,.bool hh,.bool ph,.slice ah nh ch,.slice dh mh lh,.bool wh] 45))
   have HY':Hid ((wh = true→hl = true∧hh = true)→∀ j,j < i + 1→(P.V j).whole = true→(P.V j).hlo = true∧(P.V j).hhi = true):=by
    intro hq j hj hw
    rcases (by omega:j < i∨j = i) with h | rfl
    ·exact HY j h hw
    ·obtain ⟨x1,x2,x3⟩:=HE.out
     rw [← x2,← x3]
     exact hq (x1.trans hw)
   have HN:Hid (wh = true→¬ (hl = true∧hh = true)→¬ ∀ j,j < P.vn→(P.V j).whole = true→(P.V j).hlo = true∧(P.V j).hhi = true):=by
    intro q1 q2 hall
    obtain ⟨x1,x2,x3⟩:=HE.out
    exact q2 (by rw [x2,x3];exact hall i hlt (x1.symm.trans q1))
   clear hev hV enm ehl ehh ewh hva HY HE
   cases wh
   ·go_wp2
    go_roundw
    case rel=>first | exact ⟨i + 1,by omega,by go_num,HY'.out (fun h=>by cases h),hbel2⟩ | ((repeat apply Exists.intro);refine ⟨?_,rfl⟩;exact ⟨i + 1,by omega,by go_num,HY'.out (fun h=>by cases h),hbel2⟩)
    case measure=>simp [intOf];omega
   ·cases hl
    ·have HQ:Hid (¬ ∀ j,j < P.vn→(P.V j).whole = true→(P.V j).hlo = true∧(P.V j).hhi = true):=HN.out rfl (by simp)
     clear HN HY'
     go_wp2
     go_ret
     exact ⟨true,rfl,⟨(fun h=>by cases h),fun h=>absurd h HQ.out⟩,hbel2⟩
    ·cases hh
     ·have HQ:Hid (¬ ∀ j,j < P.vn→(P.V j).whole = true→(P.V j).hlo = true∧(P.V j).hhi = true):=HN.out rfl (by simp)
      clear HN HY'
      go_wp2
      go_ret
      exact ⟨true,rfl,⟨(fun h=>by cases h),fun h=>absurd h HQ.out⟩,hbel2⟩
     ·go_wp2
      go_roundw
      case rel=>first | exact ⟨i + 1,by omega,by go_num,HY'.out (fun _=>⟨rfl,rfl⟩),hbel2⟩ | ((repeat apply Exists.intro);refine ⟨?_,rfl⟩;exact ⟨i + 1,by omega,by go_num,HY'.out (fun _=>⟨rfl,rfl⟩),hbel2⟩)
      case measure=>simp [intOf];omega
  ·have hkI:¬ (i:Int) < (P.vn:Int):=by omega
   obtain rfl:i = P.vn:=by omega
   go_wp2
   go_ret
   exact ⟨false,rfl,⟨fun _=>HY,fun _=>rfl⟩,hbel⟩
theorem aO4 (P:Prob) (t:Bool) {p q:Bool} {a b:Option Addr} {na nb ca cb:Nat} {d e0:Option Addr} {nd ne cd ce:Nat} {r s:Rat} {S R:Nat} (w:World) (hr:TR w p a na ca d nd cd r S) (hs1:TR w q b nb cb e0 ne ce s R) (hSR:S + R≤6000000) (hS1:1≤S) (hR1:1≤R) (ht:t = true↔btr P r s) :
 Calls Tryz.prog 58 #[P.val,.agg #[.bool p,.slice a na ca,.slice d nd cd],.agg #[.bool q,.slice b nb cb,.slice e0 ne ce]] w fun e w'=>e = .returned (.bool t)∧Below w.heap.size w w':=by
 unfold Prob.val
 unfold btr at ht
 cases hmx:P.mx
 ·rw [hmx,if_neg (by decide)] at ht
  have HT:Hid (t = true↔r < s):=ht
  clear ht hmx
  obtain ⟨B0,B1,B2,hb,hs⟩:=iT w #[.bool false,.string P.nm,.bool P.p,.slice P.a P.na P.ca,.slice P.d P.nd P.cd,.slice P.va P.vn P.vc,.slice P.ra P.rn P.rc] 31 #[.bool p,.slice a na ca,.slice d nd cd] 27 #[.bool q,.slice b nb cb,.slice e0 ne ce] 27
  have p0:=B0 0 _ rfl
  have a0:=B1 0 _ rfl
  have a1:=B1 1 _ rfl
  have a2:=B1 2 _ rfl
  have b0:=B2 0 _ rfl
  have b1:=B2 1 _ rfl
  have b2:=B2 2 _ rfl
  clear B0 B1 B2
  have hr':=hr.below hb
  have hs':=hs1.below hb
  go_enter Tryz.func58,Tryz.ntmps58
  go_wp2_with fail
  generalize ((w.alloc (.cells #[.bool false,.string P.nm,.bool P.p,.slice P.a P.na P.ca,.slice P.d P.nd P.cd,.slice P.va P.vn P.vc,.slice P.ra P.rn P.rc] 31)).alloc (.cells #[.bool p,.slice a na ca,.slice d nd cd] 27)).alloc (.cells #[.bool q,.slice b nb cb,.slice e0 ne ce] 27) = W0 at *
  obtain ⟨z,ez⟩:∃ z,z = cs r s:=⟨_,rfl⟩
  refine (oH z W0 hr' hs' (by omega) hS1 hR1 ez).mono ?_
  rintro e w1 ⟨rfl,h1⟩
  have hb1:=aB hb h1
  have HT2:Hid (t = decide (z < 0)):=by
   show t = decide (z < 0)
   rw [ez]
   have h2:t = true↔cs r s < 0:=HT.out.trans jA.symm
   cases t
   ·symm
    rw [decide_eq_false_iff_not]
    intro h3
    have:=h2.2 h3
    cases this
   ·symm
    rw [decide_eq_true_iff]
    exact h2.1 rfl
  clear h1 ez HT p0 a0 a1 a2 b0 b1 b2 hr' hs' hb
  go_wp2
  go_ret
  exact ⟨by rw [HT2.out];try simp,hb1⟩
 ·rw [hmx,if_pos rfl] at ht
  have HT:Hid (t = true↔s < r):=ht
  clear ht hmx
  obtain ⟨B0,B1,B2,hb,hs⟩:=iT w #[.bool true,.string P.nm,.bool P.p,.slice P.a P.na P.ca,.slice P.d P.nd P.cd,.slice P.va P.vn P.vc,.slice P.ra P.rn P.rc] 31 #[.bool p,.slice a na ca,.slice d nd cd] 27 #[.bool q,.slice b nb cb,.slice e0 ne ce] 27
  have p0:=B0 0 _ rfl
  have a0:=B1 0 _ rfl
  have a1:=B1 1 _ rfl
  have a2:=B1 2 _ rfl
  have b0:=B2 0 _ rfl
  have b1:=B2 1 _ rfl
  have b2:=B2 2 _ rfl
  clear B0 B1 B2
  have hr':=hr.below hb
  have hs':=hs1.below hb
  go_enter Tryz.func58,Tryz.ntmps58
  go_wp2_with fail
  generalize ((w.alloc (.cells #[.bool true,.string P.nm,.bool P.p,.slice P.a P.na P.ca,.slice P.d P.nd P.cd,.slice P.va P.vn P.vc,.slice P.ra P.rn P.rc] 31)).alloc (.cells #[.bool p,.slice a na ca,.slice d nd cd] 27)).alloc (.cells #[.bool q,.slice b nb cb,.slice e0 ne ce] 27) = W0 at *
  obtain ⟨z,ez⟩:∃ z,z = cs r s:=⟨_,rfl⟩
  refine (oH z W0 hr' hs' (by omega) hS1 hR1 ez).mono ?_
  rintro e w1 ⟨rfl,h1⟩
  have hb1:=aB hb h1
  have HT2:Hid (t = decide (0 < z)):=by
   show t = decide (0 < z)
   rw [ez]
   have h2:t = true↔0 < cs r s:=HT.out.trans iC.symm
   cases t
   ·symm
    rw [decide_eq_false_iff_not]
    intro h3
    have:=h2.2 h3
    cases this
   ·symm
    rw [decide_eq_true_iff]
    exact h2.1 rfl
  clear h1 ez HT p0 a0 a1 a2 b0 b1 b2 hr' hs' hb
  go_wp2
  go_ret
  exact ⟨by rw [HT2.out];try simp,hb1⟩
def PtR (P:Prob) (n:Nat) (X:Nat→Rat) (eS eP eW:Value) (w:World) (e:Ending) (w':World):Prop :=
 Below w.heap.size w w'∧((n ≠ P.vn∧e = .returned eS)∨(n = P.vn∧((¬ bY P n X∧e = .returned eP)∨(bY P n X∧((¬ Whl P n X∧e = .returned eW)∨(Whl P n X∧e = .returned .nilIface))))))
theorem aI2 (P:Prob) {xa:Option Addr} {n xc:Nat} {X:Nat→Rat} {Z:Nat→Nat} {Kx:Nat} (w:World) (hP:PQ w P) (hx:LQ w xa n X Z) (hzx:∀ i,i < n→1≤Z i∧SzR (X i) (Z i)) (htx:tot Z n≤Kx) (hxc:n≤xc) (hK:P.K + Kx≤1048576) (hT:TB w) {eS eP eW:Value} (ES:Errs w 4 eS) (EP:Errs w 5 eP) (EW:Errs w 6 eW) :
 Calls Tryz.prog 22 #[P.val,.slice xa n xc] w fun e w'=>PtR P n X eS eP eW w e w':=by
 unfold Prob.val
 have Pb:=aJ w #[.bool P.mx,.string P.nm,.bool P.p,.slice P.a P.na P.ca,.slice P.d P.nd P.cd,.slice P.va P.vn P.vc,.slice P.ra P.rn P.rc] 31
 have hb0:=aG w (.cells #[.bool P.mx,.string P.nm,.bool P.p,.slice P.a P.na P.ca,.slice P.d P.nd P.cd,.slice P.va P.vn P.vc,.slice P.ra P.rn P.rc] 31)
 have p0:=Pb 0 _ rfl
 have p1:=Pb 1 _ rfl
 have p2:=Pb 2 _ rfl
 have p3:=Pb 3 _ rfl
 have p4:=Pb 4 _ rfl
 have p5:=Pb 5 _ rfl
 have p6:=Pb 6 _ rfl
 have hZx:∀ j,j < n→Z j≤Kx:=fun j hj=>by have:=bI (Z:=Z) hj;omega
 go_enter Tryz.func22,Tryz.ntmps22
 by_cases hn:n = P.vn
 ·have hnI:(n:Int) = (P.vn:Int):=by omega
  have HN:Hid (n = P.vn):=hn
  clear hn
  go_wp2_with fail
  clear p0 p1 p2 p3 p4 p5 p6 hnI
  generalize w.alloc (.cells #[.bool P.mx,.string P.nm,.bool P.p,.slice P.a P.na P.ca,.slice P.d P.nd P.cd,.slice P.va P.vn P.vc,.slice P.ra P.rn P.rc] 31) = W0 at *
  refine (aA1 P (Kx:=Kx) W0 (hP.below hb0) (hx.below hb0) hzx htx hxc hK (hT.below hb0)).mono ?_
  rintro e w1 ⟨b,rfl,hb,h1⟩
  have hb1:=aB hb0 h1
  replace Pb:=Pb.below h1
  have HH:Hid (b = true↔bY P n X):=hb
  clear h1 hb hb0
  cases b
  ·obtain ⟨ec,pp,rfl⟩:=EP.below hb1
   have HL:Hid (¬ bY P n X):=fun h=>by have:=HH.out.2 h;cases this
   clear HH
   go_wp2
   go_ret
   exact ⟨hb1,.inr ⟨HN.out,.inl ⟨HL.out,rfl⟩⟩⟩
  ·have HL:Hid (bY P n X):=HH.out.1 rfl
   clear HH
   have p0:=Pb 0 _ rfl
   have p1:=Pb 1 _ rfl
   have p2:=Pb 2 _ rfl
   have p3:=Pb 3 _ rfl
   have p4:=Pb 4 _ rfl
   have p5:=Pb 5 _ rfl
   have p6:=Pb 6 _ rfl
   go_wp2_with fail
   clear p0 p1 p2 p3 p4 p5 p6 Pb
   refine (aM9 P w1 (hP.below hb1) (hx.below hb1) (fun j hj=>⟨(hzx j hj).1,by have:=hZx j hj;omega⟩) (by omega)).mono ?_
   rintro e w2 ⟨b,rfl,hb,h1⟩
   have hb2:=aB hb1 h1
   have HW:Hid (b = true↔Whl P n X):=hb
   clear h1 hb hb1
   cases b
   ·obtain ⟨ec,pp,rfl⟩:=EW.below hb2
    have HW2:Hid (¬ Whl P n X):=fun h=>by have:=HW.out.2 h;cases this
    clear HW
    go_wp2
    go_ret
    exact ⟨hb2,.inr ⟨HN.out,.inr ⟨HL.out,.inl ⟨HW2.out,rfl⟩⟩⟩⟩
   ·have HW2:Hid (Whl P n X):=HW.out.1 rfl
    clear HW
    go_wp2
    go_ret
    exact ⟨hb2,.inr ⟨HN.out,.inr ⟨HL.out,.inr ⟨HW2.out,rfl⟩⟩⟩⟩
 ·have hnI:¬ (n:Int) = (P.vn:Int):=by omega
  obtain ⟨ec,pp,rfl⟩:=ES.below hb0
  have HN:Hid (n ≠ P.vn):=hn
  clear hn
  go_wp2
  go_ret
  exact ⟨hb0,.inl ⟨HN.out,rfl⟩⟩
def Acc0 (P:Prob) (C:Crt):Prop:=C.vd = 1∧C.xn = P.vn∧C.yn = P.rn∧bY P C.xn C.X∧vlu P C.X = C.v∧okS P C.Y∧pvS P C.Y = C.v
def uO (v:Value):Prop:=∃ p,v = .iface 173 (.pointer (some p))
def ChkB (P:Prob) (C:Crt) (w:World) (e:Ending) (w':World):Prop:=Below w.heap.size w w'∧((∃ v,e = .returned v∧uO v∧¬ Acc0 P C)∨(e = .returned .nilIface∧Snd P C))
theorem chkB (P:Prob) (C:Crt) (w:World) (hP:PQ w P) (hC:CQ w C) (hK:P.K + C.K≤1048576) (hT:TB w) {eS eP eV eR eD:Value} {pB:Addr} (EH:EE w eS eP eV (.iface 173 (.pointer (some pB))) eR eD) :
 Calls Tryz.prog 28 #[P.val,C.val] w fun e w'=>ChkB P C w e w':=by
 by_cases h1:C.vd = 1
 ·refine (chk1 P C w h1 hP hC hK hT EH).mono ?_
  rintro e w' ⟨hb,h⟩
  refine ⟨hb,?_⟩
  rcases h with ⟨hn,h⟩ | ⟨hx,hy,⟨hn,h⟩ | ⟨hl,⟨hn,h⟩ | ⟨hv,⟨hn,h⟩ | ⟨ho,hp,h⟩⟩⟩⟩
  ·exact .inl ⟨_,h,EH.s.2,fun ha=>hn ⟨ha.2.1,ha.2.2.1⟩⟩
  ·exact .inl ⟨_,h,EH.p.2,fun ha=>hn ha.2.2.2.1⟩
  ·exact .inl ⟨_,h,EH.v.2,fun ha=>hn ha.2.2.2.2.1⟩
  ·exact .inl ⟨_,h,EH.b.2,fun ha=>hn ha.2.2.2.2.2⟩
  ·exact .inr ⟨h,.inl ⟨h1,hx,hl,hv,ho,hp⟩⟩
 ·refine (chkA P C w hP hC hK hT EH).mono ?_
  rintro e w' ⟨hb,⟨v,h,h6⟩ | h⟩
  ·refine ⟨hb,.inl ⟨v,h,?_,fun ha=>h1 ha.1⟩⟩
   rcases h6 with rfl | rfl | rfl | rfl | rfl | rfl
   ·exact EH.s.2
   ·exact EH.p.2
   ·exact EH.v.2
   ·exact EH.b.2
   ·exact EH.r.2
   ·exact EH.d.2
  ·exact ⟨hb,.inr h⟩
def aA7 (P:Prob) (C:Crt) (s:Srch):Prop:=(C.vd = 2∧∀ n X,¬ bY P n X)∨(s.vd = 1∧C.vd = 1∧okS P C.Y∧pvS P C.Y = C.v∧¬ btr P C.v s.v)
def AccL (P:Prob) (C:Crt) (s:Srch):Prop:=s.vd = 1∧Acc0 P C∧¬ btr P C.v s.v
def LfR (P:Prob) (C:Crt) (s:Srch) (w:World) (e:Ending) (w':World):Prop:=Below w.heap.size w w'∧((∃ v,e = .returned v∧uO v∧¬ AccL P C s)∨(e = .returned .nilIface∧aA7 P C s))
theorem aR4 (P:Prob) (C:Crt) (s:Srch) (w:World) (hP:PQ w P) (hC:CQ w C) (hS:SQ w s) (hK:P.K + C.K≤1048576) (hKs:s.K≤1048576) (hT:TB w) {eS eP eV eR eD:Value} {pB:Addr} (EH:EE w eS eP eV (.iface 173 (.pointer (some pB))) eR eD) :
 Calls Tryz.prog 27 #[P.val,C.val,s.val] w fun e w'=>LfR P C s w e w':=by
 have hallC:=hC.all
 have hallS:=hS.all
 have hS1:=hS.s1
 have hC1:=hC.s1
 have HCK:∀ W,Below w.heap.size w W→Calls Tryz.prog 28 #[P.val,C.val] W fun e w'=>ChkB P C W e w':=fun W hW=>chkB P C W (hP.below hW) (hC.below hW) hK (hT.below hW) (EH.below hW)
 have HIB:∀ W (tb:Bool),Below w.heap.size w W→(tb = true↔btr P C.v s.v)→Calls Tryz.prog 58 #[P.val,.agg #[.bool C.p,.slice C.a C.na C.ca,.slice C.d C.nd C.cd],.agg #[.bool s.p,.slice s.a s.na s.ca,.slice s.d s.nd s.cd]] W fun e w'=>e = .returned (.bool tb)∧Below W.heap.size W w':=fun W tb hW htb=>aO4 P tb W (hC.v.below hW) (hS.v.below hW) (by omega) hC1 hS1 htb
 clear hallC hallS hS1 hC1 hP hC hS hK hKs hT
 unfold Prob.val Crt.val Srch.val at *
 by_cases h2:C.vd = 2
 ·rw [h2] at HCK
  rw [h2]
  obtain ⟨Pb,Cb,Sb,hb0,_⟩:=iT w #[.bool P.mx,.string P.nm,.bool P.p,.slice P.a P.na P.ca,.slice P.d P.nd P.cd,.slice P.va P.vn P.vc,.slice P.ra P.rn P.rc] 31 #[.int .i64 2,.bool C.p,.slice C.a C.na C.ca,.slice C.d C.nd C.cd,.slice C.xa C.xn C.xc,.slice C.ya C.yn C.yc,.slice C.za C.zn C.zc] 47 #[.int .i64 s.vd,.bool s.p,.slice s.a s.na s.ca,.slice s.d s.nd s.cd,.slice s.xa s.xn s.xc,.slice s.za s.zn s.zc,.slice s.ta s.tn s.tc,.int .i64 s.nn] 35
  have E0:=EH.below hb0
  have HV:Hid (C.vd = 2):=h2
  clear h2
  have p0:=Pb 0 _ rfl
  have p1:=Pb 1 _ rfl
  have p2:=Pb 2 _ rfl
  have p3:=Pb 3 _ rfl
  have p4:=Pb 4 _ rfl
  have p5:=Pb 5 _ rfl
  have p6:=Pb 6 _ rfl
  have c0:=Cb 0 _ rfl
  have c1:=Cb 1 _ rfl
  have c2:=Cb 2 _ rfl
  have c3:=Cb 3 _ rfl
  have c4:=Cb 4 _ rfl
  have c5:=Cb 5 _ rfl
  have c6:=Cb 6 _ rfl
  have s0:=Sb 0 _ rfl
  have s1:=Sb 1 _ rfl
  have s2:=Sb 2 _ rfl
  have s3:=Sb 3 _ rfl
  go_enter Tryz.func27,Tryz.ntmps27
  go_wp2_with fail
  clear p0 p1 p2 p3 p4 p5 p6 c0 c1 c2 c3 c4 c5 c6 s0 s1 s2 s3
  generalize ((w.alloc (.cells #[.bool P.mx,.string P.nm,.bool P.p,.slice P.a P.na P.ca,.slice P.d P.nd P.cd,.slice P.va P.vn P.vc,.slice P.ra P.rn P.rc] 31)).alloc (.cells #[.int .i64 2,.bool C.p,.slice C.a C.na C.ca,.slice C.d C.nd C.cd,.slice C.xa C.xn C.xc,.slice C.ya C.yn C.yc,.slice C.za C.zn C.zc] 47)).alloc (.cells #[.int .i64 s.vd,.bool s.p,.slice s.a s.na s.ca,.slice s.d s.nd s.cd,.slice s.xa s.xn s.xc,.slice s.za s.zn s.zc,.slice s.ta s.tn s.tc,.int .i64 s.nn] 35) = W0 at *
  refine (HCK W0 hb0).mono ?_
  rintro e w1 ⟨h1,⟨v,rfl,⟨pv,rfl⟩,hn⟩ | ⟨rfl,hsn⟩⟩
  ·have hb1:=aB hb0 h1
   have HN:Hid (¬ Acc0 P C):=hn
   clear hn h1 hb0 HCK HIB
   go_wp2
   go_ret
   exact ⟨hb1,.inl ⟨_,rfl,⟨_,rfl⟩,fun ha=>HN.out ha.2.1⟩⟩
  ·have hb1:=aB hb0 h1
   have HN:Hid (Snd P C):=hsn
   replace Pb:=Pb.below h1
   replace Cb:=Cb.below h1
   replace Sb:=Sb.below h1
   have E1:=EH.below hb1
   clear hsn h1 hb0 E0 HCK
   have p0:=Pb 0 _ rfl
   have p1:=Pb 1 _ rfl
   have p2:=Pb 2 _ rfl
   have p3:=Pb 3 _ rfl
   have p4:=Pb 4 _ rfl
   have p5:=Pb 5 _ rfl
   have p6:=Pb 6 _ rfl
   have c0:=Cb 0 _ rfl
   have c1:=Cb 1 _ rfl
   have c2:=Cb 2 _ rfl
   have c3:=Cb 3 _ rfl
   have c4:=Cb 4 _ rfl
   have c5:=Cb 5 _ rfl
   have c6:=Cb 6 _ rfl
   have s0:=Sb 0 _ rfl
   have s1:=Sb 1 _ rfl
   have s2:=Sb 2 _ rfl
   have s3:=Sb 3 _ rfl
   clear HIB
   go_wp2
   go_ret
   refine ⟨hb1,.inr ⟨rfl,.inl ⟨HV.out,?_⟩⟩⟩
   rcases HN.out with ⟨q,_⟩ | ⟨_,q⟩ | ⟨q,_⟩
   ·rw [HV.out] at q;cases q
   ·exact q
   ·rw [HV.out] at q;cases q
 ·by_cases h3:s.vd = 1
  ·by_cases h1:C.vd = 1
   ·rw [h1] at HCK
    rw [h1]
    rw [h3]
    obtain ⟨Pb,Cb,Sb,hb0,_⟩:=iT w #[.bool P.mx,.string P.nm,.bool P.p,.slice P.a P.na P.ca,.slice P.d P.nd P.cd,.slice P.va P.vn P.vc,.slice P.ra P.rn P.rc] 31 #[.int .i64 1,.bool C.p,.slice C.a C.na C.ca,.slice C.d C.nd C.cd,.slice C.xa C.xn C.xc,.slice C.ya C.yn C.yc,.slice C.za C.zn C.zc] 47 #[.int .i64 1,.bool s.p,.slice s.a s.na s.ca,.slice s.d s.nd s.cd,.slice s.xa s.xn s.xc,.slice s.za s.zn s.zc,.slice s.ta s.tn s.tc,.int .i64 s.nn] 35
    have E0:=EH.below hb0
    have HV:Hid (s.vd = 1∧C.vd = 1):=⟨h3,h1⟩
    clear h1 h2 h3
    have p0:=Pb 0 _ rfl
    have p1:=Pb 1 _ rfl
    have p2:=Pb 2 _ rfl
    have p3:=Pb 3 _ rfl
    have p4:=Pb 4 _ rfl
    have p5:=Pb 5 _ rfl
    have p6:=Pb 6 _ rfl
    have c0:=Cb 0 _ rfl
    have c1:=Cb 1 _ rfl
    have c2:=Cb 2 _ rfl
    have c3:=Cb 3 _ rfl
    have c4:=Cb 4 _ rfl
    have c5:=Cb 5 _ rfl
    have c6:=Cb 6 _ rfl
    have s0:=Sb 0 _ rfl
    have s1:=Sb 1 _ rfl
    have s2:=Sb 2 _ rfl
    have s3:=Sb 3 _ rfl
    go_enter Tryz.func27,Tryz.ntmps27
    go_wp2_with fail
    clear p0 p1 p2 p3 p4 p5 p6 c0 c1 c2 c3 c4 c5 c6 s0 s1 s2 s3
    generalize ((w.alloc (.cells #[.bool P.mx,.string P.nm,.bool P.p,.slice P.a P.na P.ca,.slice P.d P.nd P.cd,.slice P.va P.vn P.vc,.slice P.ra P.rn P.rc] 31)).alloc (.cells #[.int .i64 1,.bool C.p,.slice C.a C.na C.ca,.slice C.d C.nd C.cd,.slice C.xa C.xn C.xc,.slice C.ya C.yn C.yc,.slice C.za C.zn C.zc] 47)).alloc (.cells #[.int .i64 1,.bool s.p,.slice s.a s.na s.ca,.slice s.d s.nd s.cd,.slice s.xa s.xn s.xc,.slice s.za s.zn s.zc,.slice s.ta s.tn s.tc,.int .i64 s.nn] 35) = W0 at *
    refine (HCK W0 hb0).mono ?_
    rintro e w1 ⟨h1,⟨v,rfl,⟨pv,rfl⟩,hn⟩ | ⟨rfl,hsn⟩⟩
    ·have hb1:=aB hb0 h1
     have HN:Hid (¬ Acc0 P C):=hn
     clear hn h1 hb0 HCK HIB
     go_wp2
     go_ret
     exact ⟨hb1,.inl ⟨_,rfl,⟨_,rfl⟩,fun ha=>HN.out ha.2.1⟩⟩
    ·have hb1:=aB hb0 h1
     have HN:Hid (Snd P C):=hsn
     replace Pb:=Pb.below h1
     replace Cb:=Cb.below h1
     replace Sb:=Sb.below h1
     have E1:=EH.below hb1
     clear hsn h1 hb0 E0 HCK
     have p0:=Pb 0 _ rfl
     have p1:=Pb 1 _ rfl
     have p2:=Pb 2 _ rfl
     have p3:=Pb 3 _ rfl
     have p4:=Pb 4 _ rfl
     have p5:=Pb 5 _ rfl
     have p6:=Pb 6 _ rfl
     have c0:=Cb 0 _ rfl
     have c1:=Cb 1 _ rfl
     have c2:=Cb 2 _ rfl
     have c3:=Cb 3 _ rfl
     have c4:=Cb 4 _ rfl
     have c5:=Cb 5 _ rfl
     have c6:=Cb 6 _ rfl
     have s0:=Sb 0 _ rfl
     have s1:=Sb 1 _ rfl
     have s2:=Sb 2 _ rfl
     have s3:=Sb 3 _ rfl
     go_wp2_with fail
     clear p0 p1 p2 p3 p4 p5 p6 c0 c1 c2 c3 c4 c5 c6 s0 s1 s2 s3
     obtain ⟨tb,htb⟩:∃ tb:Bool,Hid (tb = true↔btr P C.v s.v):=by
      by_cases h:btr P C.v s.v
      ·exact ⟨true,(show _↔_ from ⟨fun _=>h,fun _=>rfl⟩)⟩
      ·exact ⟨false,(show _↔_ from ⟨fun h=>(by cases h),fun k=>absurd k h⟩)⟩
     refine (HIB w1 tb hb1 htb.out).mono ?_
     rintro e w2 ⟨rfl,h2⟩
     have hb2:=aB hb1 h2
     have E2:=E1.below h2
     clear h2 hb1 E1 HIB
     cases tb
     ·have HB:Hid (¬ btr P C.v s.v):=fun h=>by have:=htb.out.2 h;cases this
      clear htb
      go_wp2
      go_ret
      refine ⟨hb2,.inr ⟨rfl,.inr ⟨HV.out.1,HV.out.2,?_⟩⟩⟩
      rcases HN.out with ⟨_,_,_,_,q1,q2⟩ | ⟨q,_⟩ | ⟨q,_⟩
      ·exact ⟨q1,q2,HB.out⟩
      ·rw [HV.out.2] at q;cases q
      ·rw [HV.out.2] at q;cases q
     ·have HB:Hid (btr P C.v s.v):=htb.out.1 rfl
      obtain ⟨ec,pp,epp⟩:=E2.b
      clear htb
      go_wp2
      go_ret
      exact ⟨hb2,.inl ⟨_,rfl,⟨_,rfl⟩,fun ha=>ha.2.2 HB.out⟩⟩
   ·rw [h3]
    obtain ⟨Pb,Cb,Sb,hb0,_⟩:=iT w #[.bool P.mx,.string P.nm,.bool P.p,.slice P.a P.na P.ca,.slice P.d P.nd P.cd,.slice P.va P.vn P.vc,.slice P.ra P.rn P.rc] 31 #[.int .i64 C.vd,.bool C.p,.slice C.a C.na C.ca,.slice C.d C.nd C.cd,.slice C.xa C.xn C.xc,.slice C.ya C.yn C.yc,.slice C.za C.zn C.zc] 47 #[.int .i64 1,.bool s.p,.slice s.a s.na s.ca,.slice s.d s.nd s.cd,.slice s.xa s.xn s.xc,.slice s.za s.zn s.zc,.slice s.ta s.tn s.tc,.int .i64 s.nn] 35
    have E0:=EH.below hb0
    have bC2:(C.vd == 2) = false:=by simpa using h2
    have nC2:¬ C.vd = 2:=h2
    have bC1:(C.vd == 1) = false:=by simpa using h1
    have nC1:¬ C.vd = 1:=h1
    have HN:Hid (¬ AccL P C s):=fun ha=>h1 ha.2.1.1
    clear h1 h2 h3
    obtain ⟨ec,pp,rfl⟩:=E0.d
    have c0:=Cb 0 _ rfl
    have s0:=Sb 0 _ rfl
    clear HCK HIB Cb Sb Pb
    go_enter Tryz.func27,Tryz.ntmps27
    go_wp2
    go_ret
    exact ⟨hb0,.inl ⟨_,rfl,⟨_,rfl⟩,HN.out⟩⟩
  ·obtain ⟨Pb,Cb,Sb,hb0,_⟩:=iT w #[.bool P.mx,.string P.nm,.bool P.p,.slice P.a P.na P.ca,.slice P.d P.nd P.cd,.slice P.va P.vn P.vc,.slice P.ra P.rn P.rc] 31 #[.int .i64 C.vd,.bool C.p,.slice C.a C.na C.ca,.slice C.d C.nd C.cd,.slice C.xa C.xn C.xc,.slice C.ya C.yn C.yc,.slice C.za C.zn C.zc] 47 #[.int .i64 s.vd,.bool s.p,.slice s.a s.na s.ca,.slice s.d s.nd s.cd,.slice s.xa s.xn s.xc,.slice s.za s.zn s.zc,.slice s.ta s.tn s.tc,.int .i64 s.nn] 35
   have E0:=EH.below hb0
   have bC2:(C.vd == 2) = false:=by simpa using h2
   have nC2:¬ C.vd = 2:=h2
   have bs1:(s.vd == 1) = false:=by simpa using h3
   have ns1:¬ s.vd = 1:=h3
   have HN:Hid (¬ AccL P C s):=fun ha=>h3 ha.1
   clear h2 h3
   obtain ⟨ec,pp,rfl⟩:=E0.d
   have c0:=Cb 0 _ rfl
   have s0:=Sb 0 _ rfl
   clear HCK HIB Cb Sb Pb
   go_enter Tryz.func27,Tryz.ntmps27
   go_wp2
   go_ret
   exact ⟨hb0,.inl ⟨_,rfl,⟨_,rfl⟩,HN.out⟩⟩
theorem uP (w:World) (c0:Array Value) (t0:TypeId) (c1:Array Value) (t1:TypeId):let W:=(w.alloc (.cells c0 t0)).alloc (.cells c1 t1);BoxC W w.heap.size c0.toList∧BoxC W (w.heap.size + 1) c1.toList∧Below w.heap.size w W∧W.heap.size = w.heap.size + 2:=by
 have e1:(w.alloc (.cells c0 t0)).heap.size = w.heap.size + 1:=by simp
 have P1:=aJ (w.alloc (.cells c0 t0)) c1 t1
 rw [e1] at P1
 exact ⟨(aJ w c0 t0).below (aG _ _),P1,gK (aG _ _),by simp⟩
theorem kK {w w':World} {R g:Nat} {cs:List Value} (h:BoxC w R cs) (o:Off g w w') (hne:R ≠ g):BoxC w' R cs:=fun i u hu=>(World.cell?_of_block (o.block R hne)).trans (h i u hu)
def RcR (k:Nat) (to:Int) (tn gb:Nat) (w:World) (e:Ending) (w':World):Prop :=
 (e = .returned (.bool false)∧w' = w)∨(e = .returned (.bool true)∧(k:Int) < to∧to < (tn:Int)∧w' = w.setCell ⟨gb,to.toNat,none⟩ (.bool true))
theorem aI3 (k:Nat) (to:Int) (tn gb tb rb cap tc:Nat) (ta:Option Addr) (R:Nat→Bool) (w:World) (hk:k≤2000000) (hto:IsI to) (c0:w.cell? ⟨tb,0,none⟩ = some (.slice ta tn tc)) (c1:w.cell? ⟨rb,0,none⟩ = some (.slice (some ⟨gb,0,none⟩) tn cap)) (hR:w.rowIs gb 4 tn (fun i=>.bool (R i))) :
 Calls Tryz.prog 52 #[.int .i64 (k:Nat),.int .i64 to,.pointer (some ⟨tb,0,none⟩),.pointer (some ⟨rb,0,none⟩)] w fun e w'=>RcR k to tn gb w e w':=by
 by_cases h1:to≤(k:Int)
 ·go_enter Tryz.func52,Tryz.ntmps52
  go_wp2
  go_ret
  exact .inl ⟨rfl,rfl⟩
 ·by_cases h2:to < (tn:Int)
  ·obtain ⟨t,rfl⟩:∃ t:Nat,to = (t:Int):=⟨to.toNat,by omega⟩
   have htl:t < tn:=by omega
   have hc:=hR.cell htl
   have hf:=hR.frozen t
   obtain ⟨b,hb⟩:∃ b,b = R t:=⟨_,rfl⟩
   simp only [← hb] at hc
   have hkt:(k:Int) < (t:Int):=by omega
   have h2':¬ (tn:Int)≤(t:Int):=by omega
   clear hb hR hto
   cases b
   ·go_enter Tryz.func52,Tryz.ntmps52
    go_wp2
    go_ret
    exact .inr ⟨rfl,hkt,h2,by simp⟩
   ·go_enter Tryz.func52,Tryz.ntmps52
    go_wp2
    go_ret
    exact .inl ⟨rfl,rfl⟩
  ·have h2':(tn:Int)≤to:=by omega
   go_enter Tryz.func52,Tryz.ntmps52
   go_wp2
   go_ret
   exact .inl ⟨rfl,rfl⟩
theorem aR5:∃ i z,Tryz.prog.info? 4 = some i∧i.zero = some z∧i.size = 1∧i.bytes = 1∧z.cells = #[.bool false]:=by
 have h1:(Tryz.prog.info? 4).map (fun i=>(i.size,i.bytes,i.zero.map (·.cells))) = some (1,1,some #[.bool false]):=by kernel_rfl
 obtain ⟨i,hi,h⟩:=Option.map_eq_some_iff.1 h1
 simp only [Prod.mk.injEq] at h
 obtain ⟨z,hz,h2⟩:=Option.map_eq_some_iff.1 h.2.2
 exact ⟨i,z,hi,hz,h.1,h.2.1,h2⟩
theorem uV (w:World) {ops:Array Oper} {rest:List Oper} {o:Oper} {a:Act} {Q:Exit→Act→World→Prop} (hg:o.guard = none) (l c:Operand) (hop:o.op = Op.makeSlice 88 l c)
 (n:Nat) (hl:a.eval l = .int .i64 (n:Int)) (hc:a.eval c = .int .i64 (n:Int)) (hn:n≤100000000)
 (h:∀ w',w'.rowIs w.heap.size 4 n (fun _=>.bool false)→Below w.heap.size w w'→w'.heap.size = w.heap.size + 1→wpList Tryz.prog ops Q rest (a.put o.dst (.slice (some ⟨w.heap.size,0,none⟩) n n)) w'):wpList Tryz.prog ops Q (o :: rest) a w:=by
 obtain ⟨i0,z,hi,hz,hs1,hb1,hz1⟩:=aR5
 have hr:=run_make (P:=Tryz.prog) w 88 4 i0 z Tryz.underlying88 hi hz .i64 .i64 (n:Int) (n:Int) (by omega) (Int.le_refl _) (by rw [hb1];omega) (by omega)
 simp only [Int.toNat_natCast] at hr
 refine wpList_plain hg fun K hK'=>?_
 unfold Oper.wp execOp
 simp only [hop,Sem.run_bind,Sem.run_pure,Result.andThen_ok,hl,hc,hr]
 refine hK' _ _ (h _ ?_ (aG w _) (by simp))
 rw [hz1,hs1,Nat.mul_one]
 exact World.rowIs_made w _ n _
def TrR (P:Prob) (T:Nat→Nod) (tn:Nat) (w:World) (e:Ending) (w':World):Prop:=∃ b,e = .returned (.bool b)∧(b = true→aH2 P T tn)∧(0 < tn→(∀ k,(T k).sp = false)→b = true)∧Below w.heap.size w w'
def Mk (P:Prob) (T:Nat→Nod) (tn i:Nat) (R:Nat→Bool):Prop:=R 0 = true∧∀ k,k < i→R k = true→(T k).sp = true→OkN P T tn k∧R (T k).lf.toNat = true∧R (T k).rt.toNat = true
theorem Mk.skip {P:Prob} {T:Nat→Nod} {tn i:Nat} {R:Nat→Bool} (h:Mk P T tn i R) (hs:R i = true→(T i).sp = false):Mk P T tn (i + 1) R:=⟨h.1,fun k hk hr hsp=>by
 rcases (by omega:k < i∨k = i) with h1 | rfl
 ·exact h.2 k h1 hr hsp
 ·rw [hs hr] at hsp;cases hsp⟩
theorem Mk.split {P:Prob} {T:Nat→Nod} {tn i:Nat} {R:Nat→Bool} (h:Mk P T tn i R) (ho:OkN P T tn i):Mk P T tn (i + 1) (fun j=>if j = (T i).rt.toNat then true else if j = (T i).lf.toNat then true else R j):=by
 have up:∀ j,R j = true→(if j = (T i).rt.toNat then true else if j = (T i).lf.toNat then true else R j) = true:=fun j hj=>by split;rfl;split;rfl;exact hj
 refine ⟨up 0 h.1,fun k hk hr hsp=>?_⟩
 rcases (by omega:k < i∨k = i) with h1 | rfl
 ·have hrk:R k = true:=by
   have h2:=ho.l0;have h3:=ho.r0
   dsimp only at hr
   rw [if_neg (by omega),if_neg (by omega)] at hr
   exact hr
  obtain ⟨a,b,c⟩:=h.2 k h1 hrk hsp
  exact ⟨a,up _ b,up _ c⟩
 ·refine ⟨ho,?_,?_⟩
  ·dsimp only;split;rfl;rw [if_pos rfl]
  ·dsimp only;rw [if_pos rfl]
theorem aR6 (P:Prob) {ta:Option Addr} {tn tc:Nat} {T:Nat→Nod} {Z:Nat→Nat} (w:World) (hP:PQ w P) (hK:P.K≤1048576) (hT:LN w ta tn T Z) (htn:tn≤1048576) :
 Calls Tryz.prog 25 #[P.val,.slice ta tn tc] w fun e w'=>TrR P T tn w e w':=by
 have hvn:P.vn≤1048576:=by have:=hP.all;have:=aT P.ZV P.vn;omega
 unfold Prob.val
 obtain ⟨Pb,Tb,hb0,hs0⟩:=uP w #[.bool P.mx,.string P.nm,.bool P.p,.slice P.a P.na P.ca,.slice P.d P.nd P.cd,.slice P.va P.vn P.vc,.slice P.ra P.rn P.rc] 31 #[.slice ta tn tc] 33
 have t0:=Tb 0 _ rfl
 by_cases h0:tn = 0
 ·subst h0
  go_enter Tryz.func25,Tryz.ntmps25
  go_wp2
  go_ret
  exact ⟨false,rfl,fun h=>(by cases h),fun h=>absurd h (Nat.lt_irrefl _),hb0⟩
 ·have hI0:¬ (tn:Int) = 0:=by omega
  have hB0:((tn:Int) == 0) = false:=by simpa using h0
  go_enter Tryz.func25,Tryz.ntmps25
  go_wp2_with (at_make;refine uV _ rfl _ _ rfl tn rfl rfl (by omega) ?_)
  intro w1 V0 hb1 hs1
  rw [← hs0] at hb1
  generalize (w.alloc (.cells #[.bool P.mx,.string P.nm,.bool P.p,.slice P.a P.na P.ca,.slice P.d P.nd P.cd,.slice P.va P.vn P.vc,.slice P.ra P.rn P.rc] 31)).alloc (.cells #[.slice ta tn tc] 33) = U0 at *
  replace Pb:=Pb.below hb1
  replace Tb:=Tb.below hb1
  replace hb0:=aB hb0 hb1
  clear hb1 hs0 U0 t0
  replace hs1:w1.heap.size = w.heap.size + 3:=hs1
  have tw:=Tb 0 _ rfl
  have f0:=V0.frozen 0
  have g0:=V0.cell (i:=0) (by omega)
  have r0:(w1.alloc (.cells #[.slice (some ⟨w.heap.size + 2,0,none⟩) tn tn] 88)).cell? ⟨w.heap.size + 3,0,none⟩ = some (.slice (some ⟨w.heap.size + 2,0,none⟩) tn tn):=by
   have h:=(Rw.new 88 w1 #[.slice (some ⟨w.heap.size + 2,0,none⟩) tn tn]).cell 0
   rw [hs1] at h
   exact h
  have O:Off (w.heap.size + 2) w1 (w1.setCell ⟨w.heap.size + 2,0,none⟩ (.bool true)):=(Off.refl _ _).set 0 _
  have V2:=(V0.set 0 (.bool true)).alloc (.cells #[.slice (some ⟨w.heap.size + 2,0,none⟩) tn tn] 88)
  have hbx:=aG (w1.setCell ⟨w.heap.size + 2,0,none⟩ (.bool true)) (.cells #[.slice (some ⟨w.heap.size + 2,0,none⟩) tn tn] 88)
  have Rb2:=Rw.new 88 (w1.setCell ⟨w.heap.size + 2,0,none⟩ (.bool true)) #[.slice (some ⟨w.heap.size + 2,0,none⟩) tn tn]
  rw [show (w1.setCell ⟨w.heap.size + 2,0,none⟩ (.bool true)).heap.size = w.heap.size + 3 from O.size.trans hs1] at Rb2
  have Pb2:=(kK Pb O (by omega)).below hbx
  have Tb2:=(kK Tb O (by omega)).below hbx
  have hb2:=aB (hb0.trans (O.below (by omega:w.heap.size≤w.heap.size + 2))) hbx
  have htnp:(0:Int) < (tn:Int):=by omega
  clear V0 hbx Pb Tb hb0 O
  go_wp2_with fail
  clear r0 f0 g0 tw
  generalize (w1.setCell ⟨w.heap.size + 2,0,none⟩ (.bool true)).alloc (.cells #[.slice (some ⟨w.heap.size + 2,0,none⟩) tn tn] 88) = U at *
  clear hs1 w1
  go_loopw [20] (fun s20 wr=>∃ (i:Nat) (R:Nat→Bool),i≤tn∧s20 = .int .i64 i∧Hid (Mk P T tn i R)∧wr.rowIs (w.heap.size + 2) 4 tn (fun i=>.bool (R i))∧Rw 88 wr (w.heap.size + 3) #[.slice (some ⟨w.heap.size + 2,0,none⟩) tn tn]∧BoxC wr w.heap.size (#[.bool P.mx,.string P.nm,.bool P.p,.slice P.a P.na P.ca,.slice P.d P.nd P.cd,.slice P.va P.vn P.vc,.slice P.ra P.rn P.rc]:Array Value).toList∧BoxC wr (w.heap.size + 1) [.slice ta tn tc]∧Below w.heap.size w wr) (fun s20 _=>tn - (intOf s20).toNat)
  case atStart=>exact ⟨0,fun j=>if j = 0 then true else false,Nat.zero_le _,rfl,⟨rfl,fun k hk=>by omega⟩,V2.congr (fun j hj=>by dsimp only;by_cases hq:j = 0 <;> simp [hq]),Rb2,Pb2,Tb2,hb2⟩
  case round =>
   clear V2 Rb2 Pb2 Tb2 hb2
   obtain ⟨i,R,hi,rfl,HM,V,Rb,Pb,Tb,hbel⟩:=hrel
   by_cases hlt:i < tn
   ·have hkI:(i:Int) < (tn:Int):=by omega
    rcases (hT.below hbel) with h00 | ⟨b,o,rfl,hN⟩
    ·exact absurd h00 h0
    have hN1:=hN i hlt
    obtain ⟨sp,esp⟩:∃ sp,sp = (T i).sp:=⟨_,rfl⟩
    obtain ⟨vr,evr⟩:∃ vr,vr = (T i).var:=⟨_,rfl⟩
    obtain ⟨lf,elf⟩:∃ lf,lf = (T i).lf:=⟨_,rfl⟩
    obtain ⟨rt,ert⟩:∃ rt,rt = (T i).rt:=⟨_,rfl⟩
    have y0:wr.cell? ⟨b,o + i * 13,none⟩ = some (.bool (T i).sp):=hN1.c 0 _ rfl
    have y1:=hN1.c 1 _ rfl
    have y2:=hN1.c 2 _ rfl
    have y3:=hN1.c 3 _ rfl
    have y4:=hN1.c 4 _ rfl
    have y5:=hN1.c 5 _ rfl
    have y6:=hN1.c 6 _ rfl
    have y7:=hN1.c 7 _ rfl
    have y8:=hN1.c 8 _ rfl
    have y9:=hN1.c 9 _ rfl
    have y10:=hN1.c 10 _ rfl
    have y11:=hN1.c 11 _ rfl
    have y12:=hN1.c 12 _ rfl
    have hil:=hN1.l
    have hir:=hN1.r
    have hiv:=hN1.v
    rw [← esp] at y0
    rw [← evr] at y1 hiv
    rw [← elf] at y4 hil
    rw [← ert] at y5 hir
    have HE:Hid (sp = (T i).sp∧vr = (T i).var∧lf = (T i).lf∧rt = (T i).rt):=⟨esp,evr,elf,ert⟩
    have hkI2:(i:Int) * 13 = ((i * 13:Nat):Int):=by omega
    have hz:=aG wr (.cells #[.bool sp,.int .i64 vr,.bool (T i).p,.slice (T i).a (T i).na (T i).ca,.int .i64 lf,.int .i64 rt,.int .i64 (T i).C.vd,.bool (T i).C.p,.slice (T i).C.a (T i).C.na (T i).C.ca,.slice (T i).C.d (T i).C.nd (T i).C.cd,.slice (T i).C.xa (T i).C.xn (T i).C.xc,.slice (T i).C.ya (T i).C.yn (T i).C.yc,.slice (T i).C.za (T i).C.zn (T i).C.zc] 49)
    have Nb:=Rw.new 49 wr #[.bool sp,.int .i64 vr,.bool (T i).p,.slice (T i).a (T i).na (T i).ca,.int .i64 lf,.int .i64 rt,.int .i64 (T i).C.vd,.bool (T i).C.p,.slice (T i).C.a (T i).C.na (T i).C.ca,.slice (T i).C.d (T i).C.nd (T i).C.cd,.slice (T i).C.xa (T i).C.xn (T i).C.xc,.slice (T i).C.ya (T i).C.yn (T i).C.yc,.slice (T i).C.za (T i).C.zn (T i).C.zc]
    have hbelE:=aB hbel hz
    have t0:=Tb 0 _ rfl
    have hcb:=V.cell hlt
    obtain ⟨rb,hrb⟩:∃ rb,rb = R i:=⟨_,rfl⟩
    simp only [← hrb] at hcb
    have hV2:=V.alloc (.cells #[.bool sp,.int .i64 vr,.bool (T i).p,.slice (T i).a (T i).na (T i).ca,.int .i64 lf,.int .i64 rt,.int .i64 (T i).C.vd,.bool (T i).C.p,.slice (T i).C.a (T i).C.na (T i).C.ca,.slice (T i).C.d (T i).C.nd (T i).C.cd,.slice (T i).C.xa (T i).C.xn (T i).C.xc,.slice (T i).C.ya (T i).C.yn (T i).C.yc,.slice (T i).C.za (T i).C.zn (T i).C.zc] 49)
    have Rb2:=Rb.below hz
    have Pb2:=Pb.below hz
    have Tb2:=Tb.below hz
    have r0:=Rb2.cell 0
    have hcb2:=hV2.cell hlt
    simp only [← hrb] at hcb2
    have HRB:Hid (rb = R i):=hrb
    clear hN hN1 esp evr elf ert hrb V Rb Pb Tb hbel hT
    cases rb
    ·have HM2:Hid (Mk P T tn (i + 1) R):=HM.out.skip (fun h=>by rw [← HRB.out] at h;cases h)
     clear HM
     go_wp2
     go_roundw
     case rel=>first | exact ⟨i + 1,R,by omega,by go_num,HM2,hV2,Rb2,Pb2,Tb2,hbelE⟩ | ((repeat apply Exists.intro);refine ⟨?_,rfl⟩;exact ⟨i + 1,R,by omega,by go_num,HM2,hV2,Rb2,Pb2,Tb2,hbelE⟩)
     case measure=>simp [intOf];omega
    ·cases sp
     ·have HM2:Hid (Mk P T tn (i + 1) R):=HM.out.skip (fun _=>HE.out.1.symm)
      clear HM
      go_wp2
      go_roundw
      case rel=>first | exact ⟨i + 1,R,by omega,by go_num,HM2,hV2,Rb2,Pb2,Tb2,hbelE⟩ | ((repeat apply Exists.intro);refine ⟨?_,rfl⟩;exact ⟨i + 1,R,by omega,by go_num,HM2,hV2,Rb2,Pb2,Tb2,hbelE⟩)
      case measure=>simp [intOf];omega
     ·have p5:=Pb2 5 _ rfl
      by_cases hv0:vr < 0
      ·go_wp2
       go_ret
       exact ⟨false,rfl,fun h=>(by cases h),fun _ h=>absurd (h i) (by rw [← HE.out.1];decide),hbelE⟩
      ·by_cases hv1:vr < (P.vn:Int)
       ·obtain ⟨v,rfl⟩:∃ v:Nat,vr = (v:Int):=⟨vr.toNat,by omega⟩
        have hvl:v < P.vn:=by omega
        rcases (hP.v.below hbelE) with h00 | ⟨bv,ov,hva,hev⟩
        ·omega
        have hw:=(hev v hvl).whole
        obtain ⟨wh,ewh⟩:∃ wh,wh = (P.V v).whole:=⟨_,rfl⟩
        rw [← ewh] at hw
        have HW:Hid (wh = (P.V v).whole):=ewh
        have hkV:(v:Int) * 13 = ((v * 13:Nat):Int):=by omega
        have hv1':¬ (P.vn:Int)≤(v:Int):=by omega
        clear hev ewh
        cases wh
        ·go_wp2
         go_ret
         exact ⟨false,rfl,fun h=>(by cases h),fun _ h=>absurd (h i) (by rw [← HE.out.1];decide),hbelE⟩
        ·go_wp2_with fail
         rw [← hva]
         have n4:=Nb.cell 4
         have n5:=Nb.cell 5
         clear y0 y1 y2 y3 y4 y5 y6 y7 y8 y9 y10 y11 y12 hcb hcb2 t0 r0 p5 hw hva
         generalize wr.alloc (.cells #[.bool true,.int .i64 (v:Int),.bool (T i).p,.slice (T i).a (T i).na (T i).ca,.int .i64 lf,.int .i64 rt,.int .i64 (T i).C.vd,.bool (T i).C.p,.slice (T i).C.a (T i).C.na (T i).C.ca,.slice (T i).C.d (T i).C.nd (T i).C.cd,.slice (T i).C.xa (T i).C.xn (T i).C.xc,.slice (T i).C.ya (T i).C.yn (T i).C.yc,.slice (T i).C.za (T i).C.zn (T i).C.zc] 49) = Wn at *
         obtain ⟨H,hH⟩:∃ H,wr.heap.size = H:=⟨_,rfl⟩
         rw [hH] at Nb n4 n5 ⊢
         clear hz hH
         refine (aI3 i lf tn (w.heap.size + 2) (w.heap.size + 1) (w.heap.size + 3) tn tc _ R Wn (by omega) hil (Tb2 0 _ rfl) (Rb2.cell 0) hV2).mono ?_
         rintro e w2 (⟨rfl,rfl⟩ | ⟨rfl,q1,q2,rfl⟩)
         ·clear n4 n5
          go_wp2
          go_ret
          exact ⟨false,rfl,fun h=>(by cases h),fun _ h=>absurd (h i) (by rw [← HE.out.1];decide),hbelE⟩
         ·have HQ1:Hid ((i:Int) < lf∧lf < (tn:Int)):=⟨q1,q2⟩
          have O1:Off (w.heap.size + 2) Wn (Wn.setCell ⟨w.heap.size + 2,lf.toNat,none⟩ (.bool true)):=(Off.refl _ _).set _ _
          have hV3:=(hV2.set lf.toNat (.bool true)).congr (g:=fun j=>.bool (if j = lf.toNat then true else R j)) (fun j hj=>by by_cases hq:j = lf.toNat <;> simp [hq])
          have Rb3:=Rb2.off O1 (by omega)
          have Pb3:=kK Pb2 O1 (by omega)
          have Tb3:=kK Tb2 O1 (by omega)
          have hnH:H ≠ w.heap.size + 2:=fun e=>by
           have h1:=Nb
           unfold Rw at h1
           rw [e] at h1
           obtain ⟨cur,h2,_⟩:=hV2
           rw [h1] at h2
           simp at h2
          have Nb3:=Nb.off O1 hnH
          have hbelE3:=hbelE.trans (O1.below (by omega:w.heap.size≤w.heap.size + 2))
          have n5':=Nb3.cell 5
          clear q1 q2 hV2 Rb2 Pb2 Tb2 Nb O1 n4 n5 hbelE hnH
          generalize Wn.setCell ⟨w.heap.size + 2,lf.toNat,none⟩ (.bool true) = Wm at *
          go_wp2_with fail
          refine (aI3 i rt tn (w.heap.size + 2) (w.heap.size + 1) (w.heap.size + 3) tn tc _ _ Wm (by omega) hir (Tb3 0 _ rfl) (Rb3.cell 0) hV3).mono ?_
          rintro e w2 (⟨rfl,rfl⟩ | ⟨rfl,q1,q2,rfl⟩)
          ·clear n5'
           have hbelE:=hbelE3
           go_wp2
           go_ret
           exact ⟨false,rfl,fun h=>(by cases h),fun _ h=>absurd (h i) (by rw [← HE.out.1];decide),hbelE⟩
          ·have O1:Off (w.heap.size + 2) Wm (Wm.setCell ⟨w.heap.size + 2,rt.toNat,none⟩ (.bool true)):=(Off.refl _ _).set _ _
           have hV4:=(hV3.set rt.toNat (.bool true)).congr (g:=fun j=>.bool (if j = rt.toNat then true else if j = lf.toNat then true else R j)) (fun j hj=>by by_cases hq:j = rt.toNat <;> simp [hq])
           have Rb4:=Rb3.off O1 (by omega)
           have Pb4:=kK Pb3 O1 (by omega)
           have Tb4:=kK Tb3 O1 (by omega)
           have hbelE4:=hbelE3.trans (O1.below (by omega:w.heap.size≤w.heap.size + 2))
           have HM2:Hid (Mk P T tn (i + 1) (fun j=>if j = rt.toNat then true else if j = lf.toNat then true else R j)):=by
            obtain ⟨x1,x2,x3,x4⟩:=HE.out
            have hok:OkN P T tn i:=⟨by rw [← x2];omega,by rw [← x2];omega,by rw [← x2,Int.toNat_natCast];exact HW.out.symm,by rw [← x3];exact HQ1.out.1,by rw [← x3];exact HQ1.out.2,by rw [← x4];exact q1,by rw [← x4];exact q2⟩
            have:=HM.out.split hok
            rw [← x3,← x4] at this
            exact this
           clear HM HE HW HQ1 q1 q2 hV3 Rb3 Pb3 Tb3 O1 n5' hbelE3 Nb3
           generalize Wm.setCell ⟨w.heap.size + 2,rt.toNat,none⟩ (.bool true) = Wo at *
           go_wp2
           go_roundw
           case rel=>first | exact ⟨i + 1,_,by omega,by go_num,HM2,hV4,Rb4,Pb4,Tb4,hbelE4⟩ | ((repeat apply Exists.intro);refine ⟨?_,rfl⟩;exact ⟨i + 1,_,by omega,by go_num,HM2,hV4,Rb4,Pb4,Tb4,hbelE4⟩)
           case measure=>simp [intOf];omega
       ·have hv1':(P.vn:Int)≤vr:=by omega
        go_wp2
        go_ret
        exact ⟨false,rfl,fun h=>(by cases h),fun _ h=>absurd (h i) (by rw [← HE.out.1];decide),hbelE⟩
   ·have hkI:¬ (i:Int) < (tn:Int):=by omega
    obtain rfl:i = tn:=by omega
    go_wp2
    go_ret
    exact ⟨true,rfl,fun _=>aK2 (by omega) HM.out.1 HM.out.2,fun _ _=>rfl,hbel⟩
end Go.Proofs.YtnokmjmefipplaaGreatDoor

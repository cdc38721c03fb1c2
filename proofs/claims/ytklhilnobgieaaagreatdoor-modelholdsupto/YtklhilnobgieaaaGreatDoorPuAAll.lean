import Derived.Test.YtklhilnobgieaaaGreatDoorRatAll
import Derived.Test.YtklhilnobgieaaaGreatDoorLentAll
import Derived.Test.YtklhilnobgieaaaGreatDoorPqDAll
import Derived.Test.YtklhilnobgieaaaGreatDoorQAll
import Derived.Test.YtklhilnobgieaaaGreatDoorQ3OAll
import Derived.Test.YtklhilnobgieaaaGreatDoorPqGAll
import Derived.Test.YtklhilnobgieaaaGreatDoorRlAll
namespace Go.Proofs.YtklhilnobgieaaaGreatDoor
open Go.RowKit
theorem den_one {p q:Bool} {m k:Int} {r:Rat} (hm:0≤m) (hk:0 < k) (h:Rat.divInt (ws p m) (ws q k) = r):m % k = 0↔r.den = 1:=by
 have hd:=low_den p q hm hk
 rw [h] at hd
 obtain ⟨M,rfl⟩:=Int.eq_ofNat_of_zero_le hm
 obtain ⟨K,rfl⟩:=Int.eq_ofNat_of_zero_le (Int.le_of_lt hk)
 simp only [Int.toNat_natCast] at hd
 have hK:0 < K:=by omega
 have hg:0 < Nat.gcd M K:=Nat.gcd_pos_of_pos_right _ hK
 have hdn:r.den = K / Nat.gcd M K:=by
  rw [← Int.natCast_ediv] at hd
  exact Int.ofNat.inj hd
 have hmod:((M:Int) % (K:Int) = 0)↔M % K = 0:=by
  rw [← Int.natCast_emod]
  exact Int.natCast_eq_zero
 rw [hmod,hdn]
 constructor
 ·intro h0
  have:Nat.gcd M K = K:=Nat.gcd_eq_right (Nat.dvd_of_mod_eq_zero h0)
  rw [this,Nat.div_self hK]
 ·intro h1
  have h2:K = Nat.gcd M K:=by
   have h3:=Nat.div_mul_cancel (Nat.gcd_dvd_right M K)
   rw [h1,Nat.one_mul] at h3
   exact h3.symm
  exact Nat.mod_eq_zero_of_dvd (h2 ▸ Nat.gcd_dvd_left M K)
set_option maxHeartbeats 4000000 in
theorem isWholeQ {p:Bool} {a:Option Addr} {na ca:Nat} {d:Option Addr} {nd cd:Nat} {r:Rat} {S:Nat} (w:World) (hr:TR w p a na ca d nd cd r S) (hS:S≤9000000) (hS1:1≤S) :
  Calls Tryz.prog 44 #[.agg #[.bool p,.slice a na ca,.slice d nd cd]] w fun e w'=>e = .returned (.bool (decide (r.den = 1)))∧Below w.heap.size w w':=by
 have P0:=var3_new w (.bool p) (.slice a na ca) (.slice d nd cd) 27
 have hb0:=bel_d0 w (.cells #[.bool p,.slice a na ca,.slice d nd cd] 27)
 have hsz:(w.alloc (.cells #[.bool p,.slice a na ca,.slice d nd cd] 27)).heap.size = w.heap.size + 1:=by simp
 replace hr:=hr.below hb0
 go_enter Tryz.func44,Tryz.ntmps44
 obtain ⟨p0c0,p0c1,p0c2,p0c3,p0c4,p0c5⟩:=id P0
 go_wp2_with fail
 generalize w.alloc (.cells #[.bool p,.slice a na ca,.slice d nd cd] 27) = W0 at *
 refine (partsR _ hr (by omega) hS1).mono ?_
 rintro e w1 ⟨f1,c1,n1,k1,f2,c2,n2,k2,x1,y1,rfl,T1,T2,hy1,hq1,hx⟩
 clear p0c0 p0c1 p0c2 p0c3 p0c4 p0c5
 replace hr:=hr.below hx
 replace P0:=P0.below hx
 replace hb0:=bel_tr hb0 hx
 have hsw1:W0.heap.size≤w1.heap.size:=Below.size hx
 clear hx
 obtain ⟨p0c0,p0c1,p0c2,p0c3,p0c4,p0c5⟩:=id P0
 clear p0c0 p0c1 p0c2 p0c3 p0c4 p0c5 P0
 clear hr
 obtain ⟨m1,N1,e1⟩:=id T1
 obtain ⟨m2,N2,e2⟩:=id T2
 have hm1:=N1.nn
 have hm2:0 < m2:=by
  have h:=N2.nn
  rcases (by omega:m2 = 0∨0 < m2) with h1 | h1
  ·subst h1;rw [ws_zero] at e2;omega
  ·exact h1
 have HDN:Hid (m1 % m2 = 0↔r.den = 1):=den_one (p:=f1) (q:=f2) hm1 hm2 (by rw [e1,e2];exact hq1)
 clear T1 T2 e1 e2
 go_wp2_with fail
 refine (quoI f1 f2 _ N1 N2 (by omega) (by omega) hm2).mono ?_
 rintro e w2 ⟨c3,n3,k3,c4,n4,k4,rfl,K1,K2,-,hx⟩
 replace hb0:=bel_tr hb0 hx
 have hsw2:w1.heap.size≤w2.heap.size:=Below.size hx
 clear hx
 clear K1 N1 N2
 obtain ⟨B1,hB1⟩:∃ b,decide (ws (f1 != f2) (m1 / m2) < 0) = b:=⟨_,rfl⟩
 obtain ⟨B2,hB2⟩:∃ b,decide (ws f1 (m1 % m2) < 0) = b:=⟨_,rfl⟩
 have z2:=ws_dec (b:=f1) K2.pos.1
 rw [hB2] at z2
 have HZ:Hid (ws B2 (m1 % m2) = 0↔r.den = 1):=by
  rw [z2]
  refine ⟨fun h=>HDN.out.1 ?_,fun h=>?_⟩
  ·unfold ws at h;cases f1 <;> simp at h <;> omega
  ·rw [HDN.out.2 h,ws_zero]
 rw [hB1,hB2]
 clear hB1 hB2 z2 HDN
 obtain ⟨V1,V2,hx,hsxw3⟩:=box2 w2 (.bool B1) (.slice c3 n3 k3) (.bool B2) (.slice c4 n4 k4) 25
 replace K2:=K2.below hx
 replace hb0:=bel_tr hb0 hx
 have hsw3:w2.heap.size≤((w2.alloc (.cells #[.bool B1,.slice c3 n3 k3] 25)).alloc (.cells #[.bool B2,.slice c4 n4 k4] 25)).heap.size:=Below.size hx
 clear hx
 obtain ⟨v1c0,v1c1,v1c2,v1c3⟩:=id V1
 obtain ⟨v2c0,v2c1,v2c2,v2c3⟩:=id V2
 go_wp2_with fail
 generalize (w2.alloc (.cells #[.bool B1,.slice c3 n3 k3] 25)).alloc (.cells #[.bool B2,.slice c4 n4 k4] 25) = w3 at *
 refine (signI B2 _ K2.num (by omega)).mono ?_
 rintro e w4 ⟨rfl,hx⟩
 clear v1c0 v1c1 v1c2 v1c3 v2c0 v2c1 v2c2 v2c3
 replace K2:=K2.below hx
 replace V1:=V1.below hx
 replace V2:=V2.below hx
 replace hb0:=bel_tr hb0 hx
 have hsw4:w3.heap.size≤w4.heap.size:=Below.size hx
 clear hx
 obtain ⟨v1c0,v1c1,v1c2,v1c3⟩:=id V1
 obtain ⟨v2c0,v2c1,v2c2,v2c3⟩:=id V2
 clear K2
 clear v1c0 v1c1 v1c2 v1c3 v2c0 v2c1 v2c2 v2c3
 clear V1 V2
 have HF:Hid (((ws B2 (m1 % m2)).sign == 0) = decide (r.den = 1)):=by
  show _ = _
  by_cases h:r.den = 1
  ·rw [HZ.out.2 h,decide_eq_true h];rfl
  ·rw [decide_eq_false h]
   have h2:ws B2 (m1 % m2) ≠ 0:=fun e=>h (HZ.out.1 e)
   have h3:(ws B2 (m1 % m2)).sign ≠ 0:=fun e=>h2 (Int.sign_eq_zero_iff_zero.1 e)
   simpa using h3
 go_wp2
 go_ret
 exact ⟨by rw [← HF.out];rfl,hb0⟩
def Whl (P:Prob) (n:Nat) (X:Nat→Rat):Prop:=n = P.vn∧∀ j,j < P.vn→(P.V j).whole = true→(X j).den = 1
set_option maxRecDepth 100000 in
set_option maxHeartbeats 8000000 in
theorem wholeQ (P:Prob) {xa:Option Addr} {n xc:Nat} {X:Nat→Rat} {Z:Nat→Nat} (w:World) (hP:PQ w P) (hx:LQ w xa n X Z) (hz0:∀ j,j < n→1≤Z j∧Z j≤6000000) (hK:P.K≤1048576) :
  Calls Tryz.prog 21 #[P.val,.slice xa n xc] w fun e w'=>∃ b,e = .returned (.bool b)∧(b = true↔Whl P n X)∧Below w.heap.size w w':=by
 have HZ0:Hid (∀ j,j < n→1≤Z j∧Z j≤6000000):=hz0
 have hvn:P.vn≤1048576:=by have:=hP.all;have:=tot_len P.ZV P.vn;omega
 clear hz0
 unfold Prob.val
 have hb:=bel_d0 w (.cells #[.bool P.mx,.string P.nm,.bool P.p,.slice P.a P.na P.ca,.slice P.d P.nd P.cd,.slice P.va P.vn P.vc,.slice P.ra P.rn P.rc] 31)
 by_cases hnv:n = P.vn
 ·subst hnv
  go_enter Tryz.func21,Tryz.ntmps21
  go_wp2
  generalize w.alloc (.cells #[.bool P.mx,.string P.nm,.bool P.p,.slice P.a P.na P.ca,.slice P.d P.nd P.cd,.slice P.va P.vn P.vc,.slice P.ra P.rn P.rc] 31) = W at *
  go_loopw [16] (fun s16 wr=>∃ (i:Nat),i≤P.vn∧s16 = .int .i64 i∧(∀ j,j < i→(P.V j).whole = true→(X j).den = 1)∧Below w.heap.size w wr) (fun s16 _=>P.vn - (intOf s16).toNat)
  case atStart=>exact ⟨0,Nat.zero_le _,rfl,fun j hj=>by omega,hb⟩
  case round =>
   obtain ⟨i,hi,rfl,HY,hbel⟩:=hrel
   by_cases hlt:i < P.vn
   ·have hkI:(i:Int) < (P.vn:Int):=by omega
    rcases (hx.below hbel) with h0 | ⟨bx,ox,rfl,helx⟩
    ·omega
    obtain ⟨pA,aA,nA,cA,dA,mA,lA,c0,c1,c2,hA⟩:=helx i (by omega)
    rcases (hP.v.below hbel) with h0 | ⟨bv,ov,hva,hev⟩
    ·omega
    have hV:=hev i hlt
    obtain ⟨hzi1,hzi2⟩:=HZ0.out i (by omega)
    obtain ⟨nmV,enm⟩:∃ nmV,nmV = (P.V i).nm:=⟨_,rfl⟩
    obtain ⟨hl,ehl⟩:∃ hl,hl = (P.V i).hlo:=⟨_,rfl⟩
    obtain ⟨hh,ehh⟩:∃ hh,hh = (P.V i).hhi:=⟨_,rfl⟩
    obtain ⟨wh,ewh⟩:∃ wh,wh = (P.V i).whole:=⟨_,rfl⟩
    have r0:=hV.nm
    obtain ⟨pO,aO,nO,cO,dO,mO,lO,r1,r2,r3,_⟩:=hV.obj
    have r4:=hV.hlo
    obtain ⟨pl,al,nl,cl,dl,ml,ll,r5,r6,r7,_⟩:=hV.lo
    have r8:=hV.hhi
    obtain ⟨ph,ah,nh,ch,dh,mh,lh,r9,r10,r11,_⟩:=hV.hi
    have r12:=hV.whole
    rw [← enm] at r0
    rw [← ehl] at r4
    rw [← ehh] at r8
    rw [← ewh] at r12
    have HE:Hid (wh = (P.V i).whole):=ewh
    have hkI2:(i:Int) * 13 = ((i * 13:Nat):Int):=by omega
    have hkI3:(i:Int) * 3 = ((i * 3:Nat):Int):=by omega
    have hva':P.va = some ⟨bv,ov,none⟩:=hva
    have hz:=bel_d0 wr (.cells #[.string nmV,.bool pO,.slice aO nO cO,.slice dO mO lO,.bool hl,.bool pl,.slice al nl cl,.slice dl ml ll,.bool hh,.bool ph,.slice ah nh ch,.slice dh mh lh,.bool wh] 53)
    have hbel2:=bel_tr hbel hz
    clear hev hV enm ehl ehh ewh hva helx
    cases wh
    ·have HY':∀ j,j < i + 1→(P.V j).whole = true→(X j).den = 1:=by
      intro j hj hw
      rcases (by omega:j < i∨j = i) with h | rfl
      ·exact HY j h hw
      ·rw [← HE.out] at hw;cases hw
     clear HY HE
     go_wp2
     go_roundw
     case rel=>first | exact ⟨i + 1,by omega,by go_num,HY',hbel2⟩ | ((repeat apply Exists.intro);refine ⟨?_,rfl⟩;exact ⟨i + 1,by omega,by go_num,HY',hbel2⟩)
     case measure=>simp [intOf];omega
    ·replace c0:=kept_c hz c0
     replace c1:=kept_c hz c1
     replace c2:=kept_c hz c2
     replace hA:=hA.below hz
     go_wp2_with fail
     refine (isWholeQ _ hA (by omega) (by omega)).mono ?_
     rintro e v1 ⟨rfl,hb1⟩
     replace hbel2:=bel_tr hbel2 hb1
     obtain ⟨bq,ebq⟩:∃ bq,bq = decide ((X i).den = 1):=⟨_,rfl⟩
     rw [← ebq]
     have EB:Hid (bq = decide ((X i).den = 1)):=ebq
     clear ebq c0 c1 c2 r0 r1 r2 r3 r4 r5 r6 r7 r8 r9 r10 r11 r12 hb1 hA hz
     cases bq
     ·go_wp2
      go_ret
      refine ⟨false,rfl,⟨(fun h=>by cases h),fun h=>?_⟩,hbel2⟩
      have h2:=h.2 i hlt HE.out.symm
      have h3:=EB.out
      rw [decide_eq_true h2] at h3
      cases h3
     ·have HY':∀ j,j < i + 1→(P.V j).whole = true→(X j).den = 1:=by
       intro j hj hw
       rcases (by omega:j < i∨j = i) with h | rfl
       ·exact HY j h hw
       ·exact of_decide_eq_true EB.out.symm
      clear HY
      clear hva'
      go_wp2
      go_roundw
      case rel=>first | exact ⟨i + 1,by omega,by go_num,HY',hbel2⟩ | ((repeat apply Exists.intro);refine ⟨?_,rfl⟩;exact ⟨i + 1,by omega,by go_num,HY',hbel2⟩)
      case measure=>simp [intOf];omega
   ·have hkI:¬ (i:Int) < (P.vn:Int):=by omega
    obtain rfl:i = P.vn:=by omega
    go_wp2
    go_ret
    exact .inr ⟨rfl,⟨rfl,HY⟩,hbel⟩
 ·have hnI:¬ ((n:Int) = (P.vn:Int)):=by omega
  go_enter Tryz.func21,Tryz.ntmps21
  go_wp2
  go_ret
  exact ⟨false,rfl,⟨(fun h=>by cases h),fun h=>absurd h.1 hnv⟩,hb⟩
theorem Got.one {w:World} {B:Nat} {a:Option Addr} {n c:Nat} {x:Int} {S:Nat} (h:Got w B (.slice a n c) x S):(n = 1→∃ g v,a = some ⟨g,0,none⟩∧w.cell? ⟨g,0,none⟩ = some (.int .u64 v)∧v = x)∧(x = 1→n = 1):=by
 obtain ⟨xs,h1,h2,h3,h4⟩:=h
 rcases h1.row with ⟨e1,e2⟩ | ⟨g,c',e1,hB,hr⟩
 ·subst e2
  simp only [Value.slice.injEq] at e1
  obtain ⟨rfl,rfl,rfl⟩:=e1
  refine ⟨fun h=>absurd h (by decide),fun h=>?_⟩
  rw [h] at h3
  simp [Go.Proofs.YtklhilnobgieaaaGreatDoor.val,vS] at h3
 ·simp only [Value.slice.injEq] at e1
  obtain ⟨rfl,e2,rfl⟩:=e1
  refine ⟨fun h=>⟨g,lm xs 0,rfl,hr.cell (by omega),?_⟩,fun h=>?_⟩
  ·rw [← h3]
   have e:xs.length = 1:=by omega
   show lm xs 0 = vS xs xs.length
   rw [e];simp [vS,pw]
  ·have h5:=val_lt_tlen h2.1
   rw [e2]
   have h6:tlen xs = xs.length:=h2.2
   rw [h3,h] at h5
   have h7:=tlen_zero h2.1
   rw [h3,h] at h7
   rcases (by omega:xs.length = 1∨xs.length = 0∨2≤xs.length) with q | q | q
   ·exact q
   ·omega
   ·exfalso
    obtain ⟨k,hk⟩:∃ k,xs.length = k + 1:=⟨xs.length - 1,by omega⟩
    have hne:=(tl_spec xs xs.length).2 (by show 0 < tlen xs;omega)
    have e3:tl xs xs.length = k + 1:=by show tlen xs = _;omega
    rw [e3,Nat.add_sub_cancel] at hne
    have hv:Go.Proofs.YtklhilnobgieaaaGreatDoor.val xs = vS xs k + lm xs k * pw k:=by show vS xs xs.length = _;rw [hk];rfl
    have b1:=(vS_nn h2.1 k).1
    have b2:=(h2.1.at k).1
    have b3:pw 1≤pw k:=pw_mono (by omega)
    have b4:pw 1 = 18446744073709551616:=by simp [pw]
    have b5:pw k≤lm xs k * pw k:=by
     have:=Int.mul_le_mul_of_nonneg_right (show 1≤lm xs k by omega) (Int.le_of_lt (pw_pos k))
     omega
    omega
set_option maxHeartbeats 4000000 in
theorem isWholeD (t:Bool) {p:Bool} {a:Option Addr} {na ca:Nat} {d:Option Addr} {nd cd:Nat} {r:Rat} {S:Nat} (w:World) (hr:TR w p a na ca d nd cd r S) (hS:S≤7000000) (hS1:1≤S) (ht:t = decide (r.den = 1)) :
  Calls Tryz.prog 46 #[.agg #[.bool p,.slice a na ca,.slice d nd cd]] w fun e w'=>e = .returned (.bool t)∧Below w.heap.size w w':=by
 have P0:=var3_new w (.bool p) (.slice a na ca) (.slice d nd cd) 27
 have hb0:=bel_d0 w (.cells #[.bool p,.slice a na ca,.slice d nd cd] 27)
 have hsz:w.heap.size + 1≤(w.alloc (.cells #[.bool p,.slice a na ca,.slice d nd cd] 27)).heap.size:=by simp
 replace hr:=hr.below hb0
 go_enter Tryz.func46,Tryz.ntmps46
 go_wp2_with fail
 generalize w.alloc (.cells #[.bool p,.slice a na ca,.slice d nd cd] 27) = W0 at *
 obtain ⟨p0c0,p0c1,p0c2,p0c3,p0c4,p0c5⟩:=id P0
 refine (normD _ hr (by omega) hS1).mono ?_
 rintro e w1 ⟨fx,cx,nx,kx,dX,mx,lx,rfl,Gx,hx⟩
 replace Gx:=Gx.mono (B':=w.heap.size + 1) hsz
 clear p0c0 p0c1 p0c2 p0c3 p0c4 p0c5
 replace hr:=hr.below hx
 replace P0:=P0.below hx
 replace hb0:=bel_tr hb0 hx
 replace hsz:=Nat.le_trans hsz (Below.size hx)
 clear hx
 clear P0
 clear hr
 have hx:=bel_d0 w1 (.cells #[.bool fx,.slice cx nx kx,.slice dX mx lx] 27)
 replace Gx:=Gx.below hx
 replace hb0:=bel_tr hb0 hx
 replace hsz:=Nat.le_trans hsz (Below.size hx)
 have Vx:=var3_new w1 (.bool fx) (.slice cx nx kx) (.slice dX mx lx) 27
 clear hx
 obtain ⟨vxc0,vxc1,vxc2,vxc3,vxc4,vxc5⟩:=id Vx
 clear Vx
 generalize hWX:w1.alloc (.cells #[.bool fx,.slice cx nx kx,.slice dX mx lx] 27) = wX at *
 have hone:=Gx.2.one
 by_cases hm:mx = 1
 ·subst hm
  obtain ⟨g1,v,rfl,hc,hv⟩:=hone.1 rfl
  by_cases h1:v = 1
  ·subst h1
   have HT:Hid (t = true):=by show _ = _;rw [ht,decide_eq_true_iff];omega
   clear hone hv Gx
   go_wp2
   go_ret
   exact ⟨by rw [HT.out];rfl,hb0⟩
  ·have HT:Hid (t = false):=by show _ = _;rw [ht,decide_eq_false_iff_not];omega
   clear hone hv Gx
   go_wp2
   go_ret
   exact ⟨by rw [HT.out];first | rfl | simp [h1],hb0⟩
 ·have HT:Hid (t = false):=by
   show _ = _;rw [ht,decide_eq_false_iff_not];intro h;exact hm (hone.2 (by omega))
  have hmI:((mx:Int) == 1) = false:=by simp;omega
  clear hone Gx
  go_wp2
  go_ret
  exact ⟨by rw [HT.out];rfl,hb0⟩
theorem wthn_hi (r lo hi:Rat):wthn r false lo true hi = decide (cs r hi≤0):=by
 unfold wthn
 by_cases h:cs r hi≤0
 ·have h2:¬ 0 < cs r hi:=by omega
  simp [h,h2]
 ·have h2:0 < cs r hi:=by omega
  simp [h,h2]
theorem wthn_two {r lo hi:Rat} (hc:¬ cs r lo < 0):wthn r true lo true hi = decide (cs r hi≤0):=by
 rw [← wthn_hi r lo hi]
 unfold wthn
 simp [hc]
set_option maxHeartbeats 2000000 in
theorem withinD {p:Bool} {a:Option Addr} {na ca:Nat} {d:Option Addr} {nd cd:Nat} {r:Rat} {S:Nat} {hlo pl:Bool} {al:Option Addr} {nl cl:Nat} {dl:Option Addr} {ml ll:Nat} {lo:Rat} {hhi ph:Bool} {ah:Option Addr} {nh ch:Nat} {dh:Option Addr} {mh lh:Nat} {hi:Rat} {R:Nat} (w:World)
  (hr:TR w p a na ca d nd cd r S) (hl:TR w pl al nl cl dl ml ll lo R) (hh:TR w ph ah nh ch dh mh lh hi R) (hSR:S + R≤6000000) (hS1:1≤S) (hR1:1≤R) :
  Calls Tryz.prog 45 #[.agg #[.bool p,.slice a na ca,.slice d nd cd],.agg #[.bool hlo,.bool pl,.slice al nl cl,.slice dl ml ll],.agg #[.bool hhi,.bool ph,.slice ah nh ch,.slice dh mh lh]] w fun e w'=>e = .returned (.bool (wthn r hlo lo hhi hi))∧Below w.heap.size w w':=by
 obtain ⟨P0,P1,P2,hb,hs⟩:=boxc3 w #[.bool p,.slice a na ca,.slice d nd cd] 27 #[.bool hlo,.bool pl,.slice al nl cl,.slice dl ml ll] 51 #[.bool hhi,.bool ph,.slice ah nh ch,.slice dh mh lh] 51
 have a0:=P0 0 _ rfl
 have a1:=P0 1 _ rfl
 have a2:=P0 2 _ rfl
 have b0:=P1 0 _ rfl
 have b1:=P1 1 _ rfl
 have b2:=P1 2 _ rfl
 have b3:=P1 3 _ rfl
 have c0:=P2 0 _ rfl
 have c1:=P2 1 _ rfl
 have c2:=P2 2 _ rfl
 have c3:=P2 3 _ rfl
 clear P0 P1 P2
 replace hr:=hr.below hb
 replace hl:=hl.below hb
 replace hh:=hh.below hb
 go_enter Tryz.func45,Tryz.ntmps45
 cases hlo
 ·cases hhi
  ·go_wp2
   go_ret
   exact ⟨by simp [wthn],hb⟩
  ·go_wp2_with fail
   generalize ((w.alloc (.cells #[.bool p,.slice a na ca,.slice d nd cd] 27)).alloc (.cells #[.bool false,.bool pl,.slice al nl cl,.slice dl ml ll] 51)).alloc (.cells #[.bool true,.bool ph,.slice ah nh ch,.slice dh mh lh] 51) = W at *
   refine (cmpD (cs r hi) W hr hh (by omega) (by omega) (by omega) rfl).mono ?_
   rintro e w1 ⟨rfl,h1⟩
   have hb1:=bel_tr hb h1
   go_wp2
   go_ret
   exact ⟨by rw [wthn_hi];simp,hb1⟩
 ·cases hhi
  ·go_wp2_with fail
   generalize ((w.alloc (.cells #[.bool p,.slice a na ca,.slice d nd cd] 27)).alloc (.cells #[.bool true,.bool pl,.slice al nl cl,.slice dl ml ll] 51)).alloc (.cells #[.bool false,.bool ph,.slice ah nh ch,.slice dh mh lh] 51) = W at *
   refine (cmpD (cs r lo) W hr hl (by omega) (by omega) (by omega) rfl).mono ?_
   rintro e w1 ⟨rfl,h1⟩
   have hb1:=bel_tr hb h1
   replace c0:=kept_c h1 c0
   by_cases hc:cs r lo < 0
   ·go_wp2
    go_ret
    exact ⟨by simp [wthn,hc],hb1⟩
   ·go_wp2
    go_ret
    exact ⟨by simp [wthn,hc],hb1⟩
  ·go_wp2_with fail
   generalize ((w.alloc (.cells #[.bool p,.slice a na ca,.slice d nd cd] 27)).alloc (.cells #[.bool true,.bool pl,.slice al nl cl,.slice dl ml ll] 51)).alloc (.cells #[.bool true,.bool ph,.slice ah nh ch,.slice dh mh lh] 51) = W at *
   refine (cmpD (cs r lo) W hr hl (by omega) (by omega) (by omega) rfl).mono ?_
   rintro e w1 ⟨rfl,h1⟩
   have hb1:=bel_tr hb h1
   replace a0:=kept_c h1 a0
   replace a1:=kept_c h1 a1
   replace a2:=kept_c h1 a2
   replace c0:=kept_c h1 c0
   replace c1:=kept_c h1 c1
   replace c2:=kept_c h1 c2
   replace c3:=kept_c h1 c3
   replace hr:=hr.below h1
   replace hh:=hh.below h1
   by_cases hc:cs r lo < 0
   ·go_wp2
    go_ret
    exact ⟨by simp [wthn,hc],hb1⟩
   ·go_wp2_with fail
    refine (cmpD (cs r hi) w1 hr hh (by omega) (by omega) (by omega) rfl).mono ?_
    rintro e w2 ⟨rfl,h2⟩
    replace hb1:=bel_tr hb1 h2
    go_wp2
    go_ret
    exact ⟨by rw [wthn_two (by omega)];simp,hb1⟩
set_option maxRecDepth 100000 in
set_option maxHeartbeats 8000000 in
theorem wholeD7 (P:Prob) {xa:Option Addr} {n xc:Nat} {X:Nat→Rat} {Z:Nat→Nat} (w:World) (hP:PQ w P) (hx:LQ w xa n X Z) (hz0:∀ j,j < n→1≤Z j∧Z j≤6000000) (hK:P.K≤1048576) :
  Calls Tryz.prog 23 #[P.val,.slice xa n xc] w fun e w'=>∃ b,e = .returned (.bool b)∧(b = true↔Whl P n X)∧Below w.heap.size w w':=by
 have HZ0:Hid (∀ j,j < n→1≤Z j∧Z j≤6000000):=hz0
 have hvn:P.vn≤1048576:=by have:=hP.all;have:=tot_len P.ZV P.vn;omega
 clear hz0
 unfold Prob.val
 have Pb:=box_new w #[.bool P.mx,.string P.nm,.bool P.p,.slice P.a P.na P.ca,.slice P.d P.nd P.cd,.slice P.va P.vn P.vc,.slice P.ra P.rn P.rc] 31
 have hb:=bel_d0 w (.cells #[.bool P.mx,.string P.nm,.bool P.p,.slice P.a P.na P.ca,.slice P.d P.nd P.cd,.slice P.va P.vn P.vc,.slice P.ra P.rn P.rc] 31)
 by_cases hnv:n = P.vn
 ·subst hnv
  have p5:=Pb 5 _ rfl
  go_enter Tryz.func23,Tryz.ntmps23
  go_wp2
  generalize w.alloc (.cells #[.bool P.mx,.string P.nm,.bool P.p,.slice P.a P.na P.ca,.slice P.d P.nd P.cd,.slice P.va P.vn P.vc,.slice P.ra P.rn P.rc] 31) = W at *
  clear p5
  go_loopw [5] (fun s5 wr=>∃ (i:Nat),i≤P.vn∧s5 = .int .i64 i∧(∀ j,j < i→(P.V j).whole = true→(X j).den = 1)∧Below w.heap.size w wr∧Below W.heap.size W wr) (fun s5 _=>P.vn - (intOf s5).toNat)
  case atStart=>exact ⟨0,Nat.zero_le _,rfl,fun j hj=>by omega,hb,Below.refl _ _⟩
  case round =>
   obtain ⟨i,hi,rfl,HY,hbel,hbw⟩:=hrel
   have p5:=(Pb.below hbw) 5 _ rfl
   by_cases hlt:i < P.vn
   ·have hkI:(i:Int) < (P.vn:Int):=by omega
    rcases (hx.below hbel) with h0 | ⟨bx,ox,rfl,helx⟩
    ·omega
    obtain ⟨pA,aA,nA,cA,dA,mA,lA,c0,c1,c2,hA⟩:=helx i (by omega)
    rcases (hP.v.below hbel) with h0 | ⟨bv,ov,hva,hev⟩
    ·omega
    have r12:=(hev i hlt).whole
    obtain ⟨hzi1,hzi2⟩:=HZ0.out i (by omega)
    obtain ⟨wh,ewh⟩:∃ wh,wh = (P.V i).whole:=⟨_,rfl⟩
    rw [← ewh] at r12
    have HE:Hid (wh = (P.V i).whole):=ewh
    have hkI2:(i:Int) * 13 = ((i * 13:Nat):Int):=by omega
    have hkI3:(i:Int) * 3 = ((i * 3:Nat):Int):=by omega
    rw [hva] at p5
    clear hev ewh hva helx
    cases wh
    ·have HY':∀ j,j < i + 1→(P.V j).whole = true→(X j).den = 1:=by
      intro j hj hw
      rcases (by omega:j < i∨j = i) with h | rfl
      ·exact HY j h hw
      ·rw [← HE.out] at hw;cases hw
     clear HY HE
     go_wp2
     go_roundw
     case rel=>first | exact ⟨i + 1,by omega,by go_num,HY',hbel,hbw⟩ | ((repeat apply Exists.intro);refine ⟨?_,rfl⟩;exact ⟨i + 1,by omega,by go_num,HY',hbel,hbw⟩)
     case measure=>simp [intOf];omega
    ·obtain ⟨bq,ebq⟩:∃ bq,bq = decide ((X i).den = 1):=⟨_,rfl⟩
     have EB:Hid (bq = decide ((X i).den = 1)):=ebq
     go_wp2_with fail
     refine (isWholeD bq _ hA (by omega) (by omega) EB.out).mono ?_
     rintro e v1 ⟨rfl,hb1⟩
     replace hbel:=bel_tr hbel hb1
     replace hbw:=bel_tr hbw hb1
     clear ebq c0 c1 c2 r12 hb1 hA p5
     cases bq
     ·go_wp2
      go_ret
      refine ⟨false,rfl,⟨(fun h=>by cases h),fun h=>?_⟩,hbel⟩
      have h2:=h.2 i hlt HE.out.symm
      have h3:=EB.out
      rw [decide_eq_true h2] at h3
      cases h3
     ·have HY':∀ j,j < i + 1→(P.V j).whole = true→(X j).den = 1:=by
       intro j hj hw
       rcases (by omega:j < i∨j = i) with h | rfl
       ·exact HY j h hw
       ·exact of_decide_eq_true EB.out.symm
      clear HY
      go_wp2
      go_roundw
      case rel=>first | exact ⟨i + 1,by omega,by go_num,HY',hbel,hbw⟩ | ((repeat apply Exists.intro);refine ⟨?_,rfl⟩;exact ⟨i + 1,by omega,by go_num,HY',hbel,hbw⟩)
      case measure=>simp [intOf];omega
   ·have hkI:¬ (i:Int) < (P.vn:Int):=by omega
    obtain rfl:i = P.vn:=by omega
    go_wp2
    go_ret
    exact .inr ⟨rfl,⟨rfl,HY⟩,hbel⟩
 ·have hnI:¬ ((n:Int) = (P.vn:Int)):=by omega
  have p5:=Pb 5 _ rfl
  go_enter Tryz.func23,Tryz.ntmps23
  go_wp2
  go_ret
  exact .inl ⟨rfl,fun h=>hnv h.1,hb⟩
def xat (X:Nat→Rat) (n:Nat) (i:Int):Rat:=if 0≤i∧i < (n:Int) then X i.toNat else 0
set_option maxHeartbeats 4000000 in
theorem atD {xa:Option Addr} {n xc:Nat} {X:Nat→Rat} {Z:Nat→Nat} {S:Nat} (i:Int) (w:World) (hx:LQ w xa n X Z) (hz:∀ j,j < n→1≤Z j∧Z j≤S) (hS:1≤S∧S≤7000000) :
  Calls Tryz.prog 38 #[.slice xa n xc,.int .i64 i] w fun e w'=>∃ f c m k c' m' k',e = .returned (.agg #[.bool f,.slice c m k,.slice c' m' k'])∧GR w' w.heap.size f c m k c' m' k' (xat X n i) S∧Below w.heap.size w w':=by
 have R0:=var3_new w (.bool false) (.slice none 0 0) (.slice none 0 0) 27
 have hb0:=bel_d0 w (.cells #[.bool false,.slice none 0 0,.slice none 0 0] 27)
 have hsz:w.heap.size + 1≤(w.alloc (.cells #[.bool false,.slice none 0 0,.slice none 0 0] 27)).heap.size:=by simp
 by_cases hi:0≤i∧i < (n:Int)
 ·obtain ⟨q,rfl⟩:∃ q:Nat,i = (q:Int):=⟨i.toNat,by omega⟩
  have hq:q < n:=by omega
  have h1:¬ (q:Int) < 0:=by omega
  have h2:¬ (n:Int)≤(q:Int):=by omega
  have h3:(q:Int) < (n:Int):=by omega
  have hkI3:(q:Int) * 3 = ((q * 3:Nat):Int):=by omega
  have ex:xat X n (q:Int) = X q:=by unfold xat;rw [if_pos hi];rfl
  rcases hx with h0 | ⟨b,o,rfl,hel⟩
  ·omega
  obtain ⟨p,a,na,ca,d,nd,cd,c0,c1,c2,hr⟩:=hel q hq
  replace c0:=kept_c hb0 c0
  replace c1:=kept_c hb0 c1
  replace c2:=kept_c hb0 c2
  replace hr:=hr.below hb0
  obtain ⟨z1,z2⟩:=hz q hq
  rw [ex]
  clear ex hel hi
  go_enter Tryz.func38,Tryz.ntmps38
  go_wp2_with fail
  generalize w.alloc (.cells #[.bool false,.slice none 0 0,.slice none 0 0] 27) = W0 at *
  refine (normD _ hr (by omega) z1).mono ?_
  rintro e w3 ⟨f5,c5,n5,k5,d5,m5,l5,rfl,G5,hx⟩
  replace G5:=(G5.mono (B':=w.heap.size + 1) hsz).le z2
  replace R0:=R0.below hx
  replace hb0:=bel_tr hb0 hx
  obtain ⟨r0c0,r0c1,r0c2,r0c3,r0c4,r0c5⟩:=id R0
  obtain ⟨RN,O⟩:=R0.set (.bool f5) (.slice c5 n5 k5) (.slice d5 m5 l5)
  have GN:=(G5.off O (by omega)).mono (B':=w.heap.size) (by omega)
  have BN:=hb0.trans (O.below (Nat.le_refl _))
  clear c0 c1 c2 hx
  go_wp2
  exact bodyPost_ret (v:=.agg #[.bool f5,.slice c5 n5 k5,.slice d5 m5 l5]) (by simp [results,Tryz.results38,go_sem,RN.c0,RN.c1,RN.c2]) rfl ⟨_,_,_,_,_,_,_,rfl,GN,BN⟩
 ·have ex:xat X n i = ((0:Int):Rat):=by unfold xat;rw [if_neg hi];rfl
  rw [ex]
  clear ex
  by_cases hn:i < 0
  ·go_enter Tryz.func38,Tryz.ntmps38
   go_wp2_with fail
   generalize w.alloc (.cells #[.bool false,.slice none 0 0,.slice none 0 0] 27) = W0 at *
   refine (ofD 0 _ (by decide) (by decide)).mono ?_
   rintro e w3 ⟨f5,c5,n5,k5,d5,m5,l5,rfl,G5,hx⟩
   replace G5:=(G5.mono (B':=w.heap.size + 1) hsz).le hS.1
   replace R0:=R0.below hx
   replace hb0:=bel_tr hb0 hx
   obtain ⟨r0c0,r0c1,r0c2,r0c3,r0c4,r0c5⟩:=id R0
   obtain ⟨RN,O⟩:=R0.set (.bool f5) (.slice c5 n5 k5) (.slice d5 m5 l5)
   have GN:=(G5.off O (by omega)).mono (B':=w.heap.size) (by omega)
   have BN:=hb0.trans (O.below (Nat.le_refl _))
   clear hx
   go_wp2
   exact bodyPost_ret (v:=.agg #[.bool f5,.slice c5 n5 k5,.slice d5 m5 l5]) (by simp [results,Tryz.results38,go_sem,RN.c0,RN.c1,RN.c2]) rfl ⟨_,_,_,_,_,_,_,rfl,GN,BN⟩
  ·have hn2:(n:Int)≤i:=by omega
   go_enter Tryz.func38,Tryz.ntmps38
   go_wp2_with fail
   generalize w.alloc (.cells #[.bool false,.slice none 0 0,.slice none 0 0] 27) = W0 at *
   refine (ofD 0 _ (by decide) (by decide)).mono ?_
   rintro e w3 ⟨f5,c5,n5,k5,d5,m5,l5,rfl,G5,hx⟩
   replace G5:=(G5.mono (B':=w.heap.size + 1) hsz).le hS.1
   replace R0:=R0.below hx
   replace hb0:=bel_tr hb0 hx
   obtain ⟨r0c0,r0c1,r0c2,r0c3,r0c4,r0c5⟩:=id R0
   obtain ⟨RN,O⟩:=R0.set (.bool f5) (.slice c5 n5 k5) (.slice d5 m5 l5)
   have GN:=(G5.off O (by omega)).mono (B':=w.heap.size) (by omega)
   have BN:=hb0.trans (O.below (Nat.le_refl _))
   clear hx
   go_wp2
   exact bodyPost_ret (v:=.agg #[.bool f5,.slice c5 n5 k5,.slice d5 m5 l5]) (by simp [results,Tryz.results38,go_sem,RN.c0,RN.c1,RN.c2]) rfl ⟨_,_,_,_,_,_,_,rfl,GN,BN⟩
def xn (X:Nat→Rat) (n j:Nat):Rat:=if j < n then X j else 0
theorem xat_nat (X:Nat→Rat) (n j:Nat):xat X n (j:Int) = xn X n j:=by
 unfold xat xn
 by_cases h:j < n
 ·rw [if_pos h,if_pos ⟨by omega,by omega⟩];rfl
 ·rw [if_neg h,if_neg (by omega)]
set_option maxRecDepth 100000 in
set_option maxHeartbeats 16000000 in
theorem sumsD (P:Prob) {xa:Option Addr} {n xc:Nat} {X:Nat→Rat} {Z:Nat→Nat} {S T U:Nat} (w:World) (hP:PQ w P) (hx:LQ w xa n X Z) (hz:∀ j,j < n→1≤Z j∧Z j≤U) (hU:1≤U∧U≤7000000) (hS:∀ i,i < P.rn→P.ZR i + U≤S) (hST:T + S≤5999999) (hT1:1≤T) (hK:P.K≤1048576)
  (hsz:∀ i k,i < P.rn→k≤(P.R i).nt→SzR (rsum (tv (P.R i) (xn X n) P.vn) k) T) :
  Calls Tryz.prog 15 #[P.val,.slice xa n xc] w fun e w'=>∃ a cap,e = .returned (.slice a P.rn cap)∧RL w' w.heap.size (.slice a P.rn cap) P.rn (fun i=>cv (P.R i) (xn X n) P.vn) T∧Below w.heap.size w w':=by
 have HS:Hid (∀ i k,i < P.rn→k≤(P.R i).nt→SzR (rsum (tv (P.R i) (xn X n) P.vn) k) T):=hsz
 have hrn:P.rn≤1048576:=by have:=hP.all;have:=tot_len P.ZR P.rn;omega
 have hvn:P.vn≤1048576:=by have:=hP.all;have:=tot_len P.ZV P.vn;omega
 clear hsz
 unfold Prob.val
 have Pb:=box_new w #[.bool P.mx,.string P.nm,.bool P.p,.slice P.a P.na P.ca,.slice P.d P.nd P.cd,.slice P.va P.vn P.vc,.slice P.ra P.rn P.rc] 31
 have hb0:=bel_d0 w (.cells #[.bool P.mx,.string P.nm,.bool P.p,.slice P.a P.na P.ca,.slice P.d P.nd P.cd,.slice P.va P.vn P.vc,.slice P.ra P.rn P.rc] 31)
 have hsA:w.heap.size + 1≤(w.alloc (.cells #[.bool P.mx,.string P.nm,.bool P.p,.slice P.a P.na P.ca,.slice P.d P.nd P.cd,.slice P.va P.vn P.vc,.slice P.ra P.rn P.rc] 31)).heap.size:=by simp
 go_enter Tryz.func15,Tryz.ntmps15
 go_wp2
 generalize w.alloc (.cells #[.bool P.mx,.string P.nm,.bool P.p,.slice P.a P.na P.ca,.slice P.d P.nd P.cd,.slice P.va P.vn P.vc,.slice P.ra P.rn P.rc] 31) = W0 at *
 go_loopw [5,6] (fun s5 s6 wr=>∃ (i:Nat),i≤P.rn∧s6 = .int .i64 i∧RL wr (w.heap.size + 1) s5 i (fun j=>cv (P.R j) (xn X n) P.vn) T∧BoxC wr w.heap.size (#[.bool P.mx,.string P.nm,.bool P.p,.slice P.a P.na P.ca,.slice P.d P.nd P.cd,.slice P.va P.vn P.vc,.slice P.ra P.rn P.rc]).toList∧Below w.heap.size w wr∧w.heap.size + 1≤wr.heap.size) (fun _ s6 _=>P.rn - (intOf s6).toNat)
 case atStart=>exact ⟨0,Nat.zero_le _,rfl,RL.nil _ _ _ _,Pb,hb0,hsA⟩
 case round =>
  clear Pb hb0 hsA
  obtain ⟨i,hi,rfl,L,Pb,hbel,hsr⟩:=hrel
  obtain ⟨o1,k1,rfl⟩:=L.form
  have q6:=Pb 6 _ rfl
  by_cases hlt:i < P.rn
  ·have hkI:(i:Int) < (P.rn:Int):=by omega
   have hSi:=hS i hlt
   have hZi:P.ZR i≤1048576:=by have:=tot_le (Z:=P.ZR) hlt;have:=hP.all;omega
   have hkI2:(i:Int) * 10 = ((i * 10:Nat):Int):=by omega
   obtain ⟨nt,ent⟩:∃ nt,nt = (P.R i).nt:=⟨_,rfl⟩
   have ENT:Hid (nt = (P.R i).nt):=ent
   have hnt:nt≤1048576:=by
    rcases hP.r with h0 | ⟨rb,ro,hra,hew⟩
    ·omega
    obtain ⟨ta,tc,Zt,r1,hLT,htot,htc⟩:=(hew i hlt).terms
    have:=tot_len Zt (P.R i).nt
    omega
   clear ent
   go_wp2_with fail
   refine (ofD 0 _ (by decide) (by decide)).mono ?_
   rintro e w2 ⟨f0,c0,n0,k0,d0,m0,l0,rfl,G0,hx1⟩
   have hs1:=Below.size hx1
   replace G0:=(((G0.mono (B':=w.heap.size + 1) (by omega)).val (show ((0:Int):Rat) = rsum (tv (P.R i) (xn X n) P.vn) 0 from rfl)).fit (HS.out i 0 hlt (Nat.zero_le _))).gx (R:=w2.heap.size) (.inr (Nat.le_refl _))
   replace L:=L.below hx1
   replace Pb:=Pb.below hx1
   replace hbel:=bel_tr hbel hx1
   clear hx1 q6
   have hz1:=bel_d0 w2 (.cells #[.bool f0,.slice c0 n0 k0,.slice d0 m0 l0] 27)
   have V0:=var3_new w2 (.bool f0) (.slice c0 n0 k0) (.slice d0 m0 l0) 27
   have hs2:(w2.alloc (.cells #[.bool f0,.slice c0 n0 k0,.slice d0 m0 l0] 27)).heap.size = w2.heap.size + 1:=by simp
   replace G0:=G0.below hz1
   go_wp2
   generalize w2.alloc (.cells #[.bool f0,.slice c0 n0 k0,.slice d0 m0 l0] 27) = W1 at *
   go_loopw [8] (fun s wq=>∃ (k:Nat) (f:Bool) (c:Option Addr) (n1 k1:Nat) (d:Option Addr) (m l:Nat),k≤nt∧s = .int .i64 k∧Var3 wq w2.heap.size (.bool f) (.slice c n1 k1) (.slice d m l)∧GX wq (w.heap.size + 1) w2.heap.size f c n1 k1 d m l (rsum (tv (P.R i) (xn X n) P.vn) k) T∧Below w2.heap.size w2 wq∧w2.heap.size + 1≤wq.heap.size) (fun t _=>nt - (intOf t).toNat)
   case atStart=>exact ⟨0,_,_,_,_,_,_,_,Nat.zero_le _,rfl,V0,G0,hz1,by omega⟩
   case round =>
    clear V0 G0 hz1 hs2
    obtain ⟨k,f,c,n1,k2,d,m,l,hk,rfl,V,G,hbs,hsw⟩:=hrel
    have hbq:=bel_tr hbel hbs
    have Pq:=Pb.below hbs
    have q6:=Pq 6 _ rfl
    have q5:=Pq 5 _ rfl
    rcases (hP.r.below hbq) with h0 | ⟨rb,ro,hra,hew⟩
    ·omega
    obtain ⟨ta,tc,Zt,r1,hLT,htot,htc⟩:=(hew i hlt).terms
    rw [hra] at q6
    rw [← ENT.out] at r1 hLT htot
    clear hra hew htc
    by_cases hlt2:k < nt
    ·have hkJ:(k:Int) < (nt:Int):=by omega
     rcases hLT with h0 | ⟨tb,to,rfl,hel⟩
     ·omega
     obtain ⟨t0,⟨pC,aC,nC,cC,dC,mC,lC,t1,t2,t3,hC⟩,hsC,hszC,hv1,hv2⟩:=hel k hlt2
     obtain ⟨v,ev⟩:∃ v,v = ((P.R i).t k).var:=⟨_,rfl⟩
     rw [← ev] at t0 hv1 hv2
     have EV:Hid (v = ((P.R i).t k).var):=ev
     have hkJ2:(k:Int) * 4 = ((k * 4:Nat):Int):=by omega
     have hZk:Zt k≤P.ZR i:=by have:=tot_le (Z:=Zt) hlt2;omega
     clear hel ev htot
     by_cases hv:0≤v∧v < (P.vn:Int)
     ·obtain ⟨hv0,hvm⟩:=hv
      obtain ⟨j,rfl⟩:=Int.eq_ofNat_of_zero_le hv0
      have hz2:=bel_d0 wr (.cells #[.int .i64 (j:Int),.bool pC,.slice aC nC cC,.slice dC mC lC] 58)
      have q5':=kept_c hz2 q5
      go_wp2_with fail
      have N:=box_new wr #[.int .i64 (j:Int),.bool pC,.slice aC nC cC,.slice dC mC lC] 58
      have hsz3:(wr.alloc (.cells #[.int .i64 (j:Int),.bool pC,.slice aC nC cC,.slice dC mC lC] 58)).heap.size = wr.heap.size + 1:=by simp
      replace hC:=hC.below hz2
      replace V:=V.below hz2
      replace G:=G.below hz2
      have hxr:=hx.below (bel_tr hbq hz2)
      replace hbs:=hbs.trans (hz2.mono (by omega))
      have n0:=N 0 _ rfl
      have n1':=N 1 _ rfl
      have n2:=N 2 _ rfl
      have n3:=N 3 _ rfl
      clear t0 t1 t2 t3 hz2 N q5 q5' q6 r1 Pq hbq
      generalize wr.alloc (.cells #[.int .i64 (j:Int),.bool pC,.slice aC nC cC,.slice dC mC lC] 58) = W3 at *
      obtain ⟨s0,s1,s2,_,_,_⟩:=id V
      have etv:tv (P.R i) (xn X n) P.vn k = ((P.R i).t k).coef * xat X n (j:Int):=by
       unfold tv
       rw [← EV.out,if_pos ⟨hv0,hvm⟩,xat_nat]
       rfl
      have HS1:Hid (SzR (rsum (tv (P.R i) (xn X n) P.vn) k + ((P.R i).t k).coef * xat X n (j:Int)) T):=by rw [← etv];exact HS.out i (k + 1) hlt (by rw [← ENT.out];omega)
      have HBX:∀ w',Below W3.heap.size W3 w'→(w'.cell? ⟨w2.heap.size,0,none⟩ = some (.bool f)∧w'.cell? ⟨w2.heap.size,1,none⟩ = some (.slice c n1 k2)∧w'.cell? ⟨w2.heap.size,2,none⟩ = some (.slice d m l)∧w'.cell? ⟨wr.heap.size,0,none⟩ = some (.int .i64 (j:Int))∧w'.cell? ⟨wr.heap.size,1,none⟩ = some (.bool pC)∧w'.cell? ⟨wr.heap.size,2,none⟩ = some (.slice aC nC cC)∧w'.cell? ⟨wr.heap.size,3,none⟩ = some (.slice dC mC lC)):=fun w' h=>⟨kept_c h s0,kept_c h s1,kept_c h s2,kept_c h n0,kept_c h n1',kept_c h n2,kept_c h n3⟩
      refine wp_region_noPanic (wp_region_guardT 9 HBX (by as_aux_lemma=>kernel_rfl) ?_)
      have hc0:Below W3.heap.size W3 W3.drew:=bel_d1 _
      generalize W3.drew = z0 at *
      refine wpAnyG.tT 0 (v:=.agg #[.bool f,.slice c n1 k2,.slice d m l]) (by decide) 9 (by as_aux_lemma=>kernel_rfl) (by rfl) ?y0 (HBX _ hc0) ?_
      case y0 =>
       rintro w' ⟨q0,q1,q2,q3,q4,q5,q6⟩
       simp only [lgA,lgZ]
       go_simp
      simp only [lgA,lgZ,Act.put,lsA,lsZ,lsS]
      refine wpAnyG.tT 1 (v:=.pointer (some ⟨wr.heap.size,1,none⟩)) (by decide) 9 (by as_aux_lemma=>kernel_rfl) (by rfl) ?y1 (HBX _ hc0) ?_
      case y1 =>
       rintro w' ⟨q0,q1,q2,q3,q4,q5,q6⟩
       simp only [lgA,lgZ,lgS]
       go_simp
      simp only [lgA,lgZ,lgS,Act.put,lsA,lsZ,lsS]
      refine wpAnyG.tT 2 (v:=.agg #[.bool pC,.slice aC nC cC,.slice dC mC lC]) (by decide) 9 (by as_aux_lemma=>kernel_rfl) (by rfl) ?y2 (HBX _ hc0) ?_
      case y2 =>
       rintro w' ⟨q0,q1,q2,q3,q4,q5,q6⟩
       simp only [lgA,lgZ,lgS]
       go_simp
      simp only [lgA,lgZ,lgS,Act.put,lsA,lsZ,lsS]
      refine wpAnyG.tT 3 (v:=.slice xa n xc) (by decide) 9 (by as_aux_lemma=>kernel_rfl) (by rfl) ?y3 (HBX _ hc0) ?_
      case y3 =>
       rintro w' ⟨q0,q1,q2,q3,q4,q5,q6⟩
       simp only [lgA,lgZ,lgS]
       go_simp
      simp only [lgA,lgZ,lgS,Act.put,lsA,lsZ,lsS]
      refine wpAnyG.tT 4 (v:=.pointer (some ⟨wr.heap.size,0,none⟩)) (by decide) 9 (by as_aux_lemma=>kernel_rfl) (by rfl) ?y4 (HBX _ hc0) ?_
      case y4 =>
       rintro w' ⟨q0,q1,q2,q3,q4,q5,q6⟩
       simp only [lgA,lgZ,lgS]
       go_simp
      simp only [lgA,lgZ,lgS,Act.put,lsA,lsZ,lsS]
      refine wpAnyG.tT 5 (v:=.int .i64 (j:Int)) (by decide) 9 (by as_aux_lemma=>kernel_rfl) (by rfl) ?y5 (HBX _ hc0) ?_
      case y5 =>
       rintro w' ⟨q0,q1,q2,q3,q4,q5,q6⟩
       simp only [lgA,lgZ,lgS]
       go_simp
      simp only [lgA,lgZ,lgS,Act.put,lsA,lsZ,lsS]
      refine wpAnyG.one 6 (by as_aux_lemma=>kernel_rfl) (by decide) (by rfl) (fun K hK=>?_)
      simp only [lgA,lgZ,lgS]
      go_simp
      refine (atD (S:=U) (j:Int) z0 (hxr.below hc0) hz hU).mono ?_
      rintro e z1 ⟨g1,u1,i1,j1,o2,t1,x1,rfl,G1,hk1⟩
      have hc1:Below W3.heap.size W3 z1:=bel_tr hc0 hk1
      dsimp only
      refine hK _ _ ⟨fun _=>HBX _ hc1,fun _=>trivial⟩ ?_
      clear hK K
      refine wpAnyG.one 7 (by as_aux_lemma=>kernel_rfl) (by decide) (by rfl) (fun K hK=>?_)
      simp only [lgA,lgZ,lgS]
      go_simp
      refine (mulD z1 (hC.below hc1) G1.tr (by omega) (by omega) (by omega)).mono ?_
      rintro e z2 ⟨g2,u2,i2,j2,o3,t2,x2,rfl,G2,hk2⟩
      have hc2:Below W3.heap.size W3 z2:=bel_tr hc1 hk2
      dsimp only
      refine hK _ _ ⟨fun _=>HBX _ hc2,fun _=>trivial⟩ ?_
      clear hK K
      refine wpAnyG.one 8 (by as_aux_lemma=>kernel_rfl) (by decide) (by rfl) (fun K hK=>?_)
      simp only [lgA,lgZ,lgS]
      go_simp
      refine (addD z2 (G.1.tr.below hc2) G2.tr (by omega) (by omega) (by omega)).mono ?_
      rintro e z3 ⟨g3,u3,i3,j3,o4,t3,x3,rfl,G3,hk3⟩
      have hc3:Below W3.heap.size W3 z3:=bel_tr hc2 hk3
      have hs3:=Below.size hc3
      dsimp only
      refine hK _ _ ⟨fun _=>HBX _ hc3,fun _=>trivial⟩ ?_
      clear hK K
      refine wpAnyG.one 9 (by as_aux_lemma=>kernel_rfl) (by decide) (by rfl) (fun K hK=>?_)
      simp only [lgA,lgZ,lgS]
      have VS:=V.below hc3
      obtain ⟨y0,y1,y2,y3,y4,y5⟩:=id VS
      go_simp
      refine hK _ _ ⟨fun h=>absurd h (by decide),fun _=>trivial⟩ ?_
      clear hK K
      refine wpAnyG.done (by as_aux_lemma=>kernel_rfl) (NoPanic.normal ?_)
      have hsz2:=Below.size hk2
      have hsz4:=Below.size hc2
      have GN:=((G3.fit HS1.out).gx (R:=w2.heap.size) (.inl (by omega))).mono (B':=w.heap.size + 1) (by omega)
      obtain ⟨V',O⟩:=VS.set (.bool g3) (.slice u3 i3 j3) (.slice o4 t3 x3)
      have GN':=(GN.off O)
      have GN2:GX _ (w.heap.size + 1) w2.heap.size g3 u3 i3 j3 o4 t3 x3 (rsum (tv (P.R i) (xn X n) P.vn) (k + 1)) T:=⟨GN'.1.val (by rw [← etv];rfl),GN'.2⟩
      have hbs':Below w2.heap.size w2 _:=(hbs.trans (hc3.mono (by omega))).trans (O.below (Nat.le_refl _))
      have hs4:=O.size
      clear V hbs O GN GN' VS HBX G1 G2 G3 hc0 hc1 hc2 hc3 hk1 hk2 hk3 y0 y1 y2 y3 y4 y5 s0 s1 s2 n0 n1' n2 n3 hxr hC G etv
      go_wp2
      go_roundw
      case rel=>first | exact ⟨k + 1,_,_,_,_,_,_,_,by omega,by go_num,V',GN2,hbs',by omega⟩ | ((repeat apply Exists.intro);refine ⟨?_,rfl⟩;exact ⟨k + 1,_,_,_,_,_,_,_,by omega,by go_num,V',GN2,hbs',by omega⟩)
      case measure=>simp [intOf];omega
     ·have etv:tv (P.R i) (xn X n) P.vn k = 0:=by
       unfold tv
       rw [← EV.out,if_neg hv]
      have hz2:=bel_d0 wr (.cells #[.int .i64 v,.bool pC,.slice aC nC cC,.slice dC mC lC] 58)
      have hsz3:(wr.alloc (.cells #[.int .i64 v,.bool pC,.slice aC nC cC,.slice dC mC lC] 58)).heap.size = wr.heap.size + 1:=by simp
      have V':=V.below hz2
      have GN':=G.below hz2
      have GN2:GX _ (w.heap.size + 1) w2.heap.size f c n1 k2 d m l (rsum (tv (P.R i) (xn X n) P.vn) (k + 1)) T:=⟨GN'.1.val (by rw [rsum_succ,etv,Rat.add_zero]),GN'.2⟩
      have hbs':Below w2.heap.size w2 _:=hbs.trans (hz2.mono (by omega))
      have q5':=kept_c hz2 q5
      clear GN' hz2 G V hbs hC
      by_cases hv0:0≤v
      ·have hvm:¬ v < (P.vn:Int):=fun h=>hv ⟨hv0,h⟩
       go_wp2
       go_roundw
       case rel=>first | exact ⟨k + 1,_,_,_,_,_,_,_,by omega,by go_num,V',GN2,hbs',by omega⟩ | ((repeat apply Exists.intro);refine ⟨?_,rfl⟩;exact ⟨k + 1,_,_,_,_,_,_,_,by omega,by go_num,V',GN2,hbs',by omega⟩)
       case measure=>simp [intOf];omega
      ·go_wp2
       go_roundw
       case rel=>first | exact ⟨k + 1,_,_,_,_,_,_,_,by omega,by go_num,V',GN2,hbs',by omega⟩ | ((repeat apply Exists.intro);refine ⟨?_,rfl⟩;exact ⟨k + 1,_,_,_,_,_,_,_,by omega,by go_num,V',GN2,hbs',by omega⟩)
       case measure=>simp [intOf];omega
    ·have hkJ:¬ (k:Int) < (nt:Int):=by omega
     obtain rfl:k = nt:=by omega
     have ecv:rsum (tv (P.R i) (xn X n) P.vn) k = cv (P.R i) (xn X n) P.vn:=by unfold cv;rw [← ENT.out]
     have GG:=G.1.val ecv
     have L3:=L.below hbs
     have hrow:∀ g,(Value.slice o1 i k1).ownBlock = some g→w.heap.size + 1≤g:=fun g hg=>(L3.lt g hg).1
     obtain ⟨s0,s1,s2,_,_,_⟩:=id V
     have hsq:=hbq.size
     clear G hLT htot ecv q5
     go_wp2_with (at_builtin;refine wpList_appendR _ rfl _ _ rfl (w.heap.size + 1) (.slice o1 i k1) i (fun j=>cv (P.R j) (xn X n) P.vn) T rfl (L3.below (bel_d0 _ _)) wr.heap.size _ rfl f c n1 k2 d m l (cell_new3 rfl) (GG.below (bel_d0 _ _)) (by omega) (by simp;omega) (wr.heap.size + 1) (by simp) ?_)
     intro g1 cap1 w3 LN hgrow hat _
     have hg2:=grown_below (B:=w.heap.size + 1) hgrow (by simp;omega) hrow
     have Pn:BoxC w3 w.heap.size (#[.bool P.mx,.string P.nm,.bool P.p,.slice P.a P.na P.ca,.slice P.d P.nd P.cd,.slice P.va P.vn P.vc,.slice P.ra P.rn P.rc]).toList:=fun a u hu=>keep_ne hgrow ((Pq.below (bel_d0 wr _)) a u hu) (fun e=>by have:=hrow _ e;simp at this;omega)
     have hbelN:Below w.heap.size w w3:=(bel_a hbq).trans (hg2.mono (by omega))
     have hs6:=hg2.size
     have hs7:w.heap.size + 1≤w3.heap.size:=by simp at hs6;omega
     clear hgrow hat hrow L3 GG hbq hbs V s0 s1 s2 L Pb Pq hbel q6 r1
     go_wp2
     go_roundw
     case rel=>first | exact ⟨i + 1,by omega,by go_num,LN,Pn,hbelN,hs7⟩ | ((repeat apply Exists.intro);refine ⟨?_,rfl⟩;exact ⟨i + 1,by omega,by go_num,LN,Pn,hbelN,hs7⟩)
     case measure=>simp [intOf];omega
  ·have hkI:¬ (i:Int) < (P.rn:Int):=by omega
   obtain rfl:i = P.rn:=by omega
   go_wp2
   go_ret
   exact ⟨_,_,rfl,L.mono (by omega),hbel⟩
end Go.Proofs.YtklhilnobgieaaaGreatDoor

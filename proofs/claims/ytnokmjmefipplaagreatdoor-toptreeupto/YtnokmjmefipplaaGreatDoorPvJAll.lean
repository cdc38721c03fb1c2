import Derived.Test.YtnokmjmefipplaaGreatDoorPvFAll
import Derived.Test.YtnokmjmefipplaaGreatDoorQ3OAll
import Derived.Test.YtnokmjmefipplaaGreatDoorRwA
import Derived.Test.YtnokmjmefipplaaGreatDoorPvAAll
import Derived.Laws.Cover3
import Derived.Test.YtnokmjmefipplaaGreatDoorGuardS
import Derived.Test.YtnokmjmefipplaaGreatDoorPvHAll
set_option maxRecDepth 100000
set_option maxHeartbeats 32000000
namespace Go.Proofs.YtnokmjmefipplaaGreatDoor
open Go.RowKit
def crB (hlo:Bool) (lo:Rat) (hhi:Bool) (hi:Rat):Bool:=!(hlo && hhi && decide (0 < cs lo hi))
theorem zA {hlo pl:Bool} {al:Option Addr} {nl cl:Nat} {dl:Option Addr} {ml ll:Nat} {lo:Rat} {hhi ph:Bool} {ah:Option Addr} {nh ch:Nat} {dh:Option Addr} {mh lh:Nat} {hi:Rat} {z:Int} {R:Nat} (w:World) (hl:TR w pl al nl cl dl ml ll lo R) (hh:TR w ph ah nh ch dh mh lh hi R) (hR1:1≤R) (hR:R≤4000000) :
 Calls Tryz.prog 120 #[.int .i64 z,.agg #[.bool hlo,.bool pl,.slice al nl cl,.slice dl ml ll],.agg #[.bool hhi,.bool ph,.slice ah nh ch,.slice dh mh lh]] w fun e w'=>e = .returned (.bool (crB hlo lo hhi hi))∧Below w.heap.size w w':=by
 cases hlo
 ·have A0:=aJ w #[.bool false,.bool pl,.slice al nl cl,.slice dl ml ll] 43
  have hb0:=aG w (.cells #[.bool false,.bool pl,.slice al nl cl,.slice dl ml ll] 43)
  have hs0:(w.alloc (.cells #[.bool false,.bool pl,.slice al nl cl,.slice dl ml ll] 43)).heap.size = w.heap.size + 1:=by simp
  have A1:=aJ (w.alloc (.cells #[.bool false,.bool pl,.slice al nl cl,.slice dl ml ll] 43)) #[.bool hhi,.bool ph,.slice ah nh ch,.slice dh mh lh] 43
  have hb1:=aG (w.alloc (.cells #[.bool false,.bool pl,.slice al nl cl,.slice dl ml ll] 43)) (.cells #[.bool hhi,.bool ph,.slice ah nh ch,.slice dh mh lh] 43)
  rw [hs0] at A1
  replace A0:=A0.below hb1
  have hbA:=aB hb0 hb1
  clear hb0 hb1 hs0
  have a0:=A0 0 _ rfl
  have b0:=A1 0 _ rfl
  go_enter Tryz.func120,Tryz.ntmps120
  go_wp2
  go_ret
  exact ⟨by simp [crB],hbA⟩
 ·cases hhi
  ·have A0:=aJ w #[.bool true,.bool pl,.slice al nl cl,.slice dl ml ll] 43
   have hb0:=aG w (.cells #[.bool true,.bool pl,.slice al nl cl,.slice dl ml ll] 43)
   have hs0:(w.alloc (.cells #[.bool true,.bool pl,.slice al nl cl,.slice dl ml ll] 43)).heap.size = w.heap.size + 1:=by simp
   have A1:=aJ (w.alloc (.cells #[.bool true,.bool pl,.slice al nl cl,.slice dl ml ll] 43)) #[.bool false,.bool ph,.slice ah nh ch,.slice dh mh lh] 43
   have hb1:=aG (w.alloc (.cells #[.bool true,.bool pl,.slice al nl cl,.slice dl ml ll] 43)) (.cells #[.bool false,.bool ph,.slice ah nh ch,.slice dh mh lh] 43)
   rw [hs0] at A1
   replace A0:=A0.below hb1
   have hbA:=aB hb0 hb1
   clear hb0 hb1 hs0
   have a0:=A0 0 _ rfl
   have b0:=A1 0 _ rfl
   go_enter Tryz.func120,Tryz.ntmps120
   go_wp2
   go_ret
   exact ⟨by simp [crB],hbA⟩
  ·have A0:=aJ w #[.bool true,.bool pl,.slice al nl cl,.slice dl ml ll] 43
   have hb0:=aG w (.cells #[.bool true,.bool pl,.slice al nl cl,.slice dl ml ll] 43)
   have hs0:(w.alloc (.cells #[.bool true,.bool pl,.slice al nl cl,.slice dl ml ll] 43)).heap.size = w.heap.size + 1:=by simp
   have A1:=aJ (w.alloc (.cells #[.bool true,.bool pl,.slice al nl cl,.slice dl ml ll] 43)) #[.bool true,.bool ph,.slice ah nh ch,.slice dh mh lh] 43
   have hb1:=aG (w.alloc (.cells #[.bool true,.bool pl,.slice al nl cl,.slice dl ml ll] 43)) (.cells #[.bool true,.bool ph,.slice ah nh ch,.slice dh mh lh] 43)
   rw [hs0] at A1
   replace A0:=A0.below hb1
   have hbA:=aB hb0 hb1
   clear hb0 hb1 hs0
   have a0:=A0 0 _ rfl
   have b0:=A1 0 _ rfl
   have a1:=A0 1 _ rfl
   have a2:=A0 2 _ rfl
   have a3:=A0 3 _ rfl
   have b1:=A1 1 _ rfl
   have b2:=A1 2 _ rfl
   have b3:=A1 3 _ rfl
   go_enter Tryz.func120,Tryz.ntmps120
   go_wp2_with fail
   generalize (w.alloc (.cells #[.bool true,.bool pl,.slice al nl cl,.slice dl ml ll] 43)).alloc (.cells #[.bool true,.bool ph,.slice ah nh ch,.slice dh mh lh] 43) = W0 at *
   clear a0 a1 a2 a3 b0 b1 b2 b3
   obtain ⟨t,et⟩:∃ t,t = cs lo hi:=⟨_,rfl⟩
   refine (oH t W0 (hl.below hbA) (hh.below hbA) (by omega) hR1 hR1 et).mono ?_
   rintro e w1 ⟨rfl,h1⟩
   have hw:=aB hbA h1
   have HT:Hid (t = cs lo hi):=et
   clear h1 hbA A0 A1 et
   go_wp2
   go_ret
   exact ⟨by unfold crB;rw [← HT.out];by_cases h:t≤0 <;> simp [h] <;> omega,hw⟩
def kpB (m:Rat) (hlo hhi:Bool):Bool:=if m < 0 then !hlo else if 0 < m then !hhi else true
theorem aC5 {bm q:Nat} {ma:Option Addr} {nm mc:Nat} {M:Nat→Rat} {Sm:Nat} {hlo pl:Bool} {al:Option Addr} {nl cl:Nat} {dl:Option Addr} {ml ll:Nat} {hhi ph:Bool} {ah:Option Addr} {nh ch:Nat} {dh:Option Addr} {mh lh:Nat} {z:Int} (w:World) (hz0:z = (q:Int)) (hm:w.cell? ⟨bm,0,none⟩ = some (.slice ma nm mc)) (hM:LQ w ma nm M (fun _=>Sm)) (hq:q < nm) (hSm:1≤Sm) (hS9:Sm≤9000000) :
 Calls Tryz.prog 121 #[.int .i64 z,.agg #[.bool hlo,.bool pl,.slice al nl cl,.slice dl ml ll],.agg #[.bool hhi,.bool ph,.slice ah nh ch,.slice dh mh lh],.pointer (some ⟨bm,0,none⟩)] w fun e w'=>e = .returned (.bool (kpB (M q) hlo hhi))∧Below w.heap.size w w':=by
 subst hz0
 rcases hM with h0 | ⟨mb,mo,rfl,hel⟩
 ·omega
 obtain ⟨pM,aM,nM,cM,dM,mM,lM,e0,e1,e2,hA⟩:=hel q hq
 have hqI:(q:Int) < (nm:Int):=by omega
 have hqI3:(q:Int) * 3 = ((q * 3:Nat):Int):=by omega
 have A0:=aJ w #[.bool hlo,.bool pl,.slice al nl cl,.slice dl ml ll] 43
 have hb0:=aG w (.cells #[.bool hlo,.bool pl,.slice al nl cl,.slice dl ml ll] 43)
 have hs0:(w.alloc (.cells #[.bool hlo,.bool pl,.slice al nl cl,.slice dl ml ll] 43)).heap.size = w.heap.size + 1:=by simp
 have A1:=aJ (w.alloc (.cells #[.bool hlo,.bool pl,.slice al nl cl,.slice dl ml ll] 43)) #[.bool hhi,.bool ph,.slice ah nh ch,.slice dh mh lh] 43
 have hb1:=aG (w.alloc (.cells #[.bool hlo,.bool pl,.slice al nl cl,.slice dl ml ll] 43)) (.cells #[.bool hhi,.bool ph,.slice ah nh ch,.slice dh mh lh] 43)
 rw [hs0] at A1
 replace A0:=A0.below hb1
 have hbA:=aB hb0 hb1
 clear hb0 hb1 hs0
 have x0:=aF hbA hm
 have x1:=aF hbA e0
 have x2:=aF hbA e1
 have x3:=aF hbA e2
 clear hel
 go_enter Tryz.func121,Tryz.ntmps121
 go_wp2_with fail
 clear x0 x1 x2 x3
 generalize (w.alloc (.cells #[.bool hlo,.bool pl,.slice al nl cl,.slice dl ml ll] 43)).alloc (.cells #[.bool hhi,.bool ph,.slice ah nh ch,.slice dh mh lh] 43) = W0 at *
 rcases (show M q = 0∨0 < M q∨M q < 0 by grind) with hm0 | hm0 | hm0
 ·refine (fO (0) W0 (hA.below hbA) hS9 hSm (nK hm0)).mono ?_
  rintro e w1 ⟨rfl,h1⟩
  have hw:=aB hbA h1
  replace A0:=A0.below h1
  replace A1:=A1.below h1
  have a0:=A0 0 _ rfl
  have b0:=A1 0 _ rfl
  clear h1 hbA A0 A1
  go_wp2
  go_ret
  exact ⟨by simp [kpB,hm0,Rat.lt_irrefl],hw⟩
 ·refine (fO (1) W0 (hA.below hbA) hS9 hSm (kW hm0)).mono ?_
  rintro e w1 ⟨rfl,h1⟩
  have hw:=aB hbA h1
  replace A0:=A0.below h1
  replace A1:=A1.below h1
  have a0:=A0 0 _ rfl
  have b0:=A1 0 _ rfl
  clear h1 hbA A0 A1
  go_wp2
  go_ret
  exact ⟨by simp [kpB,hm0,show ¬ M q < 0 by grind],hw⟩
 ·refine (fO (-1) W0 (hA.below hbA) hS9 hSm (kX hm0)).mono ?_
  rintro e w1 ⟨rfl,h1⟩
  have hw:=aB hbA h1
  replace A0:=A0.below h1
  replace A1:=A1.below h1
  have a0:=A0 0 _ rfl
  have b0:=A1 0 _ rfl
  clear h1 hbA A0 A1
  go_wp2
  go_ret
  exact ⟨by simp [kpB,hm0],hw⟩
theorem allC (P:Prob)  (w:World) (hP:PQ w P) (hK:P.K≤1048576) :
 Calls Tryz.prog 118 #[P.val,.func (.func 120) #[] #[]] w fun e w'=>∃ b,e = .returned (.bool b)∧(b = true↔∀ q,q < P.rn + P.vn→crB (phl P q) (plo P q) (phh P q) (phi P q) = true)∧Below w.heap.size w w':=by
 have hall:=hP.all
 have hrn:P.rn≤1048576:=by have:=aT P.ZR P.rn;omega
 have hvn:P.vn≤1048576:=by have:=aT P.ZV P.vn;omega
 unfold Prob.val
 have Pb:=aJ w #[.bool P.mx,.string P.nm,.bool P.p,.slice P.a P.na P.ca,.slice P.d P.nd P.cd,.slice P.va P.vn P.vc,.slice P.ra P.rn P.rc] 31
 have hz:=aG w (.cells #[.bool P.mx,.string P.nm,.bool P.p,.slice P.a P.na P.ca,.slice P.d P.nd P.cd,.slice P.va P.vn P.vc,.slice P.ra P.rn P.rc] 31)
 have hsA:w.heap.size + 1≤(w.alloc (.cells #[.bool P.mx,.string P.nm,.bool P.p,.slice P.a P.na P.ca,.slice P.d P.nd P.cd,.slice P.va P.vn P.vc,.slice P.ra P.rn P.rc] 31)).heap.size:=by simp
 go_enter Tryz.func118,Tryz.ntmps118
 go_wp2
 generalize w.alloc (.cells #[.bool P.mx,.string P.nm,.bool P.p,.slice P.a P.na P.ca,.slice P.d P.nd P.cd,.slice P.va P.vn P.vc,.slice P.ra P.rn P.rc] 31) = W0 at *
 go_loopw [12] (fun s wr=>∃ (i:Nat),i≤P.rn∧s = .int .i64 i∧(∀ q,q < i→crB (phl P q) (plo P q) (phh P q) (phi P q) = true)∧BoxC wr w.heap.size (#[.bool P.mx,.string P.nm,.bool P.p,.slice P.a P.na P.ca,.slice P.d P.nd P.cd,.slice P.va P.vn P.vc,.slice P.ra P.rn P.rc]).toList∧Below w.heap.size w wr) (fun t _=>P.rn - (intOf t).toNat)
 case atStart=>exact ⟨0,Nat.zero_le _,rfl,fun q hq=>by omega,Pb,hz⟩
 case round =>
  clear Pb hz hsA
  obtain ⟨i,hi,rfl,I,Pb,hbw⟩:=hrel
  by_cases hlt:i < P.rn
  ·have hkI:(i:Int) < (P.rn:Int):=by omega
   rcases hP.r with h00 | ⟨rb,ro,hra,hew⟩
   ·omega
   have hR:=hew i hlt
   have hZi:P.ZR i≤P.K:=by have:=bI (Z:=P.ZR) hlt;omega
   have hK1:1≤P.K:=by have:=hR.s1;omega
   obtain ⟨nmR,enm⟩:∃ nmR,nmR = (P.R i).nm:=⟨_,rfl⟩
   obtain ⟨nt,ent⟩:∃ nt,nt = (P.R i).nt:=⟨_,rfl⟩
   obtain ⟨hl,ehl⟩:∃ hl,hl = phl P i:=⟨_,rfl⟩
   obtain ⟨hh,ehh⟩:∃ hh,hh = phh P i:=⟨_,rfl⟩
   have r0:=hR.nm
   obtain ⟨ta,tc,Zt,r1,_,_,_⟩:=hR.terms
   have r2:=hR.hlo
   obtain ⟨pl,al,nl,cl,dl,ml,ll,r3,r4,r5,hlo⟩:=hR.lo
   have r6:=hR.hhi
   obtain ⟨ph,ah,nh,ch,dh,mh,lh,r7,r8,r9,hhi⟩:=hR.hi
   have e1:phl P i = (P.R i).hlo:=if_pos hlt
   have e2:phh P i = (P.R i).hhi:=if_pos hlt
   have e3:plo P i = (P.R i).lo:=if_pos hlt
   have e4:phi P i = (P.R i).hi:=if_pos hlt
   rw [← enm] at r0
   rw [← ent] at r1
   rw [← e1,← ehl] at r2
   rw [← e2,← ehh] at r6
   rw [← e3] at hlo
   rw [← e4] at hhi
   replace r0:=aF hbw r0;replace r1:=aF hbw r1;replace r2:=aF hbw r2;replace r3:=aF hbw r3;replace r4:=aF hbw r4;replace r5:=aF hbw r5;replace r6:=aF hbw r6;replace r7:=aF hbw r7;replace r8:=aF hbw r8;replace r9:=aF hbw r9
   have HE:Hid (hl = phl P i∧hh = phh P i):=⟨ehl,ehh⟩
   have hkI2:(i:Int) * 10 = ((i * 10:Nat):Int):=by omega
   have hra':P.ra = some ⟨rb,ro,none⟩:=hra
   clear hew hR enm ent ehl ehh hra e1 e2 e3 e4
   have N:=aJ wr #[.string nmR,.slice ta nt tc,.bool hl,.bool pl,.slice al nl cl,.slice dl ml ll,.bool hh,.bool ph,.slice ah nh ch,.slice dh mh lh] 72
   have n2:=N 2 _ rfl;have n3:=N 3 _ rfl;have n4:=N 4 _ rfl;have n5:=N 5 _ rfl;have n6:=N 6 _ rfl;have n7:=N 7 _ rfl;have n8:=N 8 _ rfl;have n9:=N 9 _ rfl
   go_wp2_with fail
   have hz:=aG wr (.cells #[.string nmR,.slice ta nt tc,.bool hl,.bool pl,.slice al nl cl,.slice dl ml ll,.bool hh,.bool ph,.slice ah nh ch,.slice dh mh lh] 72)
   replace Pb:=Pb.below hz
   replace hbw:=aB hbw hz
   clear r0 r1 r2 r3 r4 r5 r6 r7 r8 r9 hz N n2 n3 n4 n5 n6 n7 n8 n9
   generalize wr.alloc (.cells #[.string nmR,.slice ta nt tc,.bool hl,.bool pl,.slice al nl cl,.slice dl ml ll,.bool hh,.bool ph,.slice ah nh ch,.slice dh mh lh] 72) = W2 at *
   refine (zA (lo:=plo P (i)) (hi:=phi P (i)) (R:=P.K) W2 ((hlo.up hZi).below hbw) ((hhi.up hZi).below hbw) hK1 (by omega)).mono ?_
   rintro e w3 ⟨rfl,h3⟩
   have Pb3:=Pb.below h3
   have hbw3:=aB hbw h3
   obtain ⟨b,eb⟩:∃ b,b = crB hl (plo P i) hh (phi P i):=⟨_,rfl⟩
   rw [← eb]
   have EB:Hid (b = crB (phl P i) (plo P i) (phh P i) (phi P i)):=by show b = _;rw [eb,HE.out.1,HE.out.2]
   clear eb h3 hbw Pb
   cases b
   ·have hno:¬ ∀ q,q < P.rn + P.vn→crB (phl P q) (plo P q) (phh P q) (phi P q) = true:=fun h=>by
     have h2:=h i (by omega)
     rw [← EB.out] at h2
     cases h2
    clear Pb3 EB
    go_wp2
    go_ret
    exact ⟨false,rfl,⟨fun h=>(by cases h),fun h=>absurd h hno⟩,hbw3⟩
   ·have I3:∀ q,q < i + 1→crB (phl P q) (plo P q) (phh P q) (phi P q) = true:=fun q hq=>by
     rcases (by omega:q < i∨q = i) with h | rfl
     ·exact I q h
     ·exact EB.out.symm
    clear EB I
    try rw [← hra']
    clear hra'
    go_wp2
    go_roundw
    case rel=>first | exact ⟨i + 1,by omega,by go_num,I3,Pb3,hbw3⟩ | ((repeat apply Exists.intro);refine ⟨?_,rfl⟩;exact ⟨i + 1,by omega,by go_num,I3,Pb3,hbw3⟩)
    case measure=>simp [intOf];omega
  ·have hkI:¬ (i:Int) < (P.rn:Int):=by omega
   obtain rfl:i = P.rn:=by omega
   have q5:=Pb 5 _ rfl
   go_wp2
   clear q5
   go_loopw [29] (fun s wr=>∃ (j:Nat),j≤P.vn∧s = .int .i64 j∧(∀ q,q < P.rn + j→crB (phl P q) (plo P q) (phh P q) (phi P q) = true)∧BoxC wr w.heap.size (#[.bool P.mx,.string P.nm,.bool P.p,.slice P.a P.na P.ca,.slice P.d P.nd P.cd,.slice P.va P.vn P.vc,.slice P.ra P.rn P.rc]).toList∧Below w.heap.size w wr) (fun t _=>P.vn - (intOf t).toNat)
   case atStart=>exact ⟨0,Nat.zero_le _,rfl,I,Pb,hbw⟩
   case round =>
    clear I Pb hbw
    obtain ⟨j,hj,rfl,I,Pb,hbw⟩:=hrel
    by_cases hlt:j < P.vn
    ·have hkI:(j:Int) < (P.vn:Int):=by omega
     rcases hP.v with h00 | ⟨bv,ov,hva,hev⟩
     ·omega
     have hV:=hev j hlt
     have hZi:P.ZV j≤P.K:=by have:=bI (Z:=P.ZV) hlt;omega
     have hK1:1≤P.K:=by have:=hV.s1;omega
     obtain ⟨nmV,enm⟩:∃ nmV,nmV = (P.V j).nm:=⟨_,rfl⟩
     obtain ⟨hl,ehl⟩:∃ hl,hl = phl P (P.rn + j):=⟨_,rfl⟩
     obtain ⟨hh,ehh⟩:∃ hh,hh = phh P (P.rn + j):=⟨_,rfl⟩
     obtain ⟨wh,ewh⟩:∃ wh,wh = (P.V j).whole:=⟨_,rfl⟩
     have r0:=hV.nm
     obtain ⟨pO,aO,nO,cO,dO,mO,lO,r1,r2,r3,_⟩:=hV.obj
     have r4:=hV.hlo
     obtain ⟨pl,al,nl,cl,dl,ml,ll,r5,r6,r7,hlo⟩:=hV.lo
     have r8:=hV.hhi
     obtain ⟨ph,ah,nh,ch,dh,mh,lh,r9,r10,r11,hhi⟩:=hV.hi
     have r12:=hV.whole
     have hno:¬ P.rn + j < P.rn:=by omega
     have e1:phl P (P.rn + j) = (P.V j).hlo:=by unfold phl;rw [if_neg hno,Nat.add_sub_cancel_left]
     have e2:phh P (P.rn + j) = (P.V j).hhi:=by unfold phh;rw [if_neg hno,Nat.add_sub_cancel_left]
     have e3:plo P (P.rn + j) = (P.V j).lo:=by unfold plo;rw [if_neg hno,Nat.add_sub_cancel_left]
     have e4:phi P (P.rn + j) = (P.V j).hi:=by unfold phi;rw [if_neg hno,Nat.add_sub_cancel_left]
     rw [← enm] at r0
     rw [← e1,← ehl] at r4
     rw [← e2,← ehh] at r8
     rw [← ewh] at r12
     rw [← e3] at hlo
     rw [← e4] at hhi
     replace r0:=aF hbw r0;replace r1:=aF hbw r1;replace r2:=aF hbw r2;replace r3:=aF hbw r3;replace r4:=aF hbw r4;replace r5:=aF hbw r5;replace r6:=aF hbw r6;replace r7:=aF hbw r7;replace r8:=aF hbw r8;replace r9:=aF hbw r9;replace r10:=aF hbw r10;replace r11:=aF hbw r11;replace r12:=aF hbw r12
     have HE:Hid (hl = phl P (P.rn + j)∧hh = phh P (P.rn + j)):=⟨ehl,ehh⟩
     have hkI2:(j:Int) * 13 = ((j * 13:Nat):Int):=by omega
     have hwr:IntKind.i64.wrap ((P.rn:Int) + (j:Int)) = (P.rn:Int) + (j:Int):=by rw [IntKind.wrap_i64];omega
     have hva':P.va = some ⟨bv,ov,none⟩:=hva
     have hz:=aG wr (.cells #[.string nmV,.bool pO,.slice aO nO cO,.slice dO mO lO,.bool hl,.bool pl,.slice al nl cl,.slice dl ml ll,.bool hh,.bool ph,.slice ah nh ch,.slice dh mh lh,.bool wh] 45)
     have q6:=(Pb.below hz) 6 _ rfl
     clear hev hV enm ehl ehh ewh hva e1 e2 e3 e4 hno
     go_wp2_with fail
     replace Pb:=Pb.below hz
     replace hbw:=aB hbw hz
     clear r0 r1 r2 r3 r4 r5 r6 r7 r8 r9 r10 r11 r12 hz q6
     generalize wr.alloc (.cells #[.string nmV,.bool pO,.slice aO nO cO,.slice dO mO lO,.bool hl,.bool pl,.slice al nl cl,.slice dl ml ll,.bool hh,.bool ph,.slice ah nh ch,.slice dh mh lh,.bool wh] 45) = W2 at *
     refine (zA (lo:=plo P (P.rn + j)) (hi:=phi P (P.rn + j)) (R:=P.K) W2 ((hlo.up hZi).below hbw) ((hhi.up hZi).below hbw) hK1 (by omega)).mono ?_
     rintro e w3 ⟨rfl,h3⟩
     have Pb3:=Pb.below h3
     have hbw3:=aB hbw h3
     obtain ⟨b,eb⟩:∃ b,b = crB hl (plo P (P.rn + j)) hh (phi P (P.rn + j)):=⟨_,rfl⟩
     rw [← eb]
     have EB:Hid (b = crB (phl P (P.rn + j)) (plo P (P.rn + j)) (phh P (P.rn + j)) (phi P (P.rn + j))):=by show b = _;rw [eb,HE.out.1,HE.out.2]
     clear eb h3 hbw Pb
     cases b
     ·have hno:¬ ∀ q,q < P.rn + P.vn→crB (phl P q) (plo P q) (phh P q) (phi P q) = true:=fun h=>by
       have h2:=h (P.rn + j) (by omega)
       rw [← EB.out] at h2
       cases h2
      clear Pb3 EB
      go_wp2
      go_ret
      exact ⟨false,rfl,⟨fun h=>(by cases h),fun h=>absurd h hno⟩,hbw3⟩
     ·have I3:∀ q,q < P.rn + (j + 1)→crB (phl P q) (plo P q) (phh P q) (phi P q) = true:=fun q hq=>by
       rcases (by omega:q < P.rn + j∨q = P.rn + j) with h | rfl
       ·exact I q h
       ·exact EB.out.symm
      clear EB I
      try rw [← hva']
      clear hva'
      go_wp2
      go_roundw
      case rel=>first | exact ⟨j + 1,by omega,by go_num,I3,Pb3,hbw3⟩ | ((repeat apply Exists.intro);refine ⟨?_,rfl⟩;exact ⟨j + 1,by omega,by go_num,I3,Pb3,hbw3⟩)
      case measure=>simp [intOf];omega
    ·have hkI:¬ (j:Int) < (P.vn:Int):=by omega
     obtain rfl:j = P.vn:=by omega
     clear Pb
     go_wp2
     go_ret
     exact .inr ⟨rfl,I,hbw⟩
theorem allK (P:Prob) {bm:Nat} {ma:Option Addr} {mc:Nat} {M:Nat→Rat} {Sm:Nat} (w:World) (hP:PQ w P) (hK:P.K≤1048576) (hm:w.cell? ⟨bm,0,none⟩ = some (.slice ma (P.rn + P.vn) mc)) (hM:LQ w ma (P.rn + P.vn) M (fun _=>Sm)) (hSm:1≤Sm) (hS9:Sm≤9000000) :
 Calls Tryz.prog 118 #[P.val,.func (.func 121) #[] #[.pointer (some ⟨bm,0,none⟩)]] w fun e w'=>∃ b,e = .returned (.bool b)∧(b = true↔∀ q,q < P.rn + P.vn→kpB (M q) (phl P q) (phh P q) = true)∧Below w.heap.size w w':=by
 have hall:=hP.all
 have hrn:P.rn≤1048576:=by have:=aT P.ZR P.rn;omega
 have hvn:P.vn≤1048576:=by have:=aT P.ZV P.vn;omega
 unfold Prob.val
 have Pb:=aJ w #[.bool P.mx,.string P.nm,.bool P.p,.slice P.a P.na P.ca,.slice P.d P.nd P.cd,.slice P.va P.vn P.vc,.slice P.ra P.rn P.rc] 31
 have hz:=aG w (.cells #[.bool P.mx,.string P.nm,.bool P.p,.slice P.a P.na P.ca,.slice P.d P.nd P.cd,.slice P.va P.vn P.vc,.slice P.ra P.rn P.rc] 31)
 have hsA:w.heap.size + 1≤(w.alloc (.cells #[.bool P.mx,.string P.nm,.bool P.p,.slice P.a P.na P.ca,.slice P.d P.nd P.cd,.slice P.va P.vn P.vc,.slice P.ra P.rn P.rc] 31)).heap.size:=by simp
 go_enter Tryz.func118,Tryz.ntmps118
 go_wp2
 generalize w.alloc (.cells #[.bool P.mx,.string P.nm,.bool P.p,.slice P.a P.na P.ca,.slice P.d P.nd P.cd,.slice P.va P.vn P.vc,.slice P.ra P.rn P.rc] 31) = W0 at *
 go_loopw [12] (fun s wr=>∃ (i:Nat),i≤P.rn∧s = .int .i64 i∧(∀ q,q < i→kpB (M q) (phl P q) (phh P q) = true)∧BoxC wr w.heap.size (#[.bool P.mx,.string P.nm,.bool P.p,.slice P.a P.na P.ca,.slice P.d P.nd P.cd,.slice P.va P.vn P.vc,.slice P.ra P.rn P.rc]).toList∧Below w.heap.size w wr) (fun t _=>P.rn - (intOf t).toNat)
 case atStart=>exact ⟨0,Nat.zero_le _,rfl,fun q hq=>by omega,Pb,hz⟩
 case round =>
  clear Pb hz hsA
  obtain ⟨i,hi,rfl,I,Pb,hbw⟩:=hrel
  by_cases hlt:i < P.rn
  ·have hkI:(i:Int) < (P.rn:Int):=by omega
   rcases hP.r with h00 | ⟨rb,ro,hra,hew⟩
   ·omega
   have hR:=hew i hlt
   have hZi:P.ZR i≤P.K:=by have:=bI (Z:=P.ZR) hlt;omega
   have hK1:1≤P.K:=by have:=hR.s1;omega
   obtain ⟨nmR,enm⟩:∃ nmR,nmR = (P.R i).nm:=⟨_,rfl⟩
   obtain ⟨nt,ent⟩:∃ nt,nt = (P.R i).nt:=⟨_,rfl⟩
   obtain ⟨hl,ehl⟩:∃ hl,hl = phl P i:=⟨_,rfl⟩
   obtain ⟨hh,ehh⟩:∃ hh,hh = phh P i:=⟨_,rfl⟩
   have r0:=hR.nm
   obtain ⟨ta,tc,Zt,r1,_,_,_⟩:=hR.terms
   have r2:=hR.hlo
   obtain ⟨pl,al,nl,cl,dl,ml,ll,r3,r4,r5,hlo⟩:=hR.lo
   have r6:=hR.hhi
   obtain ⟨ph,ah,nh,ch,dh,mh,lh,r7,r8,r9,hhi⟩:=hR.hi
   have e1:phl P i = (P.R i).hlo:=if_pos hlt
   have e2:phh P i = (P.R i).hhi:=if_pos hlt
   have e3:plo P i = (P.R i).lo:=if_pos hlt
   have e4:phi P i = (P.R i).hi:=if_pos hlt
   rw [← enm] at r0
   rw [← ent] at r1
   rw [← e1,← ehl] at r2
   rw [← e2,← ehh] at r6
   rw [← e3] at hlo
   rw [← e4] at hhi
   replace r0:=aF hbw r0;replace r1:=aF hbw r1;replace r2:=aF hbw r2;replace r3:=aF hbw r3;replace r4:=aF hbw r4;replace r5:=aF hbw r5;replace r6:=aF hbw r6;replace r7:=aF hbw r7;replace r8:=aF hbw r8;replace r9:=aF hbw r9
   have HE:Hid (hl = phl P i∧hh = phh P i):=⟨ehl,ehh⟩
   have hkI2:(i:Int) * 10 = ((i * 10:Nat):Int):=by omega
   have hra':P.ra = some ⟨rb,ro,none⟩:=hra
   clear hew hR enm ent ehl ehh hra e1 e2 e3 e4
   have N:=aJ wr #[.string nmR,.slice ta nt tc,.bool hl,.bool pl,.slice al nl cl,.slice dl ml ll,.bool hh,.bool ph,.slice ah nh ch,.slice dh mh lh] 72
   have n2:=N 2 _ rfl;have n3:=N 3 _ rfl;have n4:=N 4 _ rfl;have n5:=N 5 _ rfl;have n6:=N 6 _ rfl;have n7:=N 7 _ rfl;have n8:=N 8 _ rfl;have n9:=N 9 _ rfl
   go_wp2_with fail
   have hz:=aG wr (.cells #[.string nmR,.slice ta nt tc,.bool hl,.bool pl,.slice al nl cl,.slice dl ml ll,.bool hh,.bool ph,.slice ah nh ch,.slice dh mh lh] 72)
   replace Pb:=Pb.below hz
   replace hbw:=aB hbw hz
   clear r0 r1 r2 r3 r4 r5 r6 r7 r8 r9 hz N n2 n3 n4 n5 n6 n7 n8 n9
   generalize wr.alloc (.cells #[.string nmR,.slice ta nt tc,.bool hl,.bool pl,.slice al nl cl,.slice dl ml ll,.bool hh,.bool ph,.slice ah nh ch,.slice dh mh lh] 72) = W2 at *
   refine (aC5 (q:=i) W2 rfl (aF hbw hm) (hM.below hbw) (by omega) hSm hS9).mono ?_
   rintro e w3 ⟨rfl,h3⟩
   have Pb3:=Pb.below h3
   have hbw3:=aB hbw h3
   obtain ⟨b,eb⟩:∃ b,b = kpB (M i) hl hh:=⟨_,rfl⟩
   rw [← eb]
   have EB:Hid (b = kpB (M i) (phl P i) (phh P i)):=by show b = _;rw [eb,HE.out.1,HE.out.2]
   clear eb h3 hbw Pb
   cases b
   ·have hno:¬ ∀ q,q < P.rn + P.vn→kpB (M q) (phl P q) (phh P q) = true:=fun h=>by
     have h2:=h i (by omega)
     rw [← EB.out] at h2
     cases h2
    clear Pb3 EB
    go_wp2
    go_ret
    exact ⟨false,rfl,⟨fun h=>(by cases h),fun h=>absurd h hno⟩,hbw3⟩
   ·have I3:∀ q,q < i + 1→kpB (M q) (phl P q) (phh P q) = true:=fun q hq=>by
     rcases (by omega:q < i∨q = i) with h | rfl
     ·exact I q h
     ·exact EB.out.symm
    clear EB I
    try rw [← hra']
    clear hra'
    go_wp2
    go_roundw
    case rel=>first | exact ⟨i + 1,by omega,by go_num,I3,Pb3,hbw3⟩ | ((repeat apply Exists.intro);refine ⟨?_,rfl⟩;exact ⟨i + 1,by omega,by go_num,I3,Pb3,hbw3⟩)
    case measure=>simp [intOf];omega
  ·have hkI:¬ (i:Int) < (P.rn:Int):=by omega
   obtain rfl:i = P.rn:=by omega
   have q5:=Pb 5 _ rfl
   go_wp2
   clear q5
   go_loopw [29] (fun s wr=>∃ (j:Nat),j≤P.vn∧s = .int .i64 j∧(∀ q,q < P.rn + j→kpB (M q) (phl P q) (phh P q) = true)∧BoxC wr w.heap.size (#[.bool P.mx,.string P.nm,.bool P.p,.slice P.a P.na P.ca,.slice P.d P.nd P.cd,.slice P.va P.vn P.vc,.slice P.ra P.rn P.rc]).toList∧Below w.heap.size w wr) (fun t _=>P.vn - (intOf t).toNat)
   case atStart=>exact ⟨0,Nat.zero_le _,rfl,I,Pb,hbw⟩
   case round =>
    clear I Pb hbw
    obtain ⟨j,hj,rfl,I,Pb,hbw⟩:=hrel
    by_cases hlt:j < P.vn
    ·have hkI:(j:Int) < (P.vn:Int):=by omega
     rcases hP.v with h00 | ⟨bv,ov,hva,hev⟩
     ·omega
     have hV:=hev j hlt
     have hZi:P.ZV j≤P.K:=by have:=bI (Z:=P.ZV) hlt;omega
     have hK1:1≤P.K:=by have:=hV.s1;omega
     obtain ⟨nmV,enm⟩:∃ nmV,nmV = (P.V j).nm:=⟨_,rfl⟩
     obtain ⟨hl,ehl⟩:∃ hl,hl = phl P (P.rn + j):=⟨_,rfl⟩
     obtain ⟨hh,ehh⟩:∃ hh,hh = phh P (P.rn + j):=⟨_,rfl⟩
     obtain ⟨wh,ewh⟩:∃ wh,wh = (P.V j).whole:=⟨_,rfl⟩
     have r0:=hV.nm
     obtain ⟨pO,aO,nO,cO,dO,mO,lO,r1,r2,r3,_⟩:=hV.obj
     have r4:=hV.hlo
     obtain ⟨pl,al,nl,cl,dl,ml,ll,r5,r6,r7,hlo⟩:=hV.lo
     have r8:=hV.hhi
     obtain ⟨ph,ah,nh,ch,dh,mh,lh,r9,r10,r11,hhi⟩:=hV.hi
     have r12:=hV.whole
     have hno:¬ P.rn + j < P.rn:=by omega
     have e1:phl P (P.rn + j) = (P.V j).hlo:=by unfold phl;rw [if_neg hno,Nat.add_sub_cancel_left]
     have e2:phh P (P.rn + j) = (P.V j).hhi:=by unfold phh;rw [if_neg hno,Nat.add_sub_cancel_left]
     have e3:plo P (P.rn + j) = (P.V j).lo:=by unfold plo;rw [if_neg hno,Nat.add_sub_cancel_left]
     have e4:phi P (P.rn + j) = (P.V j).hi:=by unfold phi;rw [if_neg hno,Nat.add_sub_cancel_left]
     rw [← enm] at r0
     rw [← e1,← ehl] at r4
     rw [← e2,← ehh] at r8
     rw [← ewh] at r12
     rw [← e3] at hlo
     rw [← e4] at hhi
     replace r0:=aF hbw r0;replace r1:=aF hbw r1;replace r2:=aF hbw r2;replace r3:=aF hbw r3;replace r4:=aF hbw r4;replace r5:=aF hbw r5;replace r6:=aF hbw r6;replace r7:=aF hbw r7;replace r8:=aF hbw r8;replace r9:=aF hbw r9;replace r10:=aF hbw r10;replace r11:=aF hbw r11;replace r12:=aF hbw r12
     have HE:Hid (hl = phl P (P.rn + j)∧hh = phh P (P.rn + j)):=⟨ehl,ehh⟩
     have hkI2:(j:Int) * 13 = ((j * 13:Nat):Int):=by omega
     have hwr:IntKind.i64.wrap ((P.rn:Int) + (j:Int)) = (P.rn:Int) + (j:Int):=by rw [IntKind.wrap_i64];omega
     have hva':P.va = some ⟨bv,ov,none⟩:=hva
     have hz:=aG wr (.cells #[.string nmV,.bool pO,.slice aO nO cO,.slice dO mO lO,.bool hl,.bool pl,.slice al nl cl,.slice dl ml ll,.bool hh,.bool ph,.slice ah nh ch,.slice dh mh lh,.bool wh] 45)
     have q6:=(Pb.below hz) 6 _ rfl
     clear hev hV enm ehl ehh ewh hva e1 e2 e3 e4 hno
     go_wp2_with fail
     replace Pb:=Pb.below hz
     replace hbw:=aB hbw hz
     clear r0 r1 r2 r3 r4 r5 r6 r7 r8 r9 r10 r11 r12 hz q6
     generalize wr.alloc (.cells #[.string nmV,.bool pO,.slice aO nO cO,.slice dO mO lO,.bool hl,.bool pl,.slice al nl cl,.slice dl ml ll,.bool hh,.bool ph,.slice ah nh ch,.slice dh mh lh,.bool wh] 45) = W2 at *
     refine (aC5 (q:=P.rn + j) W2 (by simp) (aF hbw hm) (hM.below hbw) (by omega) hSm hS9).mono ?_
     rintro e w3 ⟨rfl,h3⟩
     have Pb3:=Pb.below h3
     have hbw3:=aB hbw h3
     obtain ⟨b,eb⟩:∃ b,b = kpB (M (P.rn + j)) hl hh:=⟨_,rfl⟩
     rw [← eb]
     have EB:Hid (b = kpB (M (P.rn + j)) (phl P (P.rn + j)) (phh P (P.rn + j))):=by show b = _;rw [eb,HE.out.1,HE.out.2]
     clear eb h3 hbw Pb
     cases b
     ·have hno:¬ ∀ q,q < P.rn + P.vn→kpB (M q) (phl P q) (phh P q) = true:=fun h=>by
       have h2:=h (P.rn + j) (by omega)
       rw [← EB.out] at h2
       cases h2
      clear Pb3 EB
      go_wp2
      go_ret
      exact ⟨false,rfl,⟨fun h=>(by cases h),fun h=>absurd h hno⟩,hbw3⟩
     ·have I3:∀ q,q < P.rn + (j + 1)→kpB (M q) (phl P q) (phh P q) = true:=fun q hq=>by
       rcases (by omega:q < P.rn + j∨q = P.rn + j) with h | rfl
       ·exact I q h
       ·exact EB.out.symm
      clear EB I
      try rw [← hva']
      clear hva'
      go_wp2
      go_roundw
      case rel=>first | exact ⟨j + 1,by omega,by go_num,I3,Pb3,hbw3⟩ | ((repeat apply Exists.intro);refine ⟨?_,rfl⟩;exact ⟨j + 1,by omega,by go_num,I3,Pb3,hbw3⟩)
      case measure=>simp [intOf];omega
    ·have hkI:¬ (j:Int) < (P.vn:Int):=by omega
     obtain rfl:j = P.vn:=by omega
     clear Pb
     go_wp2
     go_ret
     exact .inr ⟨rfl,I,hbw⟩
theorem xG {a b:Bool} {lo hi:Rat}:crB a lo b hi = true↔¬ (a = true∧b = true∧hi < lo):=by
 unfold crB
 rw [show decide (0 < cs lo hi) = decide (hi < lo) from decide_eq_decide.2 iC]
 cases a <;> cases b <;> simp
theorem aJ7 (P:Prob):Crs P↔¬ ∀ q,q < P.rn + P.vn→crB (phl P q) (plo P q) (phh P q) (phi P q) = true:=by
 constructor
 ·rintro (⟨j,hj,a,b,c⟩ | ⟨i,hi,a,b,c⟩) h
  ·have h2:=xG.1 (h (P.rn + j) (by omega))
   refine h2 ?_
   unfold phl phh plo phi
   simp only [if_neg (show ¬ P.rn + j < P.rn by omega),Nat.add_sub_cancel_left]
   exact ⟨a,b,c⟩
  ·have h2:=xG.1 (h i (by omega))
   refine h2 ?_
   unfold phl phh plo phi
   simp only [if_pos hi]
   exact ⟨a,b,c⟩
 ·intro h
  refine Classical.byContradiction fun hn=>h fun q hq=>xG.2 fun hh=>hn ?_
  unfold phl phh plo phi at hh
  by_cases e:q < P.rn
  ·simp only [if_pos e] at hh
   exact .inr ⟨q,e,hh⟩
  ·simp only [if_neg e] at hh
   exact .inl ⟨q - P.rn,by omega,hh⟩
theorem aG4 (P:Prob) (w:World) (hP:PQ w P) (hK:P.K≤1048576) :
 Calls Tryz.prog 87 #[P.val] w fun e w'=>∃ b,e = .returned (.bool b)∧(b = true↔Crs P)∧Below w.heap.size w w':=by
 have HQ:=fun w1 (hb:Below w.heap.size w w1)=>allC P w1 (hP.below hb) hK
 unfold Prob.val at *
 have Pb:=aJ w #[.bool P.mx,.string P.nm,.bool P.p,.slice P.a P.na P.ca,.slice P.d P.nd P.cd,.slice P.va P.vn P.vc,.slice P.ra P.rn P.rc] 31
 have hb0:=aG w (.cells #[.bool P.mx,.string P.nm,.bool P.p,.slice P.a P.na P.ca,.slice P.d P.nd P.cd,.slice P.va P.vn P.vc,.slice P.ra P.rn P.rc] 31)
 have p0:=Pb 0 _ rfl;have p1:=Pb 1 _ rfl;have p2:=Pb 2 _ rfl;have p3:=Pb 3 _ rfl;have p4:=Pb 4 _ rfl;have p5:=Pb 5 _ rfl;have p6:=Pb 6 _ rfl
 go_enter Tryz.func87,Tryz.ntmps87
 go_wp2_with fail
 clear p0 p1 p2 p3 p4 p5 p6 Pb
 generalize w.alloc (.cells #[.bool P.mx,.string P.nm,.bool P.p,.slice P.a P.na P.ca,.slice P.d P.nd P.cd,.slice P.va P.vn P.vc,.slice P.ra P.rn P.rc] 31) = W0 at *
 refine (HQ W0 hb0).mono ?_
 rintro e w1 ⟨b,rfl,hb,h1⟩
 have hw:=aB hb0 h1
 have HB:Hid (b = true↔∀ q,q < P.rn + P.vn→crB (phl P q) (plo P q) (phh P q) (phi P q) = true):=hb
 clear HQ hb hb0 h1
 go_wp2
 go_ret
 have HC:=aJ7 P
 cases b
 ·exact ⟨true,rfl,⟨fun _=>HC.2 fun h=>(by have:=HB.out.2 h;cases this),fun _=>rfl⟩,hw⟩
 ·exact ⟨false,rfl,⟨fun h=>(by cases h),fun h=>absurd (HB.out.1 rfl) (HC.1 h)⟩,hw⟩
def alng (P:Prob) (Z:Nat→Rat) (q:Nat):Rat:=if q < P.rn then cv (P.R q) Z P.vn else Z (q - P.rn)
theorem xH {a b:Bool} {m:Rat}:kpB m a b = true↔(a = true→0≤m)∧(b = true→m≤0):=by
 unfold kpB
 by_cases h1:m < 0
 ·rw [if_pos h1]
  have:¬ 0≤m:=by grind
  have h2:m≤0:=by grind
  cases a <;> simp [this,h2]
 ·rw [if_neg h1]
  have h0:0≤m:=by grind
  by_cases h2:0 < m
  ·rw [if_pos h2]
   have h3:¬ m≤0:=by grind
   cases b <;> simp [h0,h3]
  ·rw [if_neg h2]
   have h3:m≤0:=by grind
   simp [h0,h3]
theorem aJ8 (P:Prob) (Z:Nat→Rat):Dir P Z↔∀ q,q < P.rn + P.vn→kpB (alng P Z q) (phl P q) (phh P q) = true:=by
 constructor
 ·intro h q hq
  rw [xH]
  unfold alng phl phh
  by_cases e:q < P.rn
  ·simp only [if_pos e];exact h.2 q e
  ·simp only [if_neg e];exact h.1 (q - P.rn) (by omega)
 ·intro h
  refine ⟨fun j hj=>?_,fun i hi=>?_⟩
  ·have h2:=h (P.rn + j) (by omega)
   rw [xH] at h2
   unfold alng phl phh at h2
   simpa only [if_neg (show ¬ P.rn + j < P.rn by omega),Nat.add_sub_cancel_left] using h2
  ·have h2:=h i (by omega)
   rw [xH] at h2
   unfold alng phl phh at h2
   simpa only [if_pos hi] using h2
theorem aN7 (P:Prob) {za:Option Addr} {zn zc:Nat} {Z:Nat→Rat} {Zz:Nat→Nat} {Kz:Nat} (w:World) (hP:PQ w P) (hz:LQ w za zn Z Zz) (hzz:∀ i,i < zn→1≤Zz i∧SzR (Z i) (Zz i)) (htz:tot Zz zn≤Kz) (hzc:zn≤zc) (hzn:zn = P.vn) (hK:P.K + Kz≤1048576) (hT:TB w) :
 Calls Tryz.prog 90 #[P.val,.slice za zn zc] w fun e w'=>∃ b,e = .returned (.bool b)∧(b = true↔Dir P Z)∧Below w.heap.size w w':=by
 subst hzn
 have hall:=hP.all
 have hrn:P.rn≤1048576:=by have:=aT P.ZR P.rn;omega
 have hvn:P.vn≤1048576:=by have:=aT P.ZV P.vn;omega
 have hZx:∀ j,j < P.vn→Zz j≤Kz:=fun j hj=>by have:=bI (Z:=Zz) hj;omega
 have hZR:∀ i,i < P.rn→P.ZR i≤P.K:=fun i hi=>by have:=bI (Z:=P.ZR) hi;omega
 obtain ⟨Dx,dx1,dx2,dx3⟩:=Wd.list (fun i hi=>(hzz i hi).2) htz
 have HSUM:=fun w1 (hb:Below w.heap.size w w1)=>sumsQ P (S:=3145736) (T:=2097160) (dx:=Kz) (ax:=Kz + 1) (m:=P.vn) w1 (hP.below hb) (hz.below hb) hzc (by omega) (fun i j hi hj=>⟨(hzz j (by omega)).1,by have:=hZR i hi;have:=hZx j (by omega);omega⟩) (by omega) (by omega) dx1 dx2 (Int.le_of_lt (bH _)) (aL8 _) (fun j hj=>(dx3 j (by omega)).ov) (fun i hi=>by have:=hZR i hi;omega) (by omega) (by omega) (hT.below hb)
 have HQ:=fun w1 (hb:Below w.heap.size w w1)=>@allK P
 have hZZ:Hid (∀ j,j < P.vn→Zz j≤2097160):=fun j hj=>by have:=hZx j hj;omega
 have HP:Hid (PQ w P):=hP
 clear hzz hZx hZR dx1 dx2 dx3 HQ
 unfold Prob.val at *
 have Pb:=aJ w #[.bool P.mx,.string P.nm,.bool P.p,.slice P.a P.na P.ca,.slice P.d P.nd P.cd,.slice P.va P.vn P.vc,.slice P.ra P.rn P.rc] 31
 have hb0:=aG w (.cells #[.bool P.mx,.string P.nm,.bool P.p,.slice P.a P.na P.ca,.slice P.d P.nd P.cd,.slice P.va P.vn P.vc,.slice P.ra P.rn P.rc] 31)
 have p0:=Pb 0 _ rfl;have p1:=Pb 1 _ rfl;have p2:=Pb 2 _ rfl;have p3:=Pb 3 _ rfl;have p4:=Pb 4 _ rfl;have p5:=Pb 5 _ rfl;have p6:=Pb 6 _ rfl
 go_enter Tryz.func90,Tryz.ntmps90
 go_wp2_with fail
 clear p0 p1 p2 p3 p4 p5 p6
 generalize w.alloc (.cells #[.bool P.mx,.string P.nm,.bool P.p,.slice P.a P.na P.ca,.slice P.d P.nd P.cd,.slice P.va P.vn P.vc,.slice P.ra P.rn P.rc] 31) = W0 at *
 refine (HSUM W0 hb0).mono ?_
 rintro e w1 ⟨sa,sc,rfl,L,h1⟩
 have hb1:=aB hb0 h1
 replace Pb:=Pb.below h1
 have hx:=aG w1 (.cells #[.slice sa P.rn sc,.slice za P.vn zc] 32)
 have N:=aJ w1 #[.slice sa P.rn sc,.slice za P.vn zc] 32
 have n0:=N 0 _ rfl
 have n1:=N 1 _ rfl
 have LS:=(L.below hx).lq
 replace Pb:=Pb.below hx
 replace hb1:=aB hb1 hx
 clear HSUM h1 hb0 hx N L
 go_wp2_with fail
 generalize w1.alloc (.cells #[.slice sa P.rn sc,.slice za P.vn zc] 32) = W1 at *
 refine (aB5 (S:=2097160) W1 n0 n1 LS (hz.below hb1) (fun i hi=>Nat.le_refl _) hZZ.out (by omega)).mono ?_
 rintro e w2 ⟨ma,mc,rfl,HM,h2⟩
 replace Pb:=Pb.below h2
 replace hb1:=aB hb1 h2
 clear n0 n1 LS h2
 have hx:=aG w2 (.cells #[.slice ma (P.rn + P.vn) mc] 32)
 have B2:=aJ w2 #[.slice ma (P.rn + P.vn) mc] 32
 replace Pb:=Pb.below hx
 replace hb1:=aB hb1 hx
 replace HM:=HM.below hx
 have p0:=Pb 0 _ rfl;have p1:=Pb 1 _ rfl;have p2:=Pb 2 _ rfl;have p3:=Pb 3 _ rfl;have p4:=Pb 4 _ rfl;have p5:=Pb 5 _ rfl;have p6:=Pb 6 _ rfl
 clear hx
 go_wp2_with fail
 clear p0 p1 p2 p3 p4 p5 p6
 have b0:=B2 0 _ rfl
 clear B2
 generalize w2.alloc (.cells #[.slice ma (P.rn + P.vn) mc] 32) = W2 at *
 refine (allK P (M:=alng P Z) W2 (HP.out.below hb1) (by omega) b0 HM (by omega) (by omega)).mono ?_
 rintro e w3 ⟨b,rfl,hb,h3⟩
 have hw:=aB hb1 h3
 have HB:Hid (b = true↔Dir P Z):=hb.trans (aJ8 P Z).symm
 clear hb h3 hb1 b0 HM Pb
 go_wp2
 go_ret
 exact ⟨b,rfl,HB.out,hw⟩
def Prob.noK (P:Prob):Prob:={ P with p:=false,a:=none,na:=0,ca:=0,d:=none,nd:=0,cd:=0,k:=0 }
theorem szr0 {S:Nat} (h:1≤S):SzR 0 S:=(szw 0 (by decide)).le h
theorem aQ0 (w:World) {S:Nat} (h:1≤S):TR w false none 0 0 none 0 0 0 S:=(mG w).up h
theorem PQ.noK {w:World} {P:Prob} (h:PQ w P):PQ w P.noK:=⟨aQ0 w h.s1,h.s1,szr0 h.s1,h.v,h.r,h.all,h.vc,h.rc⟩
theorem aC6 (P:Prob) (Z:Nat→Rat):vlu P.noK Z = rte P Z:=by
 rw [jC]
 show (0:Rat) + aQ (fun j=>(P.V j).obj * Z j) P.vn = _
 rw [Rat.zero_add]
 rfl
def imp (P:Prob) (Z:Nat→Rat):Prop:=if P.mx = true then 0 < rte P Z else rte P Z < 0
theorem aG5 (P:Prob) {za:Option Addr} {zn zc:Nat} {Z:Nat→Rat} {Zz:Nat→Nat} {Kz:Nat} (w:World) (hP:PQ w P) (hz:LQ w za zn Z Zz) (hzz:∀ i,i < zn→1≤Zz i∧SzR (Z i) (Zz i)) (htz:tot Zz zn≤Kz) (hzc:zn≤zc) (hzn:zn = P.vn) (hK:P.K + Kz≤1048576) (hT:TB w) :
 Calls Tryz.prog 91 #[P.val,.slice za zn zc] w fun e w'=>∃ b,e = .returned (.bool b)∧(b = true↔imp P Z)∧Below w.heap.size w w':=by
 have HV:∀ w1,Below w.heap.size w w1→Calls Tryz.prog 24 #[.agg #[.bool P.mx,.string P.nm,.bool false,.slice none 0 0,.slice none 0 0,.slice P.va P.vn P.vc,.slice P.ra P.rn P.rc],.slice za zn zc] w1 fun e w'=>∃ f c n1 k1 c' n' k',e = .returned (.agg #[.bool f,.slice c n1 k1,.slice c' n' k'])∧GR w' w1.heap.size f c n1 k1 c' n' k' (rte P Z) 2097160∧Below w1.heap.size w1 w':=fun w1 hb=>by
  rw [← aC6]
  exact aC4 P.noK w1 (hP.noK.below hb) (hz.below hb) hzz htz hzc hzn hK (hT.below hb)
 clear hzz hz hP hzn htz hzc
 unfold Prob.val imp
 cases hmx:P.mx
 ·rw [if_neg (by decide)]
  rw [hmx] at HV
  have Pb:=aJ w #[.bool false,.string P.nm,.bool false,.slice none 0 0,.slice none 0 0,.slice P.va P.vn P.vc,.slice P.ra P.rn P.rc] 31
  have hb0:=aG w (.cells #[.bool false,.string P.nm,.bool false,.slice none 0 0,.slice none 0 0,.slice P.va P.vn P.vc,.slice P.ra P.rn P.rc] 31)
  have p0:=Pb 0 _ rfl;have p1:=Pb 1 _ rfl;have p2:=Pb 2 _ rfl;have p3:=Pb 3 _ rfl;have p4:=Pb 4 _ rfl;have p5:=Pb 5 _ rfl;have p6:=Pb 6 _ rfl
  clear hmx
  go_enter Tryz.func91,Tryz.ntmps91
  go_wp2_with fail
  clear p0 p1 p2 p3 p4 p5 p6
  generalize w.alloc (.cells #[.bool false,.string P.nm,.bool false,.slice none 0 0,.slice none 0 0,.slice P.va P.vn P.vc,.slice P.ra P.rn P.rc] 31) = W0 at *
  refine (HV W0 hb0).mono ?_
  rintro e w1 ⟨f,c,n,k,d,m,l,rfl,G,h1⟩
  have hb1:=aB hb0 h1
  replace Pb:=Pb.below h1
  clear HV h1 hb0
  go_wp2_with fail
  rcases (show rte P Z = 0∨0 < rte P Z∨rte P Z < 0 by grind) with hm0 | hm0 | hm0
  ·refine (fO (0) w1 G.tr (by omega) (by omega) (nK hm0)).mono ?_
   rintro e w2 ⟨rfl,h2⟩
   have hw:=aB hb1 h2
   replace Pb:=Pb.below h2
   have p0:=Pb 0 _ rfl
   clear h2 hb1 G Pb
   go_wp2
   go_ret
   exact ⟨false,rfl,⟨fun h=>(by first | grind | cases h),fun h=>(by first | rfl | grind)⟩,hw⟩
  ·refine (fO (1) w1 G.tr (by omega) (by omega) (kW hm0)).mono ?_
   rintro e w2 ⟨rfl,h2⟩
   have hw:=aB hb1 h2
   replace Pb:=Pb.below h2
   have p0:=Pb 0 _ rfl
   clear h2 hb1 G Pb
   go_wp2
   go_ret
   exact ⟨false,rfl,⟨fun h=>(by first | grind | cases h),fun h=>(by first | rfl | grind)⟩,hw⟩
  ·refine (fO (-1) w1 G.tr (by omega) (by omega) (kX hm0)).mono ?_
   rintro e w2 ⟨rfl,h2⟩
   have hw:=aB hb1 h2
   replace Pb:=Pb.below h2
   have p0:=Pb 0 _ rfl
   clear h2 hb1 G Pb
   go_wp2
   go_ret
   exact ⟨true,rfl,⟨fun h=>(by first | grind | cases h),fun h=>(by first | rfl | grind)⟩,hw⟩
 ·rw [if_pos rfl]
  rw [hmx] at HV
  have Pb:=aJ w #[.bool true,.string P.nm,.bool false,.slice none 0 0,.slice none 0 0,.slice P.va P.vn P.vc,.slice P.ra P.rn P.rc] 31
  have hb0:=aG w (.cells #[.bool true,.string P.nm,.bool false,.slice none 0 0,.slice none 0 0,.slice P.va P.vn P.vc,.slice P.ra P.rn P.rc] 31)
  have p0:=Pb 0 _ rfl;have p1:=Pb 1 _ rfl;have p2:=Pb 2 _ rfl;have p3:=Pb 3 _ rfl;have p4:=Pb 4 _ rfl;have p5:=Pb 5 _ rfl;have p6:=Pb 6 _ rfl
  clear hmx
  go_enter Tryz.func91,Tryz.ntmps91
  go_wp2_with fail
  clear p0 p1 p2 p3 p4 p5 p6
  generalize w.alloc (.cells #[.bool true,.string P.nm,.bool false,.slice none 0 0,.slice none 0 0,.slice P.va P.vn P.vc,.slice P.ra P.rn P.rc] 31) = W0 at *
  refine (HV W0 hb0).mono ?_
  rintro e w1 ⟨f,c,n,k,d,m,l,rfl,G,h1⟩
  have hb1:=aB hb0 h1
  replace Pb:=Pb.below h1
  clear HV h1 hb0
  go_wp2_with fail
  rcases (show rte P Z = 0∨0 < rte P Z∨rte P Z < 0 by grind) with hm0 | hm0 | hm0
  ·refine (fO (0) w1 G.tr (by omega) (by omega) (nK hm0)).mono ?_
   rintro e w2 ⟨rfl,h2⟩
   have hw:=aB hb1 h2
   replace Pb:=Pb.below h2
   have p0:=Pb 0 _ rfl
   clear h2 hb1 G Pb
   go_wp2
   go_ret
   exact ⟨false,rfl,⟨fun h=>(by first | grind | cases h),fun h=>(by first | rfl | grind)⟩,hw⟩
  ·refine (fO (1) w1 G.tr (by omega) (by omega) (kW hm0)).mono ?_
   rintro e w2 ⟨rfl,h2⟩
   have hw:=aB hb1 h2
   replace Pb:=Pb.below h2
   have p0:=Pb 0 _ rfl
   clear h2 hb1 G Pb
   go_wp2
   go_ret
   exact ⟨true,rfl,⟨fun h=>(by first | grind | cases h),fun h=>(by first | rfl | grind)⟩,hw⟩
  ·refine (fO (-1) w1 G.tr (by omega) (by omega) (kX hm0)).mono ?_
   rintro e w2 ⟨rfl,h2⟩
   have hw:=aB hb1 h2
   replace Pb:=Pb.below h2
   have p0:=Pb 0 _ rfl
   clear h2 hb1 G Pb
   go_wp2
   go_ret
   exact ⟨false,rfl,⟨fun h=>(by first | grind | cases h),fun h=>(by first | rfl | grind)⟩,hw⟩
def UnbR (P:Prob) (C:Crt) (eS eP eR:Value) (w:World) (e:Ending) (w':World):Prop :=
 Below w.heap.size w w'∧((¬ (C.xn = P.vn∧C.zn = P.vn)∧e = .returned eS)∨(C.xn = P.vn∧C.zn = P.vn∧((¬ bY P C.xn C.X∧e = .returned eP)∨(bY P C.xn C.X∧((¬ (Dir P C.Z∧imp P C.Z)∧e = .returned eR)∨(Dir P C.Z∧imp P C.Z∧e = .returned .nilIface))))))
theorem unbQ (P:Prob) (C:Crt) (w:World) (hP:PQ w P) (hC:CQ w C) (hK:P.K + C.K≤1048576) (hT:TB w) {eS eP eV eB eR eD:Value} (EH:EE w eS eP eV eB eR eD) :
 Calls Tryz.prog 61 #[P.val,C.val] w fun e w'=>UnbR P C eS eP eR w e w':=by
 unfold Prob.val Crt.val
 have Pb:=aJ w #[.bool P.mx,.string P.nm,.bool P.p,.slice P.a P.na P.ca,.slice P.d P.nd P.cd,.slice P.va P.vn P.vc,.slice P.ra P.rn P.rc] 31
 have hz0:=aG w (.cells #[.bool P.mx,.string P.nm,.bool P.p,.slice P.a P.na P.ca,.slice P.d P.nd P.cd,.slice P.va P.vn P.vc,.slice P.ra P.rn P.rc] 31)
 have hs0:(w.alloc (.cells #[.bool P.mx,.string P.nm,.bool P.p,.slice P.a P.na P.ca,.slice P.d P.nd P.cd,.slice P.va P.vn P.vc,.slice P.ra P.rn P.rc] 31)).heap.size = w.heap.size + 1:=by simp
 have Cb:=aJ (w.alloc (.cells #[.bool P.mx,.string P.nm,.bool P.p,.slice P.a P.na P.ca,.slice P.d P.nd P.cd,.slice P.va P.vn P.vc,.slice P.ra P.rn P.rc] 31)) #[.int .i64 C.vd,.bool C.p,.slice C.a C.na C.ca,.slice C.d C.nd C.cd,.slice C.xa C.xn C.xc,.slice C.ya C.yn C.yc,.slice C.za C.zn C.zc] 47
 have hz1:=aG (w.alloc (.cells #[.bool P.mx,.string P.nm,.bool P.p,.slice P.a P.na P.ca,.slice P.d P.nd P.cd,.slice P.va P.vn P.vc,.slice P.ra P.rn P.rc] 31)) (.cells #[.int .i64 C.vd,.bool C.p,.slice C.a C.na C.ca,.slice C.d C.nd C.cd,.slice C.xa C.xn C.xc,.slice C.ya C.yn C.yc,.slice C.za C.zn C.zc] 47)
 rw [hs0] at Cb
 replace Pb:=Pb.below hz1
 have hb0:=aB hz0 hz1
 have E0:=EH.below hb0
 have hall:=hC.all
 have ht1:=bJ C.ZX C.xn
 have ht2:=bJ C.ZY C.yn
 have ht3:=bJ C.ZZ C.zn
 clear hz0 hz1 hs0
 have p0:=Pb 0 _ rfl;have p1:=Pb 1 _ rfl;have p2:=Pb 2 _ rfl;have p3:=Pb 3 _ rfl;have p4:=Pb 4 _ rfl;have p5:=Pb 5 _ rfl;have p6:=Pb 6 _ rfl
 have c4:=Cb 4 _ rfl
 have c6:=Cb 6 _ rfl
 go_enter Tryz.func61,Tryz.ntmps61
 by_cases hx:C.xn = P.vn
 ·have hxI:(C.xn:Int) = (P.vn:Int):=by omega
  by_cases hy:C.zn = P.vn
  ·have hyI:(C.zn:Int) = (P.vn:Int):=by omega
   have HX:Hid (C.xn = P.vn∧C.zn = P.vn):=⟨hx,hy⟩
   clear hx hy
   go_wp2_with fail
   clear p0 p1 p2 p3 p4 p5 p6 c4 c6 hxI hyI
   generalize (w.alloc (.cells #[.bool P.mx,.string P.nm,.bool P.p,.slice P.a P.na P.ca,.slice P.d P.nd P.cd,.slice P.va P.vn P.vc,.slice P.ra P.rn P.rc] 31)).alloc (.cells #[.int .i64 C.vd,.bool C.p,.slice C.a C.na C.ca,.slice C.d C.nd C.cd,.slice C.xa C.xn C.xc,.slice C.ya C.yn C.yc,.slice C.za C.zn C.zc] 47) = W0 at *
   refine (aA1 P (Kx:=C.K) W0 (hP.below hb0) (hC.x.below hb0) hC.zx (by omega) hC.xc (by omega) (hT.below hb0)).mono ?_
   rintro e w1 ⟨b,rfl,hb,h1⟩
   have hb1:=aB hb0 h1
   replace Pb:=Pb.below h1
   replace Cb:=Cb.below h1
   have E1:=EH.below hb1
   have HH:Hid (b = true↔bY P C.xn C.X):=hb
   clear h1 hb E0 hb0
   cases b
   ·obtain ⟨ec,pp,rfl⟩:=E1.p
    go_wp2
    go_ret
    exact ⟨hb1,.inr ⟨HX.out.1,HX.out.2,.inl ⟨fun h=>(by have:=HH.out.2 h;cases this),rfl⟩⟩⟩
   ·have hH:=HH.out.1 rfl
    have HL:Hid (bY P C.xn C.X):=hH
    have p0:=Pb 0 _ rfl;have p1:=Pb 1 _ rfl;have p2:=Pb 2 _ rfl;have p3:=Pb 3 _ rfl;have p4:=Pb 4 _ rfl;have p5:=Pb 5 _ rfl;have p6:=Pb 6 _ rfl
    have c6:=Cb 6 _ rfl
    clear hH HH
    go_wp2_with fail
    clear p0 p1 p2 p3 p4 p5 p6 c6
    refine (aN7 P (Kz:=C.K) w1 (hP.below hb1) (hC.z.below hb1) hC.zz (by omega) hC.zc HX.out.2 (by omega) (hT.below hb1)).mono ?_
    rintro e w2 ⟨b,rfl,hb,h2⟩
    have hb2:=aB hb1 h2
    replace Pb:=Pb.below h2
    replace Cb:=Cb.below h2
    have E2:=EH.below hb2
    have HD:Hid (b = true↔Dir P C.Z):=hb
    clear h2 hb E1 hb1
    cases b
    ·obtain ⟨ec,pp,rfl⟩:=E2.r
     go_wp2
     go_ret
     exact ⟨hb2,.inr ⟨HX.out.1,HX.out.2,.inr ⟨HL.out,.inl ⟨fun h=>(by have:=HD.out.2 h.1;cases this),rfl⟩⟩⟩⟩
    ·have p0:=Pb 0 _ rfl;have p1:=Pb 1 _ rfl;have p2:=Pb 2 _ rfl;have p3:=Pb 3 _ rfl;have p4:=Pb 4 _ rfl;have p5:=Pb 5 _ rfl;have p6:=Pb 6 _ rfl
     have c6:=Cb 6 _ rfl
     go_wp2_with fail
     clear p0 p1 p2 p3 p4 p5 p6 c6
     refine (aG5 P (Kz:=C.K) w2 (hP.below hb2) (hC.z.below hb2) hC.zz (by omega) hC.zc HX.out.2 (by omega) (hT.below hb2)).mono ?_
     rintro e w3 ⟨b,rfl,hb,h3⟩
     have hb3:=aB hb2 h3
     have E3:=EH.below hb3
     have HI:Hid (b = true↔imp P C.Z):=hb
     clear h3 hb E2 hb2 Pb Cb
     cases b
     ·obtain ⟨ec,pp,rfl⟩:=E3.r
      go_wp2
      go_ret
      exact ⟨hb3,.inr ⟨HX.out.1,HX.out.2,.inr ⟨HL.out,.inl ⟨fun h=>(by have:=HI.out.2 h.2;cases this),rfl⟩⟩⟩⟩
     ·go_wp2
      go_ret
      exact ⟨hb3,.inr ⟨HX.out.1,HX.out.2,.inr ⟨HL.out,.inr ⟨HD.out.1 (by first | rfl | trivial),HI.out.1 (by first | rfl | trivial),rfl⟩⟩⟩⟩
  ·have hyI:¬ ((C.zn:Int) = (P.vn:Int)):=by omega
   have hyB:((C.zn:Int) == (P.vn:Int)) = false:=by simpa using hyI
   obtain ⟨ec,pp,rfl⟩:=E0.s
   have HY:Hid (¬ C.zn = P.vn):=hy
   clear hx hy
   go_wp2
   go_ret
   exact ⟨hb0,.inl ⟨fun h=>HY.out h.2,rfl⟩⟩
 ·have hxI:¬ ((C.xn:Int) = (P.vn:Int)):=by omega
  have hxB:((C.xn:Int) == (P.vn:Int)) = false:=by simpa using hxI
  obtain ⟨ec,pp,rfl⟩:=E0.s
  go_wp2
  go_ret
  exact ⟨hb0,.inl ⟨fun h=>hx h.1,rfl⟩⟩
theorem aQ1:∃ i z,Tryz.prog.info? 45 = some i∧i.zero = some z∧i.size = 13∧i.bytes = 208∧z.cells.size = 13:=by
 have h1:(Tryz.prog.info? 45).map (fun i=>(i.size,i.bytes,i.zero.map (·.cells.size))) = some (13,208,some 13):=by kernel_rfl
 obtain ⟨i,hi,h⟩:=Option.map_eq_some_iff.1 h1
 simp only [Prod.mk.injEq] at h
 obtain ⟨z,hz,h2⟩:=Option.map_eq_some_iff.1 h.2.2
 exact ⟨i,z,hi,hz,h.1,h.2.1,h2⟩
def BoxO (w:World) (g o:Nat) (cs:List Value):Prop:=∀ r u,cs[r]? = some u→w.cell? ⟨g,o + r,none⟩ = some u
def VC0 (w0 w:World) (g o:Nat) (v:PV) (S:Nat):Prop :=
 ∃ pO aO nO cO dO mO lO pl al nl cl dl ml ll ph ah nh ch dh mh lh,BoxO w g o [.string v.nm,.bool pO,.slice aO nO cO,.slice dO mO lO,.bool v.hlo,.bool pl,.slice al nl cl,.slice dl ml ll,.bool v.hhi,.bool ph,.slice ah nh ch,.slice dh mh lh,.bool v.whole]∧TR w0 pO aO nO cO dO mO lO v.obj S∧TR w0 pl al nl cl dl ml ll v.lo S∧TR w0 ph ah nh ch dh mh lh v.hi S∧1≤S∧SzR v.obj S∧SzR v.lo S∧SzR v.hi S∧v.nm.size≤S
theorem VarAt.vc0 {w:World} {g o:Nat} {v:PV} {S:Nat} (h:VarAt w g o v S):VC0 w w g o v S:=by
 obtain ⟨pO,aO,nO,cO,dO,mO,lO,r1,r2,r3,hO⟩:=h.obj
 obtain ⟨pl,al,nl,cl,dl,ml,ll,r5,r6,r7,hl⟩:=h.lo
 obtain ⟨ph,ah,nh,ch,dh,mh,lh,r9,r10,r11,hh⟩:=h.hi
 refine ⟨pO,aO,nO,cO,dO,mO,lO,pl,al,nl,cl,dl,ml,ll,ph,ah,nh,ch,dh,mh,lh,fun r u hu=>?_,hO,hl,hh,h.s1,h.sobj,h.slo,h.shi,h.snm⟩
 match r,hu with
 | 0,hu=>simp at hu;subst hu;exact h.nm
 | 1,hu=>simp at hu;subst hu;exact r1
 | 2,hu=>simp at hu;subst hu;exact r2
 | 3,hu=>simp at hu;subst hu;exact r3
 | 4,hu=>simp at hu;subst hu;exact h.hlo
 | 5,hu=>simp at hu;subst hu;exact r5
 | 6,hu=>simp at hu;subst hu;exact r6
 | 7,hu=>simp at hu;subst hu;exact r7
 | 8,hu=>simp at hu;subst hu;exact h.hhi
 | 9,hu=>simp at hu;subst hu;exact r9
 | 10,hu=>simp at hu;subst hu;exact r10
 | 11,hu=>simp at hu;subst hu;exact r11
 | 12,hu=>simp at hu;subst hu;exact h.whole
 | n + 13,hu=>simp at hu
theorem VC0.var {w0 w:World} {g o:Nat} {v:PV} {S:Nat} (h:VC0 w0 w g o v S) (hb:Below w0.heap.size w0 w):VarAt w g o v S:=by
 obtain ⟨pO,aO,nO,cO,dO,mO,lO,pl,al,nl,cl,dl,ml,ll,ph,ah,nh,ch,dh,mh,lh,hB,hO,hl,hh,s1,s2,s3,s4,s5⟩:=h
 exact ⟨hB 0 _ rfl,⟨_,_,_,_,_,_,_,hB 1 _ rfl,hB 2 _ rfl,hB 3 _ rfl,hO.below hb⟩,hB 4 _ rfl,⟨_,_,_,_,_,_,_,hB 5 _ rfl,hB 6 _ rfl,hB 7 _ rfl,hl.below hb⟩,hB 8 _ rfl,⟨_,_,_,_,_,_,_,hB 9 _ rfl,hB 10 _ rfl,hB 11 _ rfl,hh.below hb⟩,hB 12 _ rfl,s1,s2,s3,s4,s5⟩
theorem VC0.cell {w0 w:World} {g o:Nat} {v:PV} {S:Nat} (h:VC0 w0 w g o v S) {r:Nat} (hr:r < 13):∃ u,w.cell? ⟨g,o + r,none⟩ = some u∧u.oneCell' = true:=by
 obtain ⟨pO,aO,nO,cO,dO,mO,lO,pl,al,nl,cl,dl,ml,ll,ph,ah,nh,ch,dh,mh,lh,hB,_⟩:=h
 match r,hr with
 | 0,_=>exact ⟨_,hB 0 _ rfl,rfl⟩
 | 1,_=>exact ⟨_,hB 1 _ rfl,rfl⟩
 | 2,_=>exact ⟨_,hB 2 _ rfl,rfl⟩
 | 3,_=>exact ⟨_,hB 3 _ rfl,rfl⟩
 | 4,_=>exact ⟨_,hB 4 _ rfl,rfl⟩
 | 5,_=>exact ⟨_,hB 5 _ rfl,rfl⟩
 | 6,_=>exact ⟨_,hB 6 _ rfl,rfl⟩
 | 7,_=>exact ⟨_,hB 7 _ rfl,rfl⟩
 | 8,_=>exact ⟨_,hB 8 _ rfl,rfl⟩
 | 9,_=>exact ⟨_,hB 9 _ rfl,rfl⟩
 | 10,_=>exact ⟨_,hB 10 _ rfl,rfl⟩
 | 11,_=>exact ⟨_,hB 11 _ rfl,rfl⟩
 | 12,_=>exact ⟨_,hB 12 _ rfl,rfl⟩
theorem VC0.move {w0 w w':World} {g o g' o':Nat} {v:PV} {S:Nat} (h:VC0 w0 w g o v S) (hc:∀ r,r < 13→w'.cell? ⟨g',o' + r,none⟩ = w.cell? ⟨g,o + r,none⟩):VC0 w0 w' g' o' v S:=by
 obtain ⟨pO,aO,nO,cO,dO,mO,lO,pl,al,nl,cl,dl,ml,ll,ph,ah,nh,ch,dh,mh,lh,hB,rest⟩:=h
 exact ⟨pO,aO,nO,cO,dO,mO,lO,pl,al,nl,cl,dl,ml,ll,ph,ah,nh,ch,dh,mh,lh,fun r u hu=>(hc r (by have:=(List.getElem?_eq_some_iff.1 hu).1;simpa using this)).trans (hB r u hu),rest⟩
def VL (w0:World) (B:Nat) (w:World) (a:Option Addr) (n:Nat) (V:Nat→PV) (Z:Nat→Nat):Prop :=
 n = 0∨∃ g cur,a = some ⟨g,0,none⟩∧B≤g∧w.heap[g]? = some (.cells cur 45 (0,0))∧n * 13≤cur.size∧∀ j,j < n→VC0 w0 w g (j * 13) (V j) (Z j)
theorem VL.below {w0 w w':World} {B:Nat} {a:Option Addr} {n:Nat} {V:Nat→PV} {Z:Nat→Nat} (h:VL w0 B w a n V Z) (hb:Below w.heap.size w w'):VL w0 B w' a n V Z:=by
 rcases h with h | ⟨g,cur,rfl,h1,h2,h3,h4⟩
 ·exact .inl h
 ·have hg:=(Array.getElem?_eq_some_iff.1 h2).1
  exact .inr ⟨g,cur,rfl,h1,(hb.block g hg).trans h2,h3,fun j hj=>(h4 j hj).move fun r _=>World.cell?_of_block (hb.block g hg)⟩
theorem LV.cells {w:World} {a:Option Addr} {n:Nat} {V:Nat→PV} {Z:Nat→Nat} (h:LV w a n V Z):∃ cs:List Value,cs.length = n * 13∧(∀ u ∈ cs,u.oneCell' = true)∧(n = 0∨∃ b o,a = some ⟨b,o,none⟩∧∀ k,k < n * 13→w.cell? ⟨b,o + k,none⟩ = cs[k]?):=by
 rcases h with rfl | ⟨b,o,rfl,h⟩
 ·exact ⟨[],rfl,fun u hu=>(by cases hu),.inl rfl⟩
 ·have hc:∀ k,k < n * 13→∃ u,w.cell? ⟨b,o + k,none⟩ = some u∧u.oneCell' = true:=fun k hk=>by
   obtain ⟨u,h1,h2⟩:=(h (k / 13) (by omega)).vc0.cell (r:=k % 13) (by omega)
   refine ⟨u,?_,h2⟩
   rw [← h1]
   congr 2
   omega
  refine ⟨(List.range (n * 13)).map fun k=>(w.cell? ⟨b,o + k,none⟩).getD undef,by simp,fun u hu=>?_,.inr ⟨b,o,rfl,fun k hk=>?_⟩⟩
  ·rw [List.mem_map] at hu
   obtain ⟨k,hk,rfl⟩:=hu
   obtain ⟨u,h1,h2⟩:=hc k (List.mem_range.1 hk)
   rw [h1]
   exact h2
  ·obtain ⟨u,h1,h2⟩:=hc k hk
   rw [List.getElem?_map,List.getElem?_range hk,Option.map_some,h1]
   rfl
theorem eqlV (w:World) (a:Option Addr) (n c:Nat):(binOp .eql 28 (.slice a n c) (.slice none 0 0)).run Tryz.prog w = .ok (.bool a.isNone) w:=by
 simp only [binOp]
 simp [run_equal_slice_nil w 28 45 a n c Tryz.underlying28]
def ClR (w0:World) (vn:Nat) (V:Nat→PV) (ZV:Nat→Nat) (w:World) (e:Ending) (w':World):Prop:=∃ a cap,e = .returned (.slice a vn cap)∧vn≤cap∧VL w0 w.heap.size w' a vn V ZV∧Below w.heap.size w w'
theorem aG6 {va:Option Addr} {vn vc:Nat} {V:Nat→PV} {ZV:Nat→Nat} (w0 w:World) (hv:LV w0 va vn V ZV) (hbw:Below w0.heap.size w0 w) (hn:vn≤2000000) :
 Calls Tryz.prog 84 #[.slice va vn vc] w fun e w'=>ClR w0 vn V ZV w e w':=by
 obtain ⟨cs,c1,c2,c3⟩:=hv.cells
 obtain ⟨i0,z,hi,hz,hs3,hb56,hz3⟩:=aQ1
 rcases va with _ | ad
 ·have h0:vn = 0:=by
   rcases c3 with h | ⟨b,o,h,_⟩
   ·exact h
   ·cases h
  subst h0
  have heq:=fun w=>eqlV w none 0 vc
  go_enter Tryz.func84,Tryz.ntmps84
  go_wp2
  go_ret
  exact ⟨_,_,rfl,Nat.le_refl _,.inl rfl,Below.refl _ _⟩
 ·have HC1:Hid (cs.length = vn * 13):=c1
  have HC3:Hid (vn = 0∨∃ b o,some ad = some ⟨b,o,none⟩∧∀ k,k < vn * 13→w0.cell? ⟨b,o + k,none⟩ = cs[k]?):=c3
  have hown:(w.alloc (.cells #[] 45)).ownsRow w.heap.size 45 13 (.slice (some ⟨w.heap.size,0,none⟩) 0 0) 0 []:=World.ownsRow_made w #[] 0 (Nat.le_refl _) (by unfold maxLen;omega) rfl
  have hx:=aG w (.cells #[] 45)
  have hsx:(w.alloc (.cells #[] 45)).heap.size = w.heap.size + 1:=by simp
  clear c1 c3
  have heq:=fun w=>eqlV w (some ad) vn vc
  go_enter Tryz.func84,Tryz.ntmps84
  go_wp2_with (at_builtin;refine wpList_append_own _ rfl _ _ 28 rfl w.heap.size 45 i0 z 13 208 Tryz.underlying28 hi hz hs3 hb56 hz3 (by decide) _ 0 [] rfl hown ad vn vc cs rfl HC1.out ?_ c2 (by unfold maxLen;omega) (by omega) (by omega) ?_)
  ·intro j u hj
   have hl:=HC1.out
   have hjl:=(List.getElem?_eq_some_iff.1 hj).1
   rcases HC3.out with h | ⟨b,o,h,hc⟩
   ·omega
   ·cases h
    rw [Addr.add_mid']
    exact aF hx (aF hbw ((hc j (by omega)).trans hj))
  intro v' w' hown' hgrow _
  have hb2:Below w.heap.size w w':=hx.trans (grown_below (B:=w.heap.size) hgrow (by omega) (fun k hk=>(World.ownsRow.lt hown k hk).1))
  have hform:∃ a cap,v' = .slice a vn cap∧vn≤cap∧VL w0 w.heap.size w' a vn V ZV:=by
   have hl:=HC1.out
   rcases hown'.2 with ⟨e1,e2⟩ | ⟨g,cap,cur,e1,hBg,hg,hnc,_,hcs,ht⟩
   ·have h0:vn = 0:=by omega
    subst h0
    exact ⟨none,0,e1,Nat.le_refl _,.inl rfl⟩
   ·try simp only [Nat.zero_add,List.nil_append] at e1 hnc ht
    refine ⟨some ⟨g,0,none⟩,cap,e1,hnc,?_⟩
    rcases HC3.out with h | ⟨b,o,h,hc⟩
    ·exact .inl h
    ·cases h
     rcases hv with h0 | ⟨b',o',e,hev⟩
     ·exact .inl h0
     ·cases e
      have hsz:vn * 13≤cur.size:=by rw [hcs];exact Nat.mul_le_mul_right _ hnc
      refine .inr ⟨g,cur,rfl,hBg,hg,hsz,fun j hj=>(hev j hj).vc0.move fun r hr=>?_⟩
      rw [cell_of_row w' g (j * 13 + r) cur _ (0,0) hg,Nat.add_assoc o,hc (j * 13 + r) (by omega),← ht,List.getElem?_take_of_lt (by omega)]
      simp
  obtain ⟨a,cap,rfl,hcap,hVL⟩:=hform
  clear hown hown' hgrow
  go_wp2
  go_ret
  exact ⟨_,_,rfl,hcap,hVL,hb2⟩
theorem VL.zero {w0 w:World} {B g n i:Nat} {V:Nat→PV} {Z:Nat→Nat} (h:VL w0 B w (some ⟨g,0,none⟩) n (fun j=>if j < i then { V j with obj:=0 } else V j) Z) (hi:i < n) :
 VL w0 B (((w.setCell ⟨g,i * 13 + 1,none⟩ (.bool false)).setCell ⟨g,i * 13 + 1 + 1,none⟩ (.slice none 0 0)).setCell ⟨g,i * 13 + 1 + 2,none⟩ (.slice none 0 0)) (some ⟨g,0,none⟩) n (fun j=>if j < i + 1 then { V j with obj:=0 } else V j) Z∧Off g w (((w.setCell ⟨g,i * 13 + 1,none⟩ (.bool false)).setCell ⟨g,i * 13 + 1 + 1,none⟩ (.slice none 0 0)).setCell ⟨g,i * 13 + 1 + 2,none⟩ (.slice none 0 0))∧B≤g ∧
  (∃ u0 u1 u2,w.cell? ⟨g,i * 13 + 1,none⟩ = some u0∧w.cell? ⟨g,i * 13 + 1 + 1,none⟩ = some u1∧w.cell? ⟨g,i * 13 + 1 + 2,none⟩ = some u2)∧w.frozen? ⟨g,i * 13 + 1,none⟩ = false∧w.frozen? ⟨g,i * 13 + 1 + 1,none⟩ = false∧w.frozen? ⟨g,i * 13 + 1 + 2,none⟩ = false:=by
 rcases h with h | ⟨g',cur,e,h1,h2,h3,h4⟩
 ·omega
 ·cases e
  have O:Off g w (((w.setCell ⟨g,i * 13 + 1,none⟩ (.bool false)).setCell ⟨g,i * 13 + 1 + 1,none⟩ (.slice none 0 0)).setCell ⟨g,i * 13 + 1 + 2,none⟩ (.slice none 0 0)):=(((Off.refl _ _).set (i * 13 + 1) _).set (i * 13 + 1 + 1) _).set (i * 13 + 1 + 2) _
  obtain ⟨u0,c0,_⟩:=(h4 i hi).cell (r:=1) (by decide)
  obtain ⟨u1,c1,_⟩:=(h4 i hi).cell (r:=2) (by decide)
  obtain ⟨u2,c2,_⟩:=(h4 i hi).cell (r:=3) (by decide)
  refine ⟨.inr ⟨g,_,rfl,h1,heap_setCell_same _ g _ _ _ _ (heap_setCell_same _ g _ _ _ _ (heap_setCell_same w g _ cur _ _ h2)),by simpa using h3,fun j hj=>?_⟩,O,h1,⟨u0,u1,u2,c0,c1,c2⟩,frozen_of_row w g _ cur _ h2,frozen_of_row w g _ cur _ h2,frozen_of_row w g _ cur _ h2⟩
  have hcell:∀ k,k ≠ i * 13 + 1→k ≠ i * 13 + 2→k ≠ i * 13 + 3→(((w.setCell ⟨g,i * 13 + 1,none⟩ (.bool false)).setCell ⟨g,i * 13 + 1 + 1,none⟩ (.slice none 0 0)).setCell ⟨g,i * 13 + 1 + 2,none⟩ (.slice none 0 0)).cell? ⟨g,k,none⟩ = w.cell? ⟨g,k,none⟩:=fun k k1 k2 k3=>by
   rw [World.cell?_setCell_other _ _ _ _ (by simp <;> omega),World.cell?_setCell_other _ _ _ _ (by simp <;> omega),World.cell?_setCell_other _ _ _ _ (by simp <;> omega)]
  by_cases e:j = i
  ·subst e
   have h5:=h4 j hj
   simp only [Nat.lt_irrefl,if_false] at h5
   simp only [Nat.lt_succ_self,if_true]
   obtain ⟨pO,aO,nO,cO,dO,mO,lO,pl,al,nl,cl,dl,ml,ll,ph,ah,nh,ch,dh,mh,lh,hB,hO,hl,hh,s1,s2,s3,s4,s5⟩:=h5
   refine ⟨false,none,0,0,none,0,0,pl,al,nl,cl,dl,ml,ll,ph,ah,nh,ch,dh,mh,lh,fun r u hu=>?_,(mG w0).up s1,hl,hh,s1,(szw 0 (by decide)).le s1,s3,s4,s5⟩
   match r,hu with
   | 0,hu=>rw [hcell _ (by omega) (by omega) (by omega)];exact hB 0 u hu
   | 1,hu=>simp at hu;subst hu;rw [World.cell?_setCell_other _ _ _ _ (by simp),World.cell?_setCell_other _ _ _ _ (by simp),World.cell?_setCell_same _ _ _ c0]
   | 2,hu=>simp at hu;subst hu;rw [World.cell?_setCell_other _ _ _ _ (by simp)];exact World.cell?_setCell_same _ _ _ ((World.cell?_setCell_other _ _ _ _ (by simp)).trans c1)
   | 3,hu=>simp at hu;subst hu;exact World.cell?_setCell_same _ _ _ ((World.cell?_setCell_other _ _ _ _ (by simp)).trans ((World.cell?_setCell_other _ _ _ _ (by simp)).trans c2))
   | n + 4,hu=>rw [hcell _ (by omega) (by omega) (by omega)];exact hB (n + 4) u hu
  ·have h5:=h4 j hj
   have e2:(if j < i + 1 then { V j with obj:=0 } else V j) = (if j < i then { V j with obj:=0 } else V j):=by
    by_cases h6:j < i
    ·rw [if_pos h6,if_pos (by omega)]
    ·rw [if_neg h6,if_neg (by omega)]
   simp only [e2]
   exact h5.move fun r hr=>hcell _ (by omega) (by omega) (by omega)
theorem aG7 {w:World} {R:Nat} {t:TypeId} {v0 v1 v2 v3 v4 v5 v6 a b c d e:Value} (h:Rw t w R #[v0,v1,v2,v3,v4,v5,v6]) :
 BoxC (((((w.setCell ⟨R,0,none⟩ a).setCell ⟨R,2,none⟩ b).setCell ⟨R,3,none⟩ c).setCell ⟨R,4,none⟩ d).setCell ⟨R,5,none⟩ e) R [a,v1,b,c,d,e,v6]∧Off R w (((((w.setCell ⟨R,0,none⟩ a).setCell ⟨R,2,none⟩ b).setCell ⟨R,3,none⟩ c).setCell ⟨R,4,none⟩ d).setCell ⟨R,5,none⟩ e):=by
 have r1:Rw t (w.setCell ⟨R,0,none⟩ a) R #[a,v1,v2,v3,v4,v5,v6]:=by unfold Rw;simpa using heap_setCell_same w R 0 _ t a h
 have r2:Rw t ((w.setCell ⟨R,0,none⟩ a).setCell ⟨R,2,none⟩ b) R #[a,v1,b,v3,v4,v5,v6]:=by unfold Rw;simpa using heap_setCell_same _ R 2 _ t b r1
 have r3:Rw t (((w.setCell ⟨R,0,none⟩ a).setCell ⟨R,2,none⟩ b).setCell ⟨R,3,none⟩ c) R #[a,v1,b,c,v4,v5,v6]:=by unfold Rw;simpa using heap_setCell_same _ R 3 _ t c r2
 have r4:Rw t ((((w.setCell ⟨R,0,none⟩ a).setCell ⟨R,2,none⟩ b).setCell ⟨R,3,none⟩ c).setCell ⟨R,4,none⟩ d) R #[a,v1,b,c,d,v5,v6]:=by unfold Rw;simpa using heap_setCell_same _ R 4 _ t d r3
 have r5:Rw t (((((w.setCell ⟨R,0,none⟩ a).setCell ⟨R,2,none⟩ b).setCell ⟨R,3,none⟩ c).setCell ⟨R,4,none⟩ d).setCell ⟨R,5,none⟩ e) R #[a,v1,b,c,d,e,v6]:=by unfold Rw;simpa using heap_setCell_same _ R 5 _ t e r4
 refine ⟨fun i u hu=>?_,(((((Off.refl _ _).set 0 _).set 2 _).set 3 _).set 4 _).set 5 _⟩
 rw [r5.cell i]
 simpa using hu
def Prob.wob (P:Prob) (ga:Option Addr) (gc:Nat):Prob:={ P with mx:=false,p:=false,a:=none,na:=0,ca:=0,d:=none,nd:=0,cd:=0,va:=ga,vc:=gc,k:=0,V:=fun j=>{ P.V j with obj:=0 } }
theorem wobQ (P:Prob) (w:World) (hP:PQ w P) (hK:P.K≤1048576) :
 Calls Tryz.prog 88 #[P.val] w fun e w'=>∃ ga gc,e = .returned (P.wob ga gc).val∧PQ w' (P.wob ga gc)∧Below w.heap.size w w':=by
 have hall:=hP.all
 have hvn2:P.vn≤1048576:=by have:=aT P.ZV P.vn;omega
 unfold Prob.val
 have Rp:=Rw.new 31 w #[.bool P.mx,.string P.nm,.bool P.p,.slice P.a P.na P.ca,.slice P.d P.nd P.cd,.slice P.va P.vn P.vc,.slice P.ra P.rn P.rc]
 have hz0:=aG w (.cells #[.bool P.mx,.string P.nm,.bool P.p,.slice P.a P.na P.ca,.slice P.d P.nd P.cd,.slice P.va P.vn P.vc,.slice P.ra P.rn P.rc] 31)
 have hs0:(w.alloc (.cells #[.bool P.mx,.string P.nm,.bool P.p,.slice P.a P.na P.ca,.slice P.d P.nd P.cd,.slice P.va P.vn P.vc,.slice P.ra P.rn P.rc] 31)).heap.size = w.heap.size + 1:=by simp
 have Rr:=Rw.new 31 (w.alloc (.cells #[.bool P.mx,.string P.nm,.bool P.p,.slice P.a P.na P.ca,.slice P.d P.nd P.cd,.slice P.va P.vn P.vc,.slice P.ra P.rn P.rc] 31)) #[.bool false,.string ⟨#[]⟩,.bool false,.slice none 0 0,.slice none 0 0,.slice none 0 0,.slice none 0 0]
 have hz1:=aG (w.alloc (.cells #[.bool P.mx,.string P.nm,.bool P.p,.slice P.a P.na P.ca,.slice P.d P.nd P.cd,.slice P.va P.vn P.vc,.slice P.ra P.rn P.rc] 31)) (.cells #[.bool false,.string ⟨#[]⟩,.bool false,.slice none 0 0,.slice none 0 0,.slice none 0 0,.slice none 0 0] 31)
 have hs1:((w.alloc (.cells #[.bool P.mx,.string P.nm,.bool P.p,.slice P.a P.na P.ca,.slice P.d P.nd P.cd,.slice P.va P.vn P.vc,.slice P.ra P.rn P.rc] 31)).alloc (.cells #[.bool false,.string ⟨#[]⟩,.bool false,.slice none 0 0,.slice none 0 0,.slice none 0 0,.slice none 0 0] 31)).heap.size = w.heap.size + 2:=by simp
 rw [hs0] at Rr
 replace Rp:=Rp.below hz1
 have hb0:=aB hz0 hz1
 have p5:=(Rp.cell 5).trans (show _ = some (.slice P.va P.vn P.vc) from rfl)
 clear hz0 hz1 hs0
 go_enter Tryz.func88,Tryz.ntmps88
 go_wp2_with fail
 clear p5
 generalize (w.alloc (.cells #[.bool P.mx,.string P.nm,.bool P.p,.slice P.a P.na P.ca,.slice P.d P.nd P.cd,.slice P.va P.vn P.vc,.slice P.ra P.rn P.rc] 31)).alloc (.cells #[.bool false,.string ⟨#[]⟩,.bool false,.slice none 0 0,.slice none 0 0,.slice none 0 0,.slice none 0 0] 31) = W0 at *
 refine (aG6 w W0 hP.v hb0 (by omega)).mono ?_
 rintro e w1 ⟨ga,gc,rfl,hgc,VC,h1⟩
 replace Rp:=Rp.below h1
 replace Rr:=Rr.below h1
 have hb1:=aB hb0 h1
 have hsw1:=h1.size
 obtain ⟨Bx,O⟩:=aG7 (a:=.bool false) (b:=.bool false) (c:=.slice none 0 0) (d:=.slice none 0 0) (e:=.slice ga P.vn gc) Rp
 have hVg:VL w W0.heap.size (((((w1.setCell ⟨w.heap.size,0,none⟩ (.bool false)).setCell ⟨w.heap.size,2,none⟩ (.bool false)).setCell ⟨w.heap.size,3,none⟩ (.slice none 0 0)).setCell ⟨w.heap.size,4,none⟩ (.slice none 0 0)).setCell ⟨w.heap.size,5,none⟩ (.slice ga P.vn gc)) ga P.vn P.V P.ZV:=by
  rcases VC with h | ⟨g,cur,rfl,k1,k2,k3,k4⟩
  ·exact .inl h
  ·exact .inr ⟨g,cur,rfl,k1,(O.block g (by omega)).trans k2,k3,fun j hj=>(k4 j hj).move fun r _=>World.cell?_of_block (O.block g (by omega))⟩
 have Rr2:=Rr.off O (by omega)
 have hb2:Below w.heap.size w (((((w1.setCell ⟨w.heap.size,0,none⟩ (.bool false)).setCell ⟨w.heap.size,2,none⟩ (.bool false)).setCell ⟨w.heap.size,3,none⟩ (.slice none 0 0)).setCell ⟨w.heap.size,4,none⟩ (.slice none 0 0)).setCell ⟨w.heap.size,5,none⟩ (.slice ga P.vn gc)):=hb1.trans (O.below (Nat.le_refl _))
 have y0:=(Rp.cell 0).trans (show _ = some (.bool P.mx) from rfl)
 have y2:=(Rp.cell 2).trans (show _ = some (.bool P.p) from rfl)
 have y3:=(Rp.cell 3).trans (show _ = some (.slice P.a P.na P.ca) from rfl)
 have y4:=(Rp.cell 4).trans (show _ = some (.slice P.d P.nd P.cd) from rfl)
 have y5:=(Rp.cell 5).trans (show _ = some (.slice P.va P.vn P.vc) from rfl)
 have z0:=Rp.frozen 0
 have z2:=Rp.frozen 2
 have z3:=Rp.frozen 3
 have z4:=Rp.frozen 4
 have z5:=Rp.frozen 5
 have x5:=Bx 5 _ rfl
 clear h1 Rr VC hb1
 go_wp2
 clear y0 y2 y3 y4 y5 z0 z2 z3 z4 z5 x5 Rp O
 generalize ((((w1.setCell ⟨w.heap.size,0,none⟩ (.bool false)).setCell ⟨w.heap.size,2,none⟩ (.bool false)).setCell ⟨w.heap.size,3,none⟩ (.slice none 0 0)).setCell ⟨w.heap.size,4,none⟩ (.slice none 0 0)).setCell ⟨w.heap.size,5,none⟩ (.slice ga P.vn gc) = W2 at *
 go_loopw [14] (fun s wr=>∃ (i:Nat),i≤P.vn∧s = .int .i64 i∧VL w W0.heap.size wr ga P.vn (fun j=>if j < i then { P.V j with obj:=0 } else P.V j) P.ZV∧BoxC wr w.heap.size (#[.bool false,.string P.nm,.bool false,.slice none 0 0,.slice none 0 0,.slice ga P.vn gc,.slice P.ra P.rn P.rc]).toList∧Rw 31 wr (w.heap.size + 1) #[.bool false,.string ⟨#[]⟩,.bool false,.slice none 0 0,.slice none 0 0,.slice none 0 0,.slice none 0 0]∧Below w.heap.size w wr) (fun t _=>P.vn - (intOf t).toNat)
 case atStart=>exact ⟨0,Nat.zero_le _,rfl,by simpa using hVg,Bx,Rr2,hb2⟩
 case round =>
  clear hVg Bx Rr2 hb2
  obtain ⟨i,hi,rfl,VV,Bx,Rr,hbel⟩:=hrel
  by_cases hlt:i < P.vn
  ·have hkI:(i:Int) < (P.vn:Int):=by omega
   have hkI2:(i:Int) * 13 = ((i * 13:Nat):Int):=by omega
   obtain ⟨g,rfl⟩:∃ g,ga = some ⟨g,0,none⟩:=by
    rcases VV with h | ⟨g,cur,e,_⟩
    ·omega
    ·exact ⟨g,e⟩
   obtain ⟨VN,O,hg,⟨u0,u1,u2,c0,c1,c2⟩,f0,f1,f2⟩:=VV.zero hlt
   have x5:=Bx 5 _ rfl
   have Bx2:BoxC _ w.heap.size _:=fun a u hu=>(World.cell?_of_block (O.block w.heap.size (by omega))).trans (Bx a u hu)
   have Rr2:=Rr.off O (by omega)
   have hbel2:Below w.heap.size w _:=hbel.trans (O.below (by omega))
   clear VV O Bx Rr hbel
   go_wp2
   go_roundw
   case rel=>first | exact ⟨i + 1,by omega,by go_num,VN,Bx2,Rr2,hbel2⟩ | ((repeat apply Exists.intro);refine ⟨?_,rfl⟩;exact ⟨i + 1,by omega,by go_num,VN,Bx2,Rr2,hbel2⟩)
   case measure=>simp [intOf];omega
  ·have hkI:¬ (i:Int) < (P.vn:Int):=by omega
   obtain rfl:i = P.vn:=by omega
   have p0:=Bx 0 _ rfl;have p1:=Bx 1 _ rfl;have p2:=Bx 2 _ rfl;have p3:=Bx 3 _ rfl;have p4:=Bx 4 _ rfl;have p5:=Bx 5 _ rfl;have p6:=Bx 6 _ rfl
   go_wp2_with (refine Rr.put #[.bool false,.string P.nm,.bool false,.slice none 0 0,.slice none 0 0,.slice ga P.vn gc,.slice P.ra P.rn P.rc] rfl _ _ rfl rfl rfl aG3 rfl (by simp [Value.oneCell']) ?_)
   intro wE RE O
   have hw:=hbel.trans (O.below (by omega))
   have HL:LV wE ga P.vn (fun j=>{ P.V j with obj:=0 }) P.ZV:=by
    rcases VV with h | ⟨g,cur,rfl,k1,k2,k3,k4⟩
    ·exact .inl h
    ·refine .inr ⟨g,0,rfl,fun j hj=>?_⟩
     have h5:=k4 j hj
     simp only [hj,if_true] at h5
     rw [Nat.zero_add]
     exact (h5.move (w':=wE) (g':=g) (o':=j * 13) (fun r _=>World.cell?_of_block (O.block g (by omega)))).var hw
   clear p0 p1 p2 p3 p4 p5 p6 Bx VV Rr O
   go_wp2
   refine bodyPost_ret (v:=.agg #[.bool false,.string P.nm,.bool false,.slice none 0 0,.slice none 0 0,.slice ga P.vn gc,.slice P.ra P.rn P.rc]) (Rw.ret1 Tryz.results88 _ RE rfl Tryz.underlying31 aG3) rfl ?_
   exact ⟨ga,gc,rfl,⟨(mG _).up hP.s1,hP.s1,(szw 0 (by decide)).le hP.s1,HL,hP.r.below hw,hP.all,hgc,hP.rc⟩,hw⟩
theorem aC7 {P:Program} {c:Code} {Q:Exit→Act→World→Prop} {a:Act} {w:World} (J:Act→Act→World→Prop) (h1:c.wp P (fun e a' w'=>e = .normal∧J a a' w') a w) (h2:∀ a' w',J a a' w'→Q .normal a' w'):c.wp P Q a w :=
 Code.wp_mono (fun e a' w' h=>by obtain ⟨rfl,h⟩:=h;exact h2 a' w' h) h1
theorem qU {P:Prob} {ga:Option Addr} {gc:Nat} {Y:Nat→Rat}:okS (P.wob ga gc) Y↔okp P.bare Y:=by
 unfold okS
 rw [if_neg (by show ¬ (false = true);decide)]
 exact Iff.rfl
theorem aA5 (P:Prob) (ga:Option Addr) (gc:Nat) (Y:Nat→Rat):pvS (P.wob ga gc) Y = pv P.bare Y:=by
 unfold pvS
 rw [if_neg (by show ¬ (false = true);decide)]
 rfl
def InfR (P:Prob) (C:Crt) (eS eB:Value) (w:World) (e:Ending) (w':World):Prop :=
 Below w.heap.size w w'∧((C.yn ≠ P.rn∧e = .returned eS)∨(C.yn = P.rn∧((Crs P∧e = .returned .nilIface)∨(¬ Crs P∧((¬ (okp P.bare C.Y∧0 < pv P.bare C.Y)∧e = .returned eB)∨(okp P.bare C.Y∧0 < pv P.bare C.Y∧e = .returned .nilIface))))))
theorem infQ (P:Prob) (C:Crt) (w:World) (hP:PQ w P) (hC:CQ w C) (hKK:P.K + C.K≤1048576) (hT:TB w) {eS eP eV eR eD:Value} {pB:Addr} (EH:EE w eS eP eV (.iface 173 (.pointer (some pB))) eR eD) :
 Calls Tryz.prog 60 #[P.val,C.val] w fun e w'=>InfR P C eS (.iface 173 (.pointer (some pB))) w e w':=by
 unfold Prob.val Crt.val
 have Pb:=aJ w #[.bool P.mx,.string P.nm,.bool P.p,.slice P.a P.na P.ca,.slice P.d P.nd P.cd,.slice P.va P.vn P.vc,.slice P.ra P.rn P.rc] 31
 have hz0:=aG w (.cells #[.bool P.mx,.string P.nm,.bool P.p,.slice P.a P.na P.ca,.slice P.d P.nd P.cd,.slice P.va P.vn P.vc,.slice P.ra P.rn P.rc] 31)
 have hs0:(w.alloc (.cells #[.bool P.mx,.string P.nm,.bool P.p,.slice P.a P.na P.ca,.slice P.d P.nd P.cd,.slice P.va P.vn P.vc,.slice P.ra P.rn P.rc] 31)).heap.size = w.heap.size + 1:=by simp
 have Cb:=aJ (w.alloc (.cells #[.bool P.mx,.string P.nm,.bool P.p,.slice P.a P.na P.ca,.slice P.d P.nd P.cd,.slice P.va P.vn P.vc,.slice P.ra P.rn P.rc] 31)) #[.int .i64 C.vd,.bool C.p,.slice C.a C.na C.ca,.slice C.d C.nd C.cd,.slice C.xa C.xn C.xc,.slice C.ya C.yn C.yc,.slice C.za C.zn C.zc] 47
 have hz1:=aG (w.alloc (.cells #[.bool P.mx,.string P.nm,.bool P.p,.slice P.a P.na P.ca,.slice P.d P.nd P.cd,.slice P.va P.vn P.vc,.slice P.ra P.rn P.rc] 31)) (.cells #[.int .i64 C.vd,.bool C.p,.slice C.a C.na C.ca,.slice C.d C.nd C.cd,.slice C.xa C.xn C.xc,.slice C.ya C.yn C.yc,.slice C.za C.zn C.zc] 47)
 rw [hs0] at Cb
 replace Pb:=Pb.below hz1
 have hb0:=aB hz0 hz1
 have E0:=EH.below hb0
 have hall:=hC.all
 have ht1:=bJ C.ZX C.xn
 have ht2:=bJ C.ZY C.yn
 have ht3:=bJ C.ZZ C.zn
 clear hz0 hz1 hs0
 have p0:=Pb 0 _ rfl;have p1:=Pb 1 _ rfl;have p2:=Pb 2 _ rfl;have p3:=Pb 3 _ rfl;have p4:=Pb 4 _ rfl;have p5:=Pb 5 _ rfl;have p6:=Pb 6 _ rfl
 have c5:=Cb 5 _ rfl
 go_enter Tryz.func60,Tryz.ntmps60
 by_cases hy:C.yn = P.rn
 ·have hyI:(C.yn:Int) = (P.rn:Int):=by omega
  have HX:Hid (C.yn = P.rn):=hy
  clear hy
  go_wp2_with fail
  clear p0 p1 p2 p3 p4 p5 p6 c5 hyI
  generalize (w.alloc (.cells #[.bool P.mx,.string P.nm,.bool P.p,.slice P.a P.na P.ca,.slice P.d P.nd P.cd,.slice P.va P.vn P.vc,.slice P.ra P.rn P.rc] 31)).alloc (.cells #[.int .i64 C.vd,.bool C.p,.slice C.a C.na C.ca,.slice C.d C.nd C.cd,.slice C.xa C.xn C.xc,.slice C.ya C.yn C.yc,.slice C.za C.zn C.zc] 47) = W0 at *
  refine (aG4 P W0 (hP.below hb0) (by omega)).mono ?_
  rintro e w1 ⟨b,rfl,hb,h1⟩
  have hb1:=aB hb0 h1
  replace Pb:=Pb.below h1
  replace Cb:=Cb.below h1
  have HC:Hid (b = true↔Crs P):=hb
  clear h1 hb E0 hb0
  cases b
  ·have HNC:Hid (¬ Crs P):=fun h=>(by have:=HC.out.2 h;cases this)
   clear HC
   by_cases hok:okp P.bare C.Y
   ·have HO:Hid (okp P.bare C.Y):=hok
    clear hok
    go_wp2_with fail
    have HBX:∀ w',Below w1.heap.size w1 w'→(w'.cell? ⟨w.heap.size,0,none⟩ = some (.bool P.mx)∧w'.cell? ⟨w.heap.size,1,none⟩ = some (.string P.nm)∧w'.cell? ⟨w.heap.size,2,none⟩ = some (.bool P.p)∧w'.cell? ⟨w.heap.size,3,none⟩ = some (.slice P.a P.na P.ca)∧w'.cell? ⟨w.heap.size,4,none⟩ = some (.slice P.d P.nd P.cd)∧w'.cell? ⟨w.heap.size,5,none⟩ = some (.slice P.va P.vn P.vc)∧w'.cell? ⟨w.heap.size,6,none⟩ = some (.slice P.ra P.rn P.rc)∧w'.cell? ⟨w.heap.size + 1,5,none⟩ = some (.slice C.ya C.yn C.yc)):=fun w' h=>⟨(Pb.below h) 0 _ rfl,(Pb.below h) 1 _ rfl,(Pb.below h) 2 _ rfl,(Pb.below h) 3 _ rfl,(Pb.below h) 4 _ rfl,(Pb.below h) 5 _ rfl,(Pb.below h) 6 _ rfl,(Cb.below h) 5 _ rfl⟩
    refine aC7 (fun a0 a' w'=>∃ (u1 u2 u3 u4 u5 u6 u7:Value) (RW:Nat) (f:Bool) (c:Option Addr) (n k:Nat) (d:Option Addr) (m l:Nat),a' = ((((((((((a0.put (some 18) u1).put (some 19) u2).put (some 20) u3).put (some 21) u4).put (some 22) u5).put (some 17) u6).put (some 23) u7).put (some 24) (.nilIface)).put (some 5) (.pointer (some ⟨RW,0,none⟩))).put (some 6) (.nilIface))∧Var3 w' RW (.bool f) (.slice c n k) (.slice d m l)∧GR w' w1.heap.size f c n k d m l (pv P.bare C.Y) 2097160∧w1.heap.size≤RW∧Below w1.heap.size w1 w') ?_ ?_
    ·refine wp_region_noPanic (aU 10 HBX (by kernel_rfl) ?_)
     have hc0:Below w1.heap.size w1 w1.drew:=aK _
     generalize w1.drew = z0 at *
     refine wpAnyG.tT 0 (v:=.agg #[.bool P.mx,.string P.nm,.bool P.p,.slice P.a P.na P.ca,.slice P.d P.nd P.cd,.slice P.va P.vn P.vc,.slice P.ra P.rn P.rc]) (by decide) 10 (by kernel_rfl) (by rfl) ?y0 (HBX _ hc0) ?_
     case y0 =>
      rintro w' ⟨q0,q1,q2,q3,q4,q5,q6,q7⟩
      simp only [lgA,lgZ]
      go_simp
     simp only [lgA,lgZ,Act.put,lsA,lsZ,lsS]
     refine wpAnyG.tT 2 (v:=.pointer (some ⟨w.heap.size + 1,5,none⟩)) (by decide) 10 (by kernel_rfl) (by rfl) ?y2 (HBX _ hc0) ?_
     case y2 =>
      rintro w' ⟨q0,q1,q2,q3,q4,q5,q6,q7⟩
      simp only [lgA,lgZ,lgS]
      go_simp
     simp only [lgA,lgZ,lgS,Act.put,lsA,lsZ,lsS]
     refine wpAnyG.tT 3 (v:=.slice C.ya C.yn C.yc) (by decide) 10 (by kernel_rfl) (by rfl) ?y3 (HBX _ hc0) ?_
     case y3 =>
      rintro w' ⟨q0,q1,q2,q3,q4,q5,q6,q7⟩
      simp only [lgA,lgZ,lgS]
      go_simp
     simp only [lgA,lgZ,lgS,Act.put,lsA,lsZ,lsS]
     refine wpAnyG.two 1 8 (by kernel_rfl) (by decide) (by decide) (by rfl) (by rfl) (fun K hK=>?_) (fun K hK=>?_)
     ·simp only [lgA,lgZ,lgS]
      go_simp
      refine (wobQ P z0 (hP.below (aB hb1 hc0)) (by omega)).mono ?_
      rintro e z1 ⟨ga,gc,rfl,H1,hk⟩
      have hc1:=aB hc0 hk
      dsimp only
      refine hK _ _ ⟨fun _=>HBX _ hc1,fun _=>trivial⟩ ?_
      clear hK K hk
      refine wpAnyG.two 4 8 (by kernel_rfl) (by decide) (by decide) (by rfl) (by rfl) (fun K hK=>?_) (fun K hK=>?_)
      ·simp only [lgA,lgZ,lgS]
       go_simp
       refine (oI (P.wob ga gc) (Ky:=C.K) z1 H1 (hC.y.below (aB hb1 hc1)) hC.zy (by omega) hKK (hT.below (aB hb1 hc1)) (EH.below (aB hb1 hc1)).s (EH.below (aB hb1 hc1)).b).mono ?_
       rintro e z2 ⟨hk,hh⟩
       have hc2:=aB hc1 hk
       obtain ⟨f,c,n,k,d,m,l,rfl,R2⟩:∃ f c n k d m l,e = .returned (.tuple #[.agg #[.bool f,.slice c n k,.slice d m l],.nilIface])∧GR z2 z1.heap.size f c n k d m l (pv P.bare C.Y) 2097160:=by
        rcases hh with ⟨hn,_⟩ | ⟨_,hno,_⟩ | ⟨_,_,f,c,n,k,d,m,l,h1,h2⟩
        ·exact absurd HX.out hn
        ·exact absurd (qU.2 HO.out) hno
        ·exact ⟨f,c,n,k,d,m,l,h1,h2.val (aA5 _ _ _ _)⟩
       replace R2:=R2.mono (B':=w1.heap.size) hc1.size
       dsimp only
       refine hK _ _ ⟨fun _=>HBX _ hc2,fun _=>trivial⟩ ?_
       clear hK K hk hh H1
       refine wpAnyG.tT 5 (v:=.tuple #[.agg #[.bool f,.slice c n k,.slice d m l],.nilIface]) (by decide) 10 (by kernel_rfl) (by rfl) ?y5 (HBX _ hc2) ?_
       case y5 =>
        rintro w' ⟨q0,q1,q2,q3,q4,q5,q6,q7⟩
        simp only [lgA,lgZ,lgS]
        go_simp
       simp only [lgA,lgZ,lgS,Act.put,lsA,lsZ,lsS]
       refine wpAnyG.tT 6 (v:=.agg #[.bool f,.slice c n k,.slice d m l]) (by decide) 10 (by kernel_rfl) (by rfl) ?y6 (HBX _ hc2) ?_
       case y6 =>
        rintro w' ⟨q0,q1,q2,q3,q4,q5,q6,q7⟩
        simp only [lgA,lgZ,lgS]
        go_simp
       simp only [lgA,lgZ,lgS,Act.put,lsA,lsZ,lsS]
       refine wpAnyG.tT 7 (v:=.nilIface) (by decide) 10 (by kernel_rfl) (by rfl) ?y7 (HBX _ hc2) ?_
       case y7 =>
        rintro w' ⟨q0,q1,q2,q3,q4,q5,q6,q7⟩
        simp only [lgA,lgZ,lgS]
        go_simp
       simp only [lgA,lgZ,lgS,Act.put,lsA,lsZ,lsS]
       refine wpAnyG.one 8 (by kernel_rfl) (by decide) (by rfl) (fun K hK=>?_)
       simp only [lgA,lgZ,lgS]
       go_simp
       replace R2:=R2.gx (R:=z2.heap.size) (.inr (Nat.le_refl _))
       have hx:=aG z2 (.cells #[.bool false,.slice none 0 0,.slice none 0 0] 27)
       have VA3:=aN z2 (.bool false) (.slice none 0 0) (.slice none 0 0) 27
       have hc3:=aB hc2 hx
       have hR0:w1.heap.size≤z2.heap.size:=hc2.size
       have hRz3:z2.heap.size < (z2.alloc (.cells #[.bool false,.slice none 0 0,.slice none 0 0] 27)).heap.size:=by simp
       have R3:=R2.below hx
       refine hK _ _ ⟨fun _=>HBX _ hc3,fun _=>trivial⟩ ?_
       clear hK K hx
       generalize z2.alloc (.cells #[.bool false,.slice none 0 0,.slice none 0 0] 27) = z3 at *
       refine wpAnyG.one 9 (by kernel_rfl) (by decide) (by rfl) (fun K hK=>?_)
       obtain ⟨x0,x1,x2,x3,x4,x5⟩:=id VA3
       simp only [lgA,lgZ,lgS]
       go_simp
       obtain ⟨VN,O⟩:=VA3.set (.bool f) (.slice c n k) (.slice d m l)
       refine hK _ _ ⟨fun _=>HBX _ (hc3.trans (O.below hR0)),fun _=>trivial⟩ ?_
       clear hK K
       refine wpAnyG.one 10 (by kernel_rfl) (by decide) (by rfl) (fun K hK=>?_)
       simp only [lgA,lgZ,lgS]
       go_simp
       refine hK _ _ ⟨fun h=>absurd h (by decide),fun _=>trivial⟩ ?_
       clear hK K
       refine wpAnyG.done (by kernel_rfl) (NoPanic.normal ?_)
       exact ⟨rfl,_,_,_,_,_,_,_,z2.heap.size,f,c,n,k,d,m,l,rfl,VN,(R3.off O).1,hR0,hc3.trans (O.below hR0)⟩
      ·simp only [lgA,lgZ,lgS]
       go_simp
       have hx:=aG z1 (.cells #[.bool false,.slice none 0 0,.slice none 0 0] 27)
       have VA2:=aN z1 (.bool false) (.slice none 0 0) (.slice none 0 0) 27
       have hc2:=aB hc1 hx
       have hR0:w1.heap.size≤z1.heap.size:=hc1.size
       have hRz2:z1.heap.size < (z1.alloc (.cells #[.bool false,.slice none 0 0,.slice none 0 0] 27)).heap.size:=by simp
       have H2:=H1.below hx
       refine hK _ _ ⟨fun _=>HBX _ hc2,fun _=>trivial⟩ ?_
       clear hK K hx
       generalize z1.alloc (.cells #[.bool false,.slice none 0 0,.slice none 0 0] 27) = z2 at *
       refine wpAnyG.one 4 (by kernel_rfl) (by decide) (by rfl) (fun K hK=>?_)
       simp only [lgA,lgZ,lgS]
       go_simp
       refine (oI (P.wob ga gc) (Ky:=C.K) z2 H2 (hC.y.below (aB hb1 hc2)) hC.zy (by omega) hKK (hT.below (aB hb1 hc2)) (EH.below (aB hb1 hc2)).s (EH.below (aB hb1 hc2)).b).mono ?_
       rintro e z3 ⟨hk,hh⟩
       have hc3:=aB hc2 hk
       obtain ⟨f,c,n,k,d,m,l,rfl,R3⟩:∃ f c n k d m l,e = .returned (.tuple #[.agg #[.bool f,.slice c n k,.slice d m l],.nilIface])∧GR z3 z2.heap.size f c n k d m l (pv P.bare C.Y) 2097160:=by
        rcases hh with ⟨hn,_⟩ | ⟨_,hno,_⟩ | ⟨_,_,f,c,n,k,d,m,l,h1,h2⟩
        ·exact absurd HX.out hn
        ·exact absurd (qU.2 HO.out) hno
        ·exact ⟨f,c,n,k,d,m,l,h1,h2.val (aA5 _ _ _ _)⟩
       replace R3:=(R3.gx (R:=z1.heap.size) (.inl hRz2)).mono (B':=w1.heap.size) hc2.size
       have VA3:=VA2.below hk
       have hRz3:=Nat.lt_of_lt_of_le hRz2 hk.size
       dsimp only
       refine hK _ _ ⟨fun _=>HBX _ hc3,fun _=>trivial⟩ ?_
       clear hK K hk hh H2
       refine wpAnyG.tT 5 (v:=.tuple #[.agg #[.bool f,.slice c n k,.slice d m l],.nilIface]) (by decide) 10 (by kernel_rfl) (by rfl) ?y5 (HBX _ hc3) ?_
       case y5 =>
        rintro w' ⟨q0,q1,q2,q3,q4,q5,q6,q7⟩
        simp only [lgA,lgZ,lgS]
        go_simp
       simp only [lgA,lgZ,lgS,Act.put,lsA,lsZ,lsS]
       refine wpAnyG.tT 6 (v:=.agg #[.bool f,.slice c n k,.slice d m l]) (by decide) 10 (by kernel_rfl) (by rfl) ?y6 (HBX _ hc3) ?_
       case y6 =>
        rintro w' ⟨q0,q1,q2,q3,q4,q5,q6,q7⟩
        simp only [lgA,lgZ,lgS]
        go_simp
       simp only [lgA,lgZ,lgS,Act.put,lsA,lsZ,lsS]
       refine wpAnyG.tT 7 (v:=.nilIface) (by decide) 10 (by kernel_rfl) (by rfl) ?y7 (HBX _ hc3) ?_
       case y7 =>
        rintro w' ⟨q0,q1,q2,q3,q4,q5,q6,q7⟩
        simp only [lgA,lgZ,lgS]
        go_simp
       simp only [lgA,lgZ,lgS,Act.put,lsA,lsZ,lsS]
       refine wpAnyG.one 9 (by kernel_rfl) (by decide) (by rfl) (fun K hK=>?_)
       obtain ⟨x0,x1,x2,x3,x4,x5⟩:=id VA3
       simp only [lgA,lgZ,lgS]
       go_simp
       obtain ⟨VN,O⟩:=VA3.set (.bool f) (.slice c n k) (.slice d m l)
       refine hK _ _ ⟨fun _=>HBX _ (hc3.trans (O.below hR0)),fun _=>trivial⟩ ?_
       clear hK K
       refine wpAnyG.one 10 (by kernel_rfl) (by decide) (by rfl) (fun K hK=>?_)
       simp only [lgA,lgZ,lgS]
       go_simp
       refine hK _ _ ⟨fun h=>absurd h (by decide),fun _=>trivial⟩ ?_
       clear hK K
       refine wpAnyG.done (by kernel_rfl) (NoPanic.normal ?_)
       exact ⟨rfl,_,_,_,_,_,_,_,z1.heap.size,f,c,n,k,d,m,l,rfl,VN,(R3.off O).1,hR0,hc3.trans (O.below hR0)⟩
     ·simp only [lgA,lgZ,lgS]
      go_simp
      have hx:=aG z0 (.cells #[.bool false,.slice none 0 0,.slice none 0 0] 27)
      have VA1:=aN z0 (.bool false) (.slice none 0 0) (.slice none 0 0) 27
      have hc1:=aB hc0 hx
      have hR0:w1.heap.size≤z0.heap.size:=hc0.size
      have hRz1:z0.heap.size < (z0.alloc (.cells #[.bool false,.slice none 0 0,.slice none 0 0] 27)).heap.size:=by simp
      refine hK _ _ ⟨fun _=>HBX _ hc1,fun _=>trivial⟩ ?_
      clear hK K hx
      generalize z0.alloc (.cells #[.bool false,.slice none 0 0,.slice none 0 0] 27) = z1 at *
      refine wpAnyG.one 1 (by kernel_rfl) (by decide) (by rfl) (fun K hK=>?_)
      simp only [lgA,lgZ,lgS]
      go_simp
      refine (wobQ P z1 (hP.below (aB hb1 hc1)) (by omega)).mono ?_
      rintro e z2 ⟨ga,gc,rfl,H2,hk⟩
      have hc2:=aB hc1 hk
      have VA2:=VA1.below hk
      have hRz2:=Nat.lt_of_lt_of_le hRz1 hk.size
      dsimp only
      refine hK _ _ ⟨fun _=>HBX _ hc2,fun _=>trivial⟩ ?_
      clear hK K hk
      refine wpAnyG.one 4 (by kernel_rfl) (by decide) (by rfl) (fun K hK=>?_)
      simp only [lgA,lgZ,lgS]
      go_simp
      refine (oI (P.wob ga gc) (Ky:=C.K) z2 H2 (hC.y.below (aB hb1 hc2)) hC.zy (by omega) hKK (hT.below (aB hb1 hc2)) (EH.below (aB hb1 hc2)).s (EH.below (aB hb1 hc2)).b).mono ?_
      rintro e z3 ⟨hk,hh⟩
      have hc3:=aB hc2 hk
      obtain ⟨f,c,n,k,d,m,l,rfl,R3⟩:∃ f c n k d m l,e = .returned (.tuple #[.agg #[.bool f,.slice c n k,.slice d m l],.nilIface])∧GR z3 z2.heap.size f c n k d m l (pv P.bare C.Y) 2097160:=by
       rcases hh with ⟨hn,_⟩ | ⟨_,hno,_⟩ | ⟨_,_,f,c,n,k,d,m,l,h1,h2⟩
       ·exact absurd HX.out hn
       ·exact absurd (qU.2 HO.out) hno
       ·exact ⟨f,c,n,k,d,m,l,h1,h2.val (aA5 _ _ _ _)⟩
      replace R3:=(R3.gx (R:=z0.heap.size) (.inl hRz2)).mono (B':=w1.heap.size) hc2.size
      have VA3:=VA2.below hk
      have hRz3:=Nat.lt_of_lt_of_le hRz2 hk.size
      dsimp only
      refine hK _ _ ⟨fun _=>HBX _ hc3,fun _=>trivial⟩ ?_
      clear hK K hk hh H2
      refine wpAnyG.tT 5 (v:=.tuple #[.agg #[.bool f,.slice c n k,.slice d m l],.nilIface]) (by decide) 10 (by kernel_rfl) (by rfl) ?y5 (HBX _ hc3) ?_
      case y5 =>
       rintro w' ⟨q0,q1,q2,q3,q4,q5,q6,q7⟩
       simp only [lgA,lgZ,lgS]
       go_simp
      simp only [lgA,lgZ,lgS,Act.put,lsA,lsZ,lsS]
      refine wpAnyG.tT 6 (v:=.agg #[.bool f,.slice c n k,.slice d m l]) (by decide) 10 (by kernel_rfl) (by rfl) ?y6 (HBX _ hc3) ?_
      case y6 =>
       rintro w' ⟨q0,q1,q2,q3,q4,q5,q6,q7⟩
       simp only [lgA,lgZ,lgS]
       go_simp
      simp only [lgA,lgZ,lgS,Act.put,lsA,lsZ,lsS]
      refine wpAnyG.tT 7 (v:=.nilIface) (by decide) 10 (by kernel_rfl) (by rfl) ?y7 (HBX _ hc3) ?_
      case y7 =>
       rintro w' ⟨q0,q1,q2,q3,q4,q5,q6,q7⟩
       simp only [lgA,lgZ,lgS]
       go_simp
      simp only [lgA,lgZ,lgS,Act.put,lsA,lsZ,lsS]
      refine wpAnyG.one 9 (by kernel_rfl) (by decide) (by rfl) (fun K hK=>?_)
      obtain ⟨x0,x1,x2,x3,x4,x5⟩:=id VA3
      simp only [lgA,lgZ,lgS]
      go_simp
      obtain ⟨VN,O⟩:=VA3.set (.bool f) (.slice c n k) (.slice d m l)
      refine hK _ _ ⟨fun _=>HBX _ (hc3.trans (O.below hR0)),fun _=>trivial⟩ ?_
      clear hK K
      refine wpAnyG.one 10 (by kernel_rfl) (by decide) (by rfl) (fun K hK=>?_)
      simp only [lgA,lgZ,lgS]
      go_simp
      refine hK _ _ ⟨fun h=>absurd h (by decide),fun _=>trivial⟩ ?_
      clear hK K
      refine wpAnyG.done (by kernel_rfl) (NoPanic.normal ?_)
      exact ⟨rfl,_,_,_,_,_,_,_,z0.heap.size,f,c,n,k,d,m,l,rfl,VN,(R3.off O).1,hR0,hc3.trans (O.below hR0)⟩
    rintro a' w2 ⟨u1,u2,u3,u4,u5,u6,u7,RW,f,c,n,k,d,m,l,rfl,V2,G2,hRW,hx⟩
    simp only [Act.put,List.setIfInBounds_toArray,List.set_cons_zero,List.set_cons_succ]
    have hb2:=aB hb1 hx
    obtain ⟨v0,v1,v2,_,_,_⟩:=id V2
    clear HBX hx Pb Cb hb1
    go_wp2_with fail
    clear v0 v1 v2
    rcases (show pv P.bare C.Y = 0∨0 < pv P.bare C.Y∨pv P.bare C.Y < 0 by grind) with hm0 | hm0 | hm0
    ·refine (fO (0) w2 G2.tr (by omega) (by omega) (nK hm0)).mono ?_
     rintro e w3 ⟨rfl,h3⟩
     have hw:=aB hb2 h3
     have E3:=EH.below hw
     have HM:Hid (¬ 0 < pv P.bare C.Y):=by show ¬ 0 < _;grind
     clear h3 hb2 G2 V2 hm0
     have g0:=E3.b.1
     go_wp2
     go_ret
     exact ⟨hw,.inr ⟨HX.out,.inr ⟨HNC.out,.inl ⟨fun h=>HM.out h.2,rfl⟩⟩⟩⟩
    ·refine (fO (1) w2 G2.tr (by omega) (by omega) (kW hm0)).mono ?_
     rintro e w3 ⟨rfl,h3⟩
     have hw:=aB hb2 h3
     have E3:=EH.below hw
     have HM:Hid (0 < pv P.bare C.Y):=by show 0 < _;grind
     clear h3 hb2 G2 V2 hm0
     have g0:=E3.b.1
     go_wp2
     go_ret
     exact ⟨hw,.inr ⟨HX.out,.inr ⟨HNC.out,.inr ⟨HO.out,HM.out,rfl⟩⟩⟩⟩
    ·refine (fO (-1) w2 G2.tr (by omega) (by omega) (kX hm0)).mono ?_
     rintro e w3 ⟨rfl,h3⟩
     have hw:=aB hb2 h3
     have E3:=EH.below hw
     have HM:Hid (¬ 0 < pv P.bare C.Y):=by show ¬ 0 < _;grind
     clear h3 hb2 G2 V2 hm0
     have g0:=E3.b.1
     go_wp2
     go_ret
     exact ⟨hw,.inr ⟨HX.out,.inr ⟨HNC.out,.inl ⟨fun h=>HM.out h.2,rfl⟩⟩⟩⟩
   ·have HO:Hid (¬ okp P.bare C.Y):=hok
    clear hok
    go_wp2_with fail
    have HBX:∀ w',Below w1.heap.size w1 w'→(w'.cell? ⟨w.heap.size,0,none⟩ = some (.bool P.mx)∧w'.cell? ⟨w.heap.size,1,none⟩ = some (.string P.nm)∧w'.cell? ⟨w.heap.size,2,none⟩ = some (.bool P.p)∧w'.cell? ⟨w.heap.size,3,none⟩ = some (.slice P.a P.na P.ca)∧w'.cell? ⟨w.heap.size,4,none⟩ = some (.slice P.d P.nd P.cd)∧w'.cell? ⟨w.heap.size,5,none⟩ = some (.slice P.va P.vn P.vc)∧w'.cell? ⟨w.heap.size,6,none⟩ = some (.slice P.ra P.rn P.rc)∧w'.cell? ⟨w.heap.size + 1,5,none⟩ = some (.slice C.ya C.yn C.yc)):=fun w' h=>⟨(Pb.below h) 0 _ rfl,(Pb.below h) 1 _ rfl,(Pb.below h) 2 _ rfl,(Pb.below h) 3 _ rfl,(Pb.below h) 4 _ rfl,(Pb.below h) 5 _ rfl,(Pb.below h) 6 _ rfl,(Cb.below h) 5 _ rfl⟩
    refine aC7 (fun a0 a' w'=>∃ (u1 u2 u3 u4 u5 u6 u7:Value) (RW:Nat),a' = ((((((((((a0.put (some 18) u1).put (some 19) u2).put (some 20) u3).put (some 21) u4).put (some 22) u5).put (some 17) u6).put (some 23) u7).put (some 24) (.iface 173 (.pointer (some pB)))).put (some 5) (.pointer (some ⟨RW,0,none⟩))).put (some 6) (.iface 173 (.pointer (some pB))))∧Var3 w' RW (.bool false) (.slice none 0 0) (.slice none 0 0)∧w1.heap.size≤RW∧Below w1.heap.size w1 w') ?_ ?_
    ·refine wp_region_noPanic (aU 10 HBX (by kernel_rfl) ?_)
     have hc0:Below w1.heap.size w1 w1.drew:=aK _
     generalize w1.drew = z0 at *
     refine wpAnyG.tT 0 (v:=.agg #[.bool P.mx,.string P.nm,.bool P.p,.slice P.a P.na P.ca,.slice P.d P.nd P.cd,.slice P.va P.vn P.vc,.slice P.ra P.rn P.rc]) (by decide) 10 (by kernel_rfl) (by rfl) ?y0 (HBX _ hc0) ?_
     case y0 =>
      rintro w' ⟨q0,q1,q2,q3,q4,q5,q6,q7⟩
      simp only [lgA,lgZ]
      go_simp
     simp only [lgA,lgZ,Act.put,lsA,lsZ,lsS]
     refine wpAnyG.tT 2 (v:=.pointer (some ⟨w.heap.size + 1,5,none⟩)) (by decide) 10 (by kernel_rfl) (by rfl) ?y2 (HBX _ hc0) ?_
     case y2 =>
      rintro w' ⟨q0,q1,q2,q3,q4,q5,q6,q7⟩
      simp only [lgA,lgZ,lgS]
      go_simp
     simp only [lgA,lgZ,lgS,Act.put,lsA,lsZ,lsS]
     refine wpAnyG.tT 3 (v:=.slice C.ya C.yn C.yc) (by decide) 10 (by kernel_rfl) (by rfl) ?y3 (HBX _ hc0) ?_
     case y3 =>
      rintro w' ⟨q0,q1,q2,q3,q4,q5,q6,q7⟩
      simp only [lgA,lgZ,lgS]
      go_simp
     simp only [lgA,lgZ,lgS,Act.put,lsA,lsZ,lsS]
     refine wpAnyG.two 1 8 (by kernel_rfl) (by decide) (by decide) (by rfl) (by rfl) (fun K hK=>?_) (fun K hK=>?_)
     ·simp only [lgA,lgZ,lgS]
      go_simp
      refine (wobQ P z0 (hP.below (aB hb1 hc0)) (by omega)).mono ?_
      rintro e z1 ⟨ga,gc,rfl,H1,hk⟩
      have hc1:=aB hc0 hk
      dsimp only
      refine hK _ _ ⟨fun _=>HBX _ hc1,fun _=>trivial⟩ ?_
      clear hK K hk
      refine wpAnyG.two 4 8 (by kernel_rfl) (by decide) (by decide) (by rfl) (by rfl) (fun K hK=>?_) (fun K hK=>?_)
      ·simp only [lgA,lgZ,lgS]
       go_simp
       refine (oI (P.wob ga gc) (Ky:=C.K) z1 H1 (hC.y.below (aB hb1 hc1)) hC.zy (by omega) hKK (hT.below (aB hb1 hc1)) (EH.below (aB hb1 hc1)).s (EH.below (aB hb1 hc1)).b).mono ?_
       rintro e z2 ⟨hk,hh⟩
       have hc2:=aB hc1 hk
       obtain rfl:e = .returned (.tuple #[.agg #[.bool false,.slice none 0 0,.slice none 0 0],.iface 173 (.pointer (some pB))]):=by
        rcases hh with ⟨hn,_⟩ | ⟨_,_,h⟩ | ⟨_,hok,_⟩
        ·exact absurd HX.out hn
        ·exact h
        ·exact absurd (qU.1 hok) HO.out
       dsimp only
       refine hK _ _ ⟨fun _=>HBX _ hc2,fun _=>trivial⟩ ?_
       clear hK K hk hh H1
       refine wpAnyG.tT 5 (v:=.tuple #[.agg #[.bool false,.slice none 0 0,.slice none 0 0],.iface 173 (.pointer (some pB))]) (by decide) 10 (by kernel_rfl) (by rfl) ?y5 (HBX _ hc2) ?_
       case y5 =>
        rintro w' ⟨q0,q1,q2,q3,q4,q5,q6,q7⟩
        simp only [lgA,lgZ,lgS]
        go_simp
       simp only [lgA,lgZ,lgS,Act.put,lsA,lsZ,lsS]
       refine wpAnyG.tT 6 (v:=.agg #[.bool false,.slice none 0 0,.slice none 0 0]) (by decide) 10 (by kernel_rfl) (by rfl) ?y6 (HBX _ hc2) ?_
       case y6 =>
        rintro w' ⟨q0,q1,q2,q3,q4,q5,q6,q7⟩
        simp only [lgA,lgZ,lgS]
        go_simp
       simp only [lgA,lgZ,lgS,Act.put,lsA,lsZ,lsS]
       refine wpAnyG.tT 7 (v:=.iface 173 (.pointer (some pB))) (by decide) 10 (by kernel_rfl) (by rfl) ?y7 (HBX _ hc2) ?_
       case y7 =>
        rintro w' ⟨q0,q1,q2,q3,q4,q5,q6,q7⟩
        simp only [lgA,lgZ,lgS]
        go_simp
       simp only [lgA,lgZ,lgS,Act.put,lsA,lsZ,lsS]
       refine wpAnyG.one 8 (by kernel_rfl) (by decide) (by rfl) (fun K hK=>?_)
       simp only [lgA,lgZ,lgS]
       go_simp
       have hx:=aG z2 (.cells #[.bool false,.slice none 0 0,.slice none 0 0] 27)
       have VA3:=aN z2 (.bool false) (.slice none 0 0) (.slice none 0 0) 27
       have hc3:=aB hc2 hx
       have hR0:w1.heap.size≤z2.heap.size:=hc2.size
       have hRz3:z2.heap.size < (z2.alloc (.cells #[.bool false,.slice none 0 0,.slice none 0 0] 27)).heap.size:=by simp
       refine hK _ _ ⟨fun _=>HBX _ hc3,fun _=>trivial⟩ ?_
       clear hK K hx
       generalize z2.alloc (.cells #[.bool false,.slice none 0 0,.slice none 0 0] 27) = z3 at *
       refine wpAnyG.one 9 (by kernel_rfl) (by decide) (by rfl) (fun K hK=>?_)
       obtain ⟨x0,x1,x2,x3,x4,x5⟩:=id VA3
       simp only [lgA,lgZ,lgS]
       go_simp
       obtain ⟨VN,O⟩:=VA3.set (.bool false) (.slice none 0 0) (.slice none 0 0)
       refine hK _ _ ⟨fun _=>HBX _ (hc3.trans (O.below hR0)),fun _=>trivial⟩ ?_
       clear hK K
       refine wpAnyG.one 10 (by kernel_rfl) (by decide) (by rfl) (fun K hK=>?_)
       simp only [lgA,lgZ,lgS]
       go_simp
       refine hK _ _ ⟨fun h=>absurd h (by decide),fun _=>trivial⟩ ?_
       clear hK K
       refine wpAnyG.done (by kernel_rfl) (NoPanic.normal ?_)
       exact ⟨rfl,_,_,_,_,_,_,_,z2.heap.size,rfl,VN,hR0,hc3.trans (O.below hR0)⟩
      ·simp only [lgA,lgZ,lgS]
       go_simp
       have hx:=aG z1 (.cells #[.bool false,.slice none 0 0,.slice none 0 0] 27)
       have VA2:=aN z1 (.bool false) (.slice none 0 0) (.slice none 0 0) 27
       have hc2:=aB hc1 hx
       have hR0:w1.heap.size≤z1.heap.size:=hc1.size
       have hRz2:z1.heap.size < (z1.alloc (.cells #[.bool false,.slice none 0 0,.slice none 0 0] 27)).heap.size:=by simp
       have H2:=H1.below hx
       refine hK _ _ ⟨fun _=>HBX _ hc2,fun _=>trivial⟩ ?_
       clear hK K hx
       generalize z1.alloc (.cells #[.bool false,.slice none 0 0,.slice none 0 0] 27) = z2 at *
       refine wpAnyG.one 4 (by kernel_rfl) (by decide) (by rfl) (fun K hK=>?_)
       simp only [lgA,lgZ,lgS]
       go_simp
       refine (oI (P.wob ga gc) (Ky:=C.K) z2 H2 (hC.y.below (aB hb1 hc2)) hC.zy (by omega) hKK (hT.below (aB hb1 hc2)) (EH.below (aB hb1 hc2)).s (EH.below (aB hb1 hc2)).b).mono ?_
       rintro e z3 ⟨hk,hh⟩
       have hc3:=aB hc2 hk
       obtain rfl:e = .returned (.tuple #[.agg #[.bool false,.slice none 0 0,.slice none 0 0],.iface 173 (.pointer (some pB))]):=by
        rcases hh with ⟨hn,_⟩ | ⟨_,_,h⟩ | ⟨_,hok,_⟩
        ·exact absurd HX.out hn
        ·exact h
        ·exact absurd (qU.1 hok) HO.out
       have VA3:=VA2.below hk
       have hRz3:=Nat.lt_of_lt_of_le hRz2 hk.size
       dsimp only
       refine hK _ _ ⟨fun _=>HBX _ hc3,fun _=>trivial⟩ ?_
       clear hK K hk hh H2
       refine wpAnyG.tT 5 (v:=.tuple #[.agg #[.bool false,.slice none 0 0,.slice none 0 0],.iface 173 (.pointer (some pB))]) (by decide) 10 (by kernel_rfl) (by rfl) ?y5 (HBX _ hc3) ?_
       case y5 =>
        rintro w' ⟨q0,q1,q2,q3,q4,q5,q6,q7⟩
        simp only [lgA,lgZ,lgS]
        go_simp
       simp only [lgA,lgZ,lgS,Act.put,lsA,lsZ,lsS]
       refine wpAnyG.tT 6 (v:=.agg #[.bool false,.slice none 0 0,.slice none 0 0]) (by decide) 10 (by kernel_rfl) (by rfl) ?y6 (HBX _ hc3) ?_
       case y6 =>
        rintro w' ⟨q0,q1,q2,q3,q4,q5,q6,q7⟩
        simp only [lgA,lgZ,lgS]
        go_simp
       simp only [lgA,lgZ,lgS,Act.put,lsA,lsZ,lsS]
       refine wpAnyG.tT 7 (v:=.iface 173 (.pointer (some pB))) (by decide) 10 (by kernel_rfl) (by rfl) ?y7 (HBX _ hc3) ?_
       case y7 =>
        rintro w' ⟨q0,q1,q2,q3,q4,q5,q6,q7⟩
        simp only [lgA,lgZ,lgS]
        go_simp
       simp only [lgA,lgZ,lgS,Act.put,lsA,lsZ,lsS]
       refine wpAnyG.one 9 (by kernel_rfl) (by decide) (by rfl) (fun K hK=>?_)
       obtain ⟨x0,x1,x2,x3,x4,x5⟩:=id VA3
       simp only [lgA,lgZ,lgS]
       go_simp
       obtain ⟨VN,O⟩:=VA3.set (.bool false) (.slice none 0 0) (.slice none 0 0)
       refine hK _ _ ⟨fun _=>HBX _ (hc3.trans (O.below hR0)),fun _=>trivial⟩ ?_
       clear hK K
       refine wpAnyG.one 10 (by kernel_rfl) (by decide) (by rfl) (fun K hK=>?_)
       simp only [lgA,lgZ,lgS]
       go_simp
       refine hK _ _ ⟨fun h=>absurd h (by decide),fun _=>trivial⟩ ?_
       clear hK K
       refine wpAnyG.done (by kernel_rfl) (NoPanic.normal ?_)
       exact ⟨rfl,_,_,_,_,_,_,_,z1.heap.size,rfl,VN,hR0,hc3.trans (O.below hR0)⟩
     ·simp only [lgA,lgZ,lgS]
      go_simp
      have hx:=aG z0 (.cells #[.bool false,.slice none 0 0,.slice none 0 0] 27)
      have VA1:=aN z0 (.bool false) (.slice none 0 0) (.slice none 0 0) 27
      have hc1:=aB hc0 hx
      have hR0:w1.heap.size≤z0.heap.size:=hc0.size
      have hRz1:z0.heap.size < (z0.alloc (.cells #[.bool false,.slice none 0 0,.slice none 0 0] 27)).heap.size:=by simp
      refine hK _ _ ⟨fun _=>HBX _ hc1,fun _=>trivial⟩ ?_
      clear hK K hx
      generalize z0.alloc (.cells #[.bool false,.slice none 0 0,.slice none 0 0] 27) = z1 at *
      refine wpAnyG.one 1 (by kernel_rfl) (by decide) (by rfl) (fun K hK=>?_)
      simp only [lgA,lgZ,lgS]
      go_simp
      refine (wobQ P z1 (hP.below (aB hb1 hc1)) (by omega)).mono ?_
      rintro e z2 ⟨ga,gc,rfl,H2,hk⟩
      have hc2:=aB hc1 hk
      have VA2:=VA1.below hk
      have hRz2:=Nat.lt_of_lt_of_le hRz1 hk.size
      dsimp only
      refine hK _ _ ⟨fun _=>HBX _ hc2,fun _=>trivial⟩ ?_
      clear hK K hk
      refine wpAnyG.one 4 (by kernel_rfl) (by decide) (by rfl) (fun K hK=>?_)
      simp only [lgA,lgZ,lgS]
      go_simp
      refine (oI (P.wob ga gc) (Ky:=C.K) z2 H2 (hC.y.below (aB hb1 hc2)) hC.zy (by omega) hKK (hT.below (aB hb1 hc2)) (EH.below (aB hb1 hc2)).s (EH.below (aB hb1 hc2)).b).mono ?_
      rintro e z3 ⟨hk,hh⟩
      have hc3:=aB hc2 hk
      obtain rfl:e = .returned (.tuple #[.agg #[.bool false,.slice none 0 0,.slice none 0 0],.iface 173 (.pointer (some pB))]):=by
       rcases hh with ⟨hn,_⟩ | ⟨_,_,h⟩ | ⟨_,hok,_⟩
       ·exact absurd HX.out hn
       ·exact h
       ·exact absurd (qU.1 hok) HO.out
      have VA3:=VA2.below hk
      have hRz3:=Nat.lt_of_lt_of_le hRz2 hk.size
      dsimp only
      refine hK _ _ ⟨fun _=>HBX _ hc3,fun _=>trivial⟩ ?_
      clear hK K hk hh H2
      refine wpAnyG.tT 5 (v:=.tuple #[.agg #[.bool false,.slice none 0 0,.slice none 0 0],.iface 173 (.pointer (some pB))]) (by decide) 10 (by kernel_rfl) (by rfl) ?y5 (HBX _ hc3) ?_
      case y5 =>
       rintro w' ⟨q0,q1,q2,q3,q4,q5,q6,q7⟩
       simp only [lgA,lgZ,lgS]
       go_simp
      simp only [lgA,lgZ,lgS,Act.put,lsA,lsZ,lsS]
      refine wpAnyG.tT 6 (v:=.agg #[.bool false,.slice none 0 0,.slice none 0 0]) (by decide) 10 (by kernel_rfl) (by rfl) ?y6 (HBX _ hc3) ?_
      case y6 =>
       rintro w' ⟨q0,q1,q2,q3,q4,q5,q6,q7⟩
       simp only [lgA,lgZ,lgS]
       go_simp
      simp only [lgA,lgZ,lgS,Act.put,lsA,lsZ,lsS]
      refine wpAnyG.tT 7 (v:=.iface 173 (.pointer (some pB))) (by decide) 10 (by kernel_rfl) (by rfl) ?y7 (HBX _ hc3) ?_
      case y7 =>
       rintro w' ⟨q0,q1,q2,q3,q4,q5,q6,q7⟩
       simp only [lgA,lgZ,lgS]
       go_simp
      simp only [lgA,lgZ,lgS,Act.put,lsA,lsZ,lsS]
      refine wpAnyG.one 9 (by kernel_rfl) (by decide) (by rfl) (fun K hK=>?_)
      obtain ⟨x0,x1,x2,x3,x4,x5⟩:=id VA3
      simp only [lgA,lgZ,lgS]
      go_simp
      obtain ⟨VN,O⟩:=VA3.set (.bool false) (.slice none 0 0) (.slice none 0 0)
      refine hK _ _ ⟨fun _=>HBX _ (hc3.trans (O.below hR0)),fun _=>trivial⟩ ?_
      clear hK K
      refine wpAnyG.one 10 (by kernel_rfl) (by decide) (by rfl) (fun K hK=>?_)
      simp only [lgA,lgZ,lgS]
      go_simp
      refine hK _ _ ⟨fun h=>absurd h (by decide),fun _=>trivial⟩ ?_
      clear hK K
      refine wpAnyG.done (by kernel_rfl) (NoPanic.normal ?_)
      exact ⟨rfl,_,_,_,_,_,_,_,z0.heap.size,rfl,VN,hR0,hc3.trans (O.below hR0)⟩
    rintro a' w2 ⟨u1,u2,u3,u4,u5,u6,u7,RW,rfl,V2,hRW,hx⟩
    simp only [Act.put,List.setIfInBounds_toArray,List.set_cons_zero,List.set_cons_succ]
    have hw:=aB hb1 hx
    clear HBX hx Pb Cb hb1 V2
    go_wp2
    go_ret
    exact ⟨hw,.inr ⟨HX.out,.inr ⟨HNC.out,.inl ⟨fun h=>HO.out h.1,rfl⟩⟩⟩⟩
  ·go_wp2
   go_ret
   exact ⟨hb1,.inr ⟨HX.out,.inl ⟨HC.out.1 (by first | rfl | trivial),rfl⟩⟩⟩
 ·have hyI:¬ ((C.yn:Int) = (P.rn:Int)):=by omega
  have hyB:((C.yn:Int) == (P.rn:Int)) = false:=by simpa using hyI
  obtain ⟨ec,pp,rfl⟩:=E0.s
  have HY:Hid (¬ C.yn = P.rn):=hy
  clear hy
  go_wp2
  go_ret
  exact ⟨hb0,.inl ⟨HY.out,rfl⟩⟩
theorem InfR.up {P:Prob} {C:Crt} {eS eB:Value} {w w0 w':World} {e:Ending} (h:InfR P C eS eB w0 e w') (hb:Below w.heap.size w w0):InfR P C eS eB w e w':=⟨aB hb h.1,h.2⟩
theorem InfR.val {P:Prob} {C:Crt} {eS eB:Value} {w w':World} {e:Ending} (h:InfR P C eS eB w e w'):∃ v,e = .returned v:=by
 rcases h.2 with ⟨_,h⟩ | ⟨_,⟨_,h⟩ | ⟨_,⟨_,h⟩ | ⟨_,_,h⟩⟩⟩ <;> exact ⟨_,h⟩
theorem UnbR.up {P:Prob} {C:Crt} {eS eP eR:Value} {w w0 w':World} {e:Ending} (h:UnbR P C eS eP eR w0 e w') (hb:Below w.heap.size w w0):UnbR P C eS eP eR w e w':=⟨aB hb h.1,h.2⟩
theorem UnbR.val {P:Prob} {C:Crt} {eS eP eR:Value} {w w':World} {e:Ending} (h:UnbR P C eS eP eR w e w'):∃ v,e = .returned v:=by
 rcases h.2 with ⟨_,h⟩ | ⟨_,_,⟨_,h⟩ | ⟨_,⟨_,h⟩ | ⟨_,_,h⟩⟩⟩ <;> exact ⟨_,h⟩
theorem chk2 (P:Prob) (C:Crt) (w:World) (hv:C.vd = 2) (hP:PQ w P) (hC:CQ w C) (hK:P.K + C.K≤1048576) (hT:TB w) {eS eP eV eR eD:Value} {pB:Addr} (EH:EE w eS eP eV (.iface 173 (.pointer (some pB))) eR eD) :
 Calls Tryz.prog 28 #[P.val,C.val] w fun e w'=>InfR P C eS (.iface 173 (.pointer (some pB))) w e w':=by
 have HV:Hid (C.vd = 2):=hv
 clear hv
 have HQ:=fun w1 (hb:Below w.heap.size w w1)=>infQ P C w1 (hP.below hb) (hC.below hb) hK (hT.below hb) (EH.below hb)
 unfold Prob.val Crt.val at *
 rw [HV.out] at HQ ⊢
 have Pb:=aJ w #[.bool P.mx,.string P.nm,.bool P.p,.slice P.a P.na P.ca,.slice P.d P.nd P.cd,.slice P.va P.vn P.vc,.slice P.ra P.rn P.rc] 31
 have hz0:=aG w (.cells #[.bool P.mx,.string P.nm,.bool P.p,.slice P.a P.na P.ca,.slice P.d P.nd P.cd,.slice P.va P.vn P.vc,.slice P.ra P.rn P.rc] 31)
 have hs0:(w.alloc (.cells #[.bool P.mx,.string P.nm,.bool P.p,.slice P.a P.na P.ca,.slice P.d P.nd P.cd,.slice P.va P.vn P.vc,.slice P.ra P.rn P.rc] 31)).heap.size = w.heap.size + 1:=by simp
 have Cb:=aJ (w.alloc (.cells #[.bool P.mx,.string P.nm,.bool P.p,.slice P.a P.na P.ca,.slice P.d P.nd P.cd,.slice P.va P.vn P.vc,.slice P.ra P.rn P.rc] 31)) #[.int .i64 2,.bool C.p,.slice C.a C.na C.ca,.slice C.d C.nd C.cd,.slice C.xa C.xn C.xc,.slice C.ya C.yn C.yc,.slice C.za C.zn C.zc] 47
 have hz1:=aG (w.alloc (.cells #[.bool P.mx,.string P.nm,.bool P.p,.slice P.a P.na P.ca,.slice P.d P.nd P.cd,.slice P.va P.vn P.vc,.slice P.ra P.rn P.rc] 31)) (.cells #[.int .i64 2,.bool C.p,.slice C.a C.na C.ca,.slice C.d C.nd C.cd,.slice C.xa C.xn C.xc,.slice C.ya C.yn C.yc,.slice C.za C.zn C.zc] 47)
 rw [hs0] at Cb
 replace Pb:=Pb.below hz1
 have hb0:=aB hz0 hz1
 clear hz0 hz1 hs0
 have p0:=Pb 0 _ rfl;have p1:=Pb 1 _ rfl;have p2:=Pb 2 _ rfl;have p3:=Pb 3 _ rfl;have p4:=Pb 4 _ rfl;have p5:=Pb 5 _ rfl;have p6:=Pb 6 _ rfl
 have c0:=Cb 0 _ rfl;have c1:=Cb 1 _ rfl;have c2:=Cb 2 _ rfl;have c3:=Cb 3 _ rfl;have c4:=Cb 4 _ rfl;have c5:=Cb 5 _ rfl;have c6:=Cb 6 _ rfl
 go_enter Tryz.func28,Tryz.ntmps28
 go_wp2_with fail
 clear p0 p1 p2 p3 p4 p5 p6 c0 c1 c2 c3 c4 c5 c6
 generalize (w.alloc (.cells #[.bool P.mx,.string P.nm,.bool P.p,.slice P.a P.na P.ca,.slice P.d P.nd P.cd,.slice P.va P.vn P.vc,.slice P.ra P.rn P.rc] 31)).alloc (.cells #[.int .i64 2,.bool C.p,.slice C.a C.na C.ca,.slice C.d C.nd C.cd,.slice C.xa C.xn C.xc,.slice C.ya C.yn C.yc,.slice C.za C.zn C.zc] 47) = W0 at *
 refine (HQ W0 hb0).mono ?_
 intro e w1 HR
 replace HR:=HR.up hb0
 clear Pb Cb hb0 HQ
 obtain ⟨v,rfl⟩:=HR.val
 go_wp2
 go_ret
 exact HR
theorem chk3 (P:Prob) (C:Crt) (w:World) (hv:C.vd = 3) (hP:PQ w P) (hC:CQ w C) (hK:P.K + C.K≤1048576) (hT:TB w) {eS eP eV eR eD:Value} {pB:Addr} (EH:EE w eS eP eV (.iface 173 (.pointer (some pB))) eR eD) :
 Calls Tryz.prog 28 #[P.val,C.val] w fun e w'=>UnbR P C eS eP eR w e w':=by
 have HV:Hid (C.vd = 3):=hv
 clear hv
 have HQ:=fun w1 (hb:Below w.heap.size w w1)=>unbQ P C w1 (hP.below hb) (hC.below hb) hK (hT.below hb) (EH.below hb)
 unfold Prob.val Crt.val at *
 rw [HV.out] at HQ ⊢
 have Pb:=aJ w #[.bool P.mx,.string P.nm,.bool P.p,.slice P.a P.na P.ca,.slice P.d P.nd P.cd,.slice P.va P.vn P.vc,.slice P.ra P.rn P.rc] 31
 have hz0:=aG w (.cells #[.bool P.mx,.string P.nm,.bool P.p,.slice P.a P.na P.ca,.slice P.d P.nd P.cd,.slice P.va P.vn P.vc,.slice P.ra P.rn P.rc] 31)
 have hs0:(w.alloc (.cells #[.bool P.mx,.string P.nm,.bool P.p,.slice P.a P.na P.ca,.slice P.d P.nd P.cd,.slice P.va P.vn P.vc,.slice P.ra P.rn P.rc] 31)).heap.size = w.heap.size + 1:=by simp
 have Cb:=aJ (w.alloc (.cells #[.bool P.mx,.string P.nm,.bool P.p,.slice P.a P.na P.ca,.slice P.d P.nd P.cd,.slice P.va P.vn P.vc,.slice P.ra P.rn P.rc] 31)) #[.int .i64 3,.bool C.p,.slice C.a C.na C.ca,.slice C.d C.nd C.cd,.slice C.xa C.xn C.xc,.slice C.ya C.yn C.yc,.slice C.za C.zn C.zc] 47
 have hz1:=aG (w.alloc (.cells #[.bool P.mx,.string P.nm,.bool P.p,.slice P.a P.na P.ca,.slice P.d P.nd P.cd,.slice P.va P.vn P.vc,.slice P.ra P.rn P.rc] 31)) (.cells #[.int .i64 3,.bool C.p,.slice C.a C.na C.ca,.slice C.d C.nd C.cd,.slice C.xa C.xn C.xc,.slice C.ya C.yn C.yc,.slice C.za C.zn C.zc] 47)
 rw [hs0] at Cb
 replace Pb:=Pb.below hz1
 have hb0:=aB hz0 hz1
 clear hz0 hz1 hs0
 have p0:=Pb 0 _ rfl;have p1:=Pb 1 _ rfl;have p2:=Pb 2 _ rfl;have p3:=Pb 3 _ rfl;have p4:=Pb 4 _ rfl;have p5:=Pb 5 _ rfl;have p6:=Pb 6 _ rfl
 have c0:=Cb 0 _ rfl;have c1:=Cb 1 _ rfl;have c2:=Cb 2 _ rfl;have c3:=Cb 3 _ rfl;have c4:=Cb 4 _ rfl;have c5:=Cb 5 _ rfl;have c6:=Cb 6 _ rfl
 go_enter Tryz.func28,Tryz.ntmps28
 go_wp2_with fail
 clear p0 p1 p2 p3 p4 p5 p6 c0 c1 c2 c3 c4 c5 c6
 generalize (w.alloc (.cells #[.bool P.mx,.string P.nm,.bool P.p,.slice P.a P.na P.ca,.slice P.d P.nd P.cd,.slice P.va P.vn P.vc,.slice P.ra P.rn P.rc] 31)).alloc (.cells #[.int .i64 3,.bool C.p,.slice C.a C.na C.ca,.slice C.d C.nd C.cd,.slice C.xa C.xn C.xc,.slice C.ya C.yn C.yc,.slice C.za C.zn C.zc] 47) = W0 at *
 refine (HQ W0 hb0).mono ?_
 intro e w1 HR
 replace HR:=HR.up hb0
 clear Pb Cb hb0 HQ
 obtain ⟨v,rfl⟩:=HR.val
 go_wp2
 go_ret
 exact HR
def Six (eS eP eV eB eR eD v:Value):Prop:=v = eS∨v = eP∨v = eV∨v = eB∨v = eR∨v = eD
def Snd (P:Prob) (C:Crt):Prop :=
 (C.vd = 1∧C.xn = P.vn∧bY P C.xn C.X∧vlu P C.X = C.v∧okS P C.Y∧pvS P C.Y = C.v)∨(C.vd = 2∧∀ n X,¬ bY P n X)∨(C.vd = 3∧C.xn = P.vn∧C.zn = P.vn∧bY P C.xn C.X∧Dir P C.Z∧imp P C.Z)
def ChkR (P:Prob) (C:Crt) (eS eP eV eB eR eD:Value) (w:World) (e:Ending) (w':World):Prop :=
 Below w.heap.size w w'∧((∃ v,e = .returned v∧Six eS eP eV eB eR eD v)∨(e = .returned .nilIface∧Snd P C))
theorem chkA (P:Prob) (C:Crt) (w:World) (hP:PQ w P) (hC:CQ w C) (hK:P.K + C.K≤1048576) (hT:TB w) {eS eP eV eR eD:Value} {pB:Addr} (EH:EE w eS eP eV (.iface 173 (.pointer (some pB))) eR eD) :
 Calls Tryz.prog 28 #[P.val,C.val] w fun e w'=>ChkR P C eS eP eV (.iface 173 (.pointer (some pB))) eR eD w e w':=by
 by_cases h1:C.vd = 1
 ·refine (chk1 P C w h1 hP hC hK hT EH).mono ?_
  rintro e w' ⟨hb,h⟩
  refine ⟨hb,?_⟩
  rcases h with ⟨_,h⟩ | ⟨hx,_,⟨_,h⟩ | ⟨hl,⟨_,h⟩ | ⟨hv,⟨_,h⟩ | ⟨ho,hp,h⟩⟩⟩⟩
  ·exact .inl ⟨_,h,.inl rfl⟩
  ·exact .inl ⟨_,h,.inr (.inl rfl)⟩
  ·exact .inl ⟨_,h,.inr (.inr (.inl rfl))⟩
  ·exact .inl ⟨_,h,.inr (.inr (.inr (.inl rfl)))⟩
  ·exact .inr ⟨h,.inl ⟨h1,hx,hl,hv,ho,hp⟩⟩
 by_cases h2:C.vd = 2
 ·refine (chk2 P C w h2 hP hC hK hT EH).mono ?_
  rintro e w' ⟨hb,h⟩
  refine ⟨hb,?_⟩
  rcases h with ⟨_,h⟩ | ⟨_,⟨hc,h⟩ | ⟨_,⟨_,h⟩ | ⟨ho,hp,h⟩⟩⟩
  ·exact .inl ⟨_,h,.inl rfl⟩
  ·exact .inr ⟨h,.inr (.inl ⟨h2,fun n X=>aE8 hc⟩)⟩
  ·exact .inl ⟨_,h,.inr (.inr (.inr (.inl rfl)))⟩
  ·exact .inr ⟨h,.inr (.inl ⟨h2,fun n X=>aD3 ho hp⟩)⟩
 by_cases h3:C.vd = 3
 ·refine (chk3 P C w h3 hP hC hK hT EH).mono ?_
  rintro e w' ⟨hb,h⟩
  refine ⟨hb,?_⟩
  rcases h with ⟨_,h⟩ | ⟨hx,hz,⟨_,h⟩ | ⟨hl,⟨_,h⟩ | ⟨hd,hi,h⟩⟩⟩
  ·exact .inl ⟨_,h,.inl rfl⟩
  ·exact .inl ⟨_,h,.inr (.inl rfl)⟩
  ·exact .inl ⟨_,h,.inr (.inr (.inr (.inr (.inl rfl))))⟩
  ·exact .inr ⟨h,.inr (.inr ⟨h3,hx,hz,hl,hd,hi⟩)⟩
 ·refine (chk4 P C w h1 h2 h3 EH).mono ?_
  rintro e w' ⟨h,hb⟩
  exact ⟨hb,.inl ⟨_,h,.inr (.inr (.inr (.inr (.inr rfl))))⟩⟩
end Go.Proofs.YtnokmjmefipplaaGreatDoor

import Derived.Test.YtjapbhdoemfgkaaGreatDoorPvFAll
import Derived.Test.YtjapbhdoemfgkaaGreatDoorQ3OAll
import Derived.Test.YtjapbhdoemfgkaaGreatDoorRwA
namespace Go.Proofs.YtjapbhdoemfgkaaGreatDoor
open Go.RowKit
def crB (hlo:Bool) (lo:Rat) (hhi:Bool) (hi:Rat):Bool:=!(hlo && hhi && decide (0 < cs lo hi))
set_option maxHeartbeats 4000000 in
theorem crossLit {hlo pl:Bool} {al:Option Addr} {nl cl:Nat} {dl:Option Addr} {ml ll:Nat} {lo:Rat} {hhi ph:Bool} {ah:Option Addr} {nh ch:Nat} {dh:Option Addr} {mh lh:Nat} {hi:Rat} {z:Int} {R:Nat} (w:World) (hl:TR w pl al nl cl dl ml ll lo R) (hh:TR w ph ah nh ch dh mh lh hi R) (hR1:1≤R) (hR:R≤4000000) :
  Calls Tryz.prog 70 #[.int .i64 z,.agg #[.bool hlo,.bool pl,.slice al nl cl,.slice dl ml ll],.agg #[.bool hhi,.bool ph,.slice ah nh ch,.slice dh mh lh]] w fun e w'=>e = .returned (.bool (crB hlo lo hhi hi))∧Below w.heap.size w w':=by
 cases hlo
 ·have A0:=box_new w #[.bool false,.bool pl,.slice al nl cl,.slice dl ml ll] 37
  have hb0:=bel_d0 w (.cells #[.bool false,.bool pl,.slice al nl cl,.slice dl ml ll] 37)
  have hs0:(w.alloc (.cells #[.bool false,.bool pl,.slice al nl cl,.slice dl ml ll] 37)).heap.size = w.heap.size + 1:=by simp
  have A1:=box_new (w.alloc (.cells #[.bool false,.bool pl,.slice al nl cl,.slice dl ml ll] 37)) #[.bool hhi,.bool ph,.slice ah nh ch,.slice dh mh lh] 37
  have hb1:=bel_d0 (w.alloc (.cells #[.bool false,.bool pl,.slice al nl cl,.slice dl ml ll] 37)) (.cells #[.bool hhi,.bool ph,.slice ah nh ch,.slice dh mh lh] 37)
  rw [hs0] at A1
  replace A0:=A0.below hb1
  have hbA:=bel_tr hb0 hb1
  clear hb0 hb1 hs0
  have a0:=A0 0 _ rfl
  have b0:=A1 0 _ rfl
  go_enter Tryz.func70,Tryz.ntmps70
  go_wp2
  go_ret
  exact ⟨by simp [crB],hbA⟩
 ·cases hhi
  ·have A0:=box_new w #[.bool true,.bool pl,.slice al nl cl,.slice dl ml ll] 37
   have hb0:=bel_d0 w (.cells #[.bool true,.bool pl,.slice al nl cl,.slice dl ml ll] 37)
   have hs0:(w.alloc (.cells #[.bool true,.bool pl,.slice al nl cl,.slice dl ml ll] 37)).heap.size = w.heap.size + 1:=by simp
   have A1:=box_new (w.alloc (.cells #[.bool true,.bool pl,.slice al nl cl,.slice dl ml ll] 37)) #[.bool false,.bool ph,.slice ah nh ch,.slice dh mh lh] 37
   have hb1:=bel_d0 (w.alloc (.cells #[.bool true,.bool pl,.slice al nl cl,.slice dl ml ll] 37)) (.cells #[.bool false,.bool ph,.slice ah nh ch,.slice dh mh lh] 37)
   rw [hs0] at A1
   replace A0:=A0.below hb1
   have hbA:=bel_tr hb0 hb1
   clear hb0 hb1 hs0
   have a0:=A0 0 _ rfl
   have b0:=A1 0 _ rfl
   go_enter Tryz.func70,Tryz.ntmps70
   go_wp2
   go_ret
   exact ⟨by simp [crB],hbA⟩
  ·have A0:=box_new w #[.bool true,.bool pl,.slice al nl cl,.slice dl ml ll] 37
   have hb0:=bel_d0 w (.cells #[.bool true,.bool pl,.slice al nl cl,.slice dl ml ll] 37)
   have hs0:(w.alloc (.cells #[.bool true,.bool pl,.slice al nl cl,.slice dl ml ll] 37)).heap.size = w.heap.size + 1:=by simp
   have A1:=box_new (w.alloc (.cells #[.bool true,.bool pl,.slice al nl cl,.slice dl ml ll] 37)) #[.bool true,.bool ph,.slice ah nh ch,.slice dh mh lh] 37
   have hb1:=bel_d0 (w.alloc (.cells #[.bool true,.bool pl,.slice al nl cl,.slice dl ml ll] 37)) (.cells #[.bool true,.bool ph,.slice ah nh ch,.slice dh mh lh] 37)
   rw [hs0] at A1
   replace A0:=A0.below hb1
   have hbA:=bel_tr hb0 hb1
   clear hb0 hb1 hs0
   have a0:=A0 0 _ rfl
   have b0:=A1 0 _ rfl
   have a1:=A0 1 _ rfl
   have a2:=A0 2 _ rfl
   have a3:=A0 3 _ rfl
   have b1:=A1 1 _ rfl
   have b2:=A1 2 _ rfl
   have b3:=A1 3 _ rfl
   go_enter Tryz.func70,Tryz.ntmps70
   go_wp2_with fail
   generalize (w.alloc (.cells #[.bool true,.bool pl,.slice al nl cl,.slice dl ml ll] 37)).alloc (.cells #[.bool true,.bool ph,.slice ah nh ch,.slice dh mh lh] 37) = W0 at *
   clear a0 a1 a2 a3 b0 b1 b2 b3
   obtain ⟨t,et⟩:∃ t,t = cs lo hi:=⟨_,rfl⟩
   refine (cmpB t W0 (hl.below hbA) (hh.below hbA) (by omega) hR1 hR1 et).mono ?_
   rintro e w1 ⟨rfl,h1⟩
   have hw:=bel_tr hbA h1
   have HT:Hid (t = cs lo hi):=et
   clear h1 hbA A0 A1 et
   go_wp2
   go_ret
   exact ⟨by unfold crB;rw [← HT.out];by_cases h:t≤0 <;> simp [h] <;> omega,hw⟩
def kpB (m:Rat) (hlo hhi:Bool):Bool:=if m < 0 then !hlo else if 0 < m then !hhi else true
set_option maxRecDepth 100000 in
set_option maxHeartbeats 4000000 in
theorem keepLit {bm q:Nat} {ma:Option Addr} {nm mc:Nat} {M:Nat→Rat} {Sm:Nat} {hlo pl:Bool} {al:Option Addr} {nl cl:Nat} {dl:Option Addr} {ml ll:Nat} {hhi ph:Bool} {ah:Option Addr} {nh ch:Nat} {dh:Option Addr} {mh lh:Nat} {z:Int} (w:World) (hz0:z = (q:Int)) (hm:w.cell? ⟨bm,0,none⟩ = some (.slice ma nm mc)) (hM:LQ w ma nm M (fun _=>Sm)) (hq:q < nm) (hSm:1≤Sm) (hS9:Sm≤9000000) :
  Calls Tryz.prog 72 #[.int .i64 z,.agg #[.bool hlo,.bool pl,.slice al nl cl,.slice dl ml ll],.agg #[.bool hhi,.bool ph,.slice ah nh ch,.slice dh mh lh],.pointer (some ⟨bm,0,none⟩)] w fun e w'=>e = .returned (.bool (kpB (M q) hlo hhi))∧Below w.heap.size w w':=by
 subst hz0
 rcases hM with h0 | ⟨mb,mo,rfl,hel⟩
 ·omega
 obtain ⟨pM,aM,nM,cM,dM,mM,lM,e0,e1,e2,hA⟩:=hel q hq
 have hqI:(q:Int) < (nm:Int):=by omega
 have hqI3:(q:Int) * 3 = ((q * 3:Nat):Int):=by omega
 have A0:=box_new w #[.bool hlo,.bool pl,.slice al nl cl,.slice dl ml ll] 37
 have hb0:=bel_d0 w (.cells #[.bool hlo,.bool pl,.slice al nl cl,.slice dl ml ll] 37)
 have hs0:(w.alloc (.cells #[.bool hlo,.bool pl,.slice al nl cl,.slice dl ml ll] 37)).heap.size = w.heap.size + 1:=by simp
 have A1:=box_new (w.alloc (.cells #[.bool hlo,.bool pl,.slice al nl cl,.slice dl ml ll] 37)) #[.bool hhi,.bool ph,.slice ah nh ch,.slice dh mh lh] 37
 have hb1:=bel_d0 (w.alloc (.cells #[.bool hlo,.bool pl,.slice al nl cl,.slice dl ml ll] 37)) (.cells #[.bool hhi,.bool ph,.slice ah nh ch,.slice dh mh lh] 37)
 rw [hs0] at A1
 replace A0:=A0.below hb1
 have hbA:=bel_tr hb0 hb1
 clear hb0 hb1 hs0
 have x0:=kept_c hbA hm
 have x1:=kept_c hbA e0
 have x2:=kept_c hbA e1
 have x3:=kept_c hbA e2
 clear hel
 go_enter Tryz.func72,Tryz.ntmps72
 go_wp2_with fail
 clear x0 x1 x2 x3
 generalize (w.alloc (.cells #[.bool hlo,.bool pl,.slice al nl cl,.slice dl ml ll] 37)).alloc (.cells #[.bool hhi,.bool ph,.slice ah nh ch,.slice dh mh lh] 37) = W0 at *
 rcases (show M q = 0∨0 < M q∨M q < 0 by grind) with hm0 | hm0 | hm0
 ·refine (rsignB (0) W0 (hA.below hbA) hS9 hSm (sgn_nil hm0)).mono ?_
  rintro e w1 ⟨rfl,h1⟩
  have hw:=bel_tr hbA h1
  replace A0:=A0.below h1
  replace A1:=A1.below h1
  have a0:=A0 0 _ rfl
  have b0:=A1 0 _ rfl
  clear h1 hbA A0 A1
  go_wp2
  go_ret
  exact ⟨by simp [kpB,hm0,Rat.lt_irrefl],hw⟩
 ·refine (rsignB (1) W0 (hA.below hbA) hS9 hSm (sgn_pos hm0)).mono ?_
  rintro e w1 ⟨rfl,h1⟩
  have hw:=bel_tr hbA h1
  replace A0:=A0.below h1
  replace A1:=A1.below h1
  have a0:=A0 0 _ rfl
  have b0:=A1 0 _ rfl
  clear h1 hbA A0 A1
  go_wp2
  go_ret
  exact ⟨by simp [kpB,hm0,show ¬ M q < 0 by grind],hw⟩
 ·refine (rsignB (-1) W0 (hA.below hbA) hS9 hSm (sgn_neg hm0)).mono ?_
  rintro e w1 ⟨rfl,h1⟩
  have hw:=bel_tr hbA h1
  replace A0:=A0.below h1
  replace A1:=A1.below h1
  have a0:=A0 0 _ rfl
  have b0:=A1 0 _ rfl
  clear h1 hbA A0 A1
  go_wp2
  go_ret
  exact ⟨by simp [kpB,hm0],hw⟩
set_option maxRecDepth 100000 in
set_option maxHeartbeats 16000000 in
theorem allC (P:Prob)  (w:World) (hP:PQ w P) (hK:P.K≤1048576) :
  Calls Tryz.prog 28 #[P.val,.func (.func 70) #[] #[]] w fun e w'=>∃ b,e = .returned (.bool b)∧(b = true↔∀ q,q < P.rn + P.vn→crB (phl P q) (plo P q) (phh P q) (phi P q) = true)∧Below w.heap.size w w':=by
 have hall:=hP.all
 have hrn:P.rn≤1048576:=by have:=tot_len P.ZR P.rn;omega
 have hvn:P.vn≤1048576:=by have:=tot_len P.ZV P.vn;omega
 unfold Prob.val
 have Pb:=box_new w #[.bool P.mx,.string P.nm,.bool P.p,.slice P.a P.na P.ca,.slice P.d P.nd P.cd,.slice P.va P.vn P.vc,.slice P.ra P.rn P.rc] 32
 have hz:=bel_d0 w (.cells #[.bool P.mx,.string P.nm,.bool P.p,.slice P.a P.na P.ca,.slice P.d P.nd P.cd,.slice P.va P.vn P.vc,.slice P.ra P.rn P.rc] 32)
 have hsA:w.heap.size + 1≤(w.alloc (.cells #[.bool P.mx,.string P.nm,.bool P.p,.slice P.a P.na P.ca,.slice P.d P.nd P.cd,.slice P.va P.vn P.vc,.slice P.ra P.rn P.rc] 32)).heap.size:=by simp
 go_enter Tryz.func28,Tryz.ntmps28
 go_wp2
 generalize w.alloc (.cells #[.bool P.mx,.string P.nm,.bool P.p,.slice P.a P.na P.ca,.slice P.d P.nd P.cd,.slice P.va P.vn P.vc,.slice P.ra P.rn P.rc] 32) = W0 at *
 go_loopw [12] (fun s wr=>∃ (i:Nat),i≤P.rn∧s = .int .i64 i∧(∀ q,q < i→crB (phl P q) (plo P q) (phh P q) (phi P q) = true)∧BoxC wr w.heap.size (#[.bool P.mx,.string P.nm,.bool P.p,.slice P.a P.na P.ca,.slice P.d P.nd P.cd,.slice P.va P.vn P.vc,.slice P.ra P.rn P.rc]).toList∧Below w.heap.size w wr) (fun t _=>P.rn - (intOf t).toNat)
 case atStart=>exact ⟨0,Nat.zero_le _,rfl,fun q hq=>by omega,Pb,hz⟩
 case round =>
  clear Pb hz hsA
  obtain ⟨i,hi,rfl,I,Pb,hbw⟩:=hrel
  by_cases hlt:i < P.rn
  ·have hkI:(i:Int) < (P.rn:Int):=by omega
   rcases hP.r with h00 | ⟨rb,ro,hra,hew⟩
   ·omega
   have hR:=hew i hlt
   have hZi:P.ZR i≤P.K:=by have:=tot_le (Z:=P.ZR) hlt;omega
   have hK1:1≤P.K:=by have:=hR.s1;omega
   obtain ⟨nmR,enm⟩:∃ nmR,nmR = (P.R i).nm:=⟨_,rfl⟩
   obtain ⟨nt,ent⟩:∃ nt,nt = (P.R i).nt:=⟨_,rfl⟩
   obtain ⟨hl,ehl⟩:∃ hl,hl = phl P i:=⟨_,rfl⟩
   obtain ⟨hh,ehh⟩:∃ hh,hh = phh P i:=⟨_,rfl⟩
   have r0:=hR.nm
   obtain ⟨ta,tc,Zt,r1,_,_,_⟩:=hR.terms
   have r2:=hR.hlo
   obtain ⟨pl,al,nl,cl,dl,ml,ll,r3,r4,r5,hlo⟩:=hR.lo
   have r6:=hR.hhi
   obtain ⟨ph,ah,nh,ch,dh,mh,lh,r7,r8,r9,hhi⟩:=hR.hi
   have e1:phl P i = (P.R i).hlo:=if_pos hlt
   have e2:phh P i = (P.R i).hhi:=if_pos hlt
   have e3:plo P i = (P.R i).lo:=if_pos hlt
   have e4:phi P i = (P.R i).hi:=if_pos hlt
   rw [← enm] at r0
   rw [← ent] at r1
   rw [← e1,← ehl] at r2
   rw [← e2,← ehh] at r6
   rw [← e3] at hlo
   rw [← e4] at hhi
   replace r0:=kept_c hbw r0;replace r1:=kept_c hbw r1;replace r2:=kept_c hbw r2;replace r3:=kept_c hbw r3;replace r4:=kept_c hbw r4;replace r5:=kept_c hbw r5;replace r6:=kept_c hbw r6;replace r7:=kept_c hbw r7;replace r8:=kept_c hbw r8;replace r9:=kept_c hbw r9
   have HE:Hid (hl = phl P i∧hh = phh P i):=⟨ehl,ehh⟩
   have hkI2:(i:Int) * 10 = ((i * 10:Nat):Int):=by omega
   have hra':P.ra = some ⟨rb,ro,none⟩:=hra
   clear hew hR enm ent ehl ehh hra e1 e2 e3 e4
   have N:=box_new wr #[.string nmR,.slice ta nt tc,.bool hl,.bool pl,.slice al nl cl,.slice dl ml ll,.bool hh,.bool ph,.slice ah nh ch,.slice dh mh lh] 62
   have n2:=N 2 _ rfl;have n3:=N 3 _ rfl;have n4:=N 4 _ rfl;have n5:=N 5 _ rfl;have n6:=N 6 _ rfl;have n7:=N 7 _ rfl;have n8:=N 8 _ rfl;have n9:=N 9 _ rfl
   go_wp2_with fail
   have hz:=bel_d0 wr (.cells #[.string nmR,.slice ta nt tc,.bool hl,.bool pl,.slice al nl cl,.slice dl ml ll,.bool hh,.bool ph,.slice ah nh ch,.slice dh mh lh] 62)
   replace Pb:=Pb.below hz
   replace hbw:=bel_tr hbw hz
   clear r0 r1 r2 r3 r4 r5 r6 r7 r8 r9 hz N n2 n3 n4 n5 n6 n7 n8 n9
   generalize wr.alloc (.cells #[.string nmR,.slice ta nt tc,.bool hl,.bool pl,.slice al nl cl,.slice dl ml ll,.bool hh,.bool ph,.slice ah nh ch,.slice dh mh lh] 62) = W2 at *
   refine (crossLit (lo:=plo P (i)) (hi:=phi P (i)) (R:=P.K) W2 ((hlo.up hZi).below hbw) ((hhi.up hZi).below hbw) hK1 (by omega)).mono ?_
   rintro e w3 ⟨rfl,h3⟩
   have Pb3:=Pb.below h3
   have hbw3:=bel_tr hbw h3
   obtain ⟨b,eb⟩:∃ b,b = crB hl (plo P i) hh (phi P i):=⟨_,rfl⟩
   rw [← eb]
   have EB:Hid (b = crB (phl P i) (plo P i) (phh P i) (phi P i)):=by show b = _;rw [eb,HE.out.1,HE.out.2]
   clear eb h3 hbw Pb
   cases b
   ·have hno:¬ ∀ q,q < P.rn + P.vn→crB (phl P q) (plo P q) (phh P q) (phi P q) = true:=fun h=>by
     have h2:=h i (by omega)
     rw [← EB.out] at h2
     cases h2
    clear Pb3 EB
    go_wp2
    go_ret
    exact ⟨false,rfl,⟨fun h=>(by cases h),fun h=>absurd h hno⟩,hbw3⟩
   ·have I3:∀ q,q < i + 1→crB (phl P q) (plo P q) (phh P q) (phi P q) = true:=fun q hq=>by
     rcases (by omega:q < i∨q = i) with h | rfl
     ·exact I q h
     ·exact EB.out.symm
    clear EB I
    try rw [← hra']
    clear hra'
    go_wp2
    go_roundw
    case rel=>first | exact ⟨i + 1,by omega,by go_num,I3,Pb3,hbw3⟩ | ((repeat apply Exists.intro);refine ⟨?_,rfl⟩;exact ⟨i + 1,by omega,by go_num,I3,Pb3,hbw3⟩)
    case measure=>simp [intOf];omega
  ·have hkI:¬ (i:Int) < (P.rn:Int):=by omega
   obtain rfl:i = P.rn:=by omega
   have q5:=Pb 5 _ rfl
   go_wp2
   clear q5
   go_loopw [29] (fun s wr=>∃ (j:Nat),j≤P.vn∧s = .int .i64 j∧(∀ q,q < P.rn + j→crB (phl P q) (plo P q) (phh P q) (phi P q) = true)∧BoxC wr w.heap.size (#[.bool P.mx,.string P.nm,.bool P.p,.slice P.a P.na P.ca,.slice P.d P.nd P.cd,.slice P.va P.vn P.vc,.slice P.ra P.rn P.rc]).toList∧Below w.heap.size w wr) (fun t _=>P.vn - (intOf t).toNat)
   case atStart=>exact ⟨0,Nat.zero_le _,rfl,I,Pb,hbw⟩
   case round =>
    clear I Pb hbw
    obtain ⟨j,hj,rfl,I,Pb,hbw⟩:=hrel
    by_cases hlt:j < P.vn
    ·have hkI:(j:Int) < (P.vn:Int):=by omega
     rcases hP.v with h00 | ⟨bv,ov,hva,hev⟩
     ·omega
     have hV:=hev j hlt
     have hZi:P.ZV j≤P.K:=by have:=tot_le (Z:=P.ZV) hlt;omega
     have hK1:1≤P.K:=by have:=hV.s1;omega
     obtain ⟨nmV,enm⟩:∃ nmV,nmV = (P.V j).nm:=⟨_,rfl⟩
     obtain ⟨hl,ehl⟩:∃ hl,hl = phl P (P.rn + j):=⟨_,rfl⟩
     obtain ⟨hh,ehh⟩:∃ hh,hh = phh P (P.rn + j):=⟨_,rfl⟩
     obtain ⟨wh,ewh⟩:∃ wh,wh = (P.V j).whole:=⟨_,rfl⟩
     have r0:=hV.nm
     obtain ⟨pO,aO,nO,cO,dO,mO,lO,r1,r2,r3,_⟩:=hV.obj
     have r4:=hV.hlo
     obtain ⟨pl,al,nl,cl,dl,ml,ll,r5,r6,r7,hlo⟩:=hV.lo
     have r8:=hV.hhi
     obtain ⟨ph,ah,nh,ch,dh,mh,lh,r9,r10,r11,hhi⟩:=hV.hi
     have r12:=hV.whole
     have hno:¬ P.rn + j < P.rn:=by omega
     have e1:phl P (P.rn + j) = (P.V j).hlo:=by unfold phl;rw [if_neg hno,Nat.add_sub_cancel_left]
     have e2:phh P (P.rn + j) = (P.V j).hhi:=by unfold phh;rw [if_neg hno,Nat.add_sub_cancel_left]
     have e3:plo P (P.rn + j) = (P.V j).lo:=by unfold plo;rw [if_neg hno,Nat.add_sub_cancel_left]
     have e4:phi P (P.rn + j) = (P.V j).hi:=by unfold phi;rw [if_neg hno,Nat.add_sub_cancel_left]
     rw [← enm] at r0
     rw [← e1,← ehl] at r4
     rw [← e2,← ehh] at r8
     rw [← ewh] at r12
     rw [← e3] at hlo
     rw [← e4] at hhi
     replace r0:=kept_c hbw r0;replace r1:=kept_c hbw r1;replace r2:=kept_c hbw r2;replace r3:=kept_c hbw r3;replace r4:=kept_c hbw r4;replace r5:=kept_c hbw r5;replace r6:=kept_c hbw r6;replace r7:=kept_c hbw r7;replace r8:=kept_c hbw r8;replace r9:=kept_c hbw r9;replace r10:=kept_c hbw r10;replace r11:=kept_c hbw r11;replace r12:=kept_c hbw r12
     have HE:Hid (hl = phl P (P.rn + j)∧hh = phh P (P.rn + j)):=⟨ehl,ehh⟩
     have hkI2:(j:Int) * 13 = ((j * 13:Nat):Int):=by omega
     have hwr:IntKind.i64.wrap ((P.rn:Int) + (j:Int)) = (P.rn:Int) + (j:Int):=by rw [IntKind.wrap_i64];omega
     have hva':P.va = some ⟨bv,ov,none⟩:=hva
     have hz:=bel_d0 wr (.cells #[.string nmV,.bool pO,.slice aO nO cO,.slice dO mO lO,.bool hl,.bool pl,.slice al nl cl,.slice dl ml ll,.bool hh,.bool ph,.slice ah nh ch,.slice dh mh lh,.bool wh] 39)
     have q6:=(Pb.below hz) 6 _ rfl
     clear hev hV enm ehl ehh ewh hva e1 e2 e3 e4 hno
     go_wp2_with fail
     replace Pb:=Pb.below hz
     replace hbw:=bel_tr hbw hz
     clear r0 r1 r2 r3 r4 r5 r6 r7 r8 r9 r10 r11 r12 hz q6
     generalize wr.alloc (.cells #[.string nmV,.bool pO,.slice aO nO cO,.slice dO mO lO,.bool hl,.bool pl,.slice al nl cl,.slice dl ml ll,.bool hh,.bool ph,.slice ah nh ch,.slice dh mh lh,.bool wh] 39) = W2 at *
     refine (crossLit (lo:=plo P (P.rn + j)) (hi:=phi P (P.rn + j)) (R:=P.K) W2 ((hlo.up hZi).below hbw) ((hhi.up hZi).below hbw) hK1 (by omega)).mono ?_
     rintro e w3 ⟨rfl,h3⟩
     have Pb3:=Pb.below h3
     have hbw3:=bel_tr hbw h3
     obtain ⟨b,eb⟩:∃ b,b = crB hl (plo P (P.rn + j)) hh (phi P (P.rn + j)):=⟨_,rfl⟩
     rw [← eb]
     have EB:Hid (b = crB (phl P (P.rn + j)) (plo P (P.rn + j)) (phh P (P.rn + j)) (phi P (P.rn + j))):=by show b = _;rw [eb,HE.out.1,HE.out.2]
     clear eb h3 hbw Pb
     cases b
     ·have hno:¬ ∀ q,q < P.rn + P.vn→crB (phl P q) (plo P q) (phh P q) (phi P q) = true:=fun h=>by
       have h2:=h (P.rn + j) (by omega)
       rw [← EB.out] at h2
       cases h2
      clear Pb3 EB
      go_wp2
      go_ret
      exact ⟨false,rfl,⟨fun h=>(by cases h),fun h=>absurd h hno⟩,hbw3⟩
     ·have I3:∀ q,q < P.rn + (j + 1)→crB (phl P q) (plo P q) (phh P q) (phi P q) = true:=fun q hq=>by
       rcases (by omega:q < P.rn + j∨q = P.rn + j) with h | rfl
       ·exact I q h
       ·exact EB.out.symm
      clear EB I
      try rw [← hva']
      clear hva'
      go_wp2
      go_roundw
      case rel=>first | exact ⟨j + 1,by omega,by go_num,I3,Pb3,hbw3⟩ | ((repeat apply Exists.intro);refine ⟨?_,rfl⟩;exact ⟨j + 1,by omega,by go_num,I3,Pb3,hbw3⟩)
      case measure=>simp [intOf];omega
    ·have hkI:¬ (j:Int) < (P.vn:Int):=by omega
     obtain rfl:j = P.vn:=by omega
     clear Pb
     go_wp2
     go_ret
     exact .inr ⟨rfl,I,hbw⟩
set_option maxRecDepth 100000 in
set_option maxHeartbeats 16000000 in
theorem allK (P:Prob) {bm:Nat} {ma:Option Addr} {mc:Nat} {M:Nat→Rat} {Sm:Nat} (w:World) (hP:PQ w P) (hK:P.K≤1048576) (hm:w.cell? ⟨bm,0,none⟩ = some (.slice ma (P.rn + P.vn) mc)) (hM:LQ w ma (P.rn + P.vn) M (fun _=>Sm)) (hSm:1≤Sm) (hS9:Sm≤9000000) :
  Calls Tryz.prog 28 #[P.val,.func (.func 72) #[] #[.pointer (some ⟨bm,0,none⟩)]] w fun e w'=>∃ b,e = .returned (.bool b)∧(b = true↔∀ q,q < P.rn + P.vn→kpB (M q) (phl P q) (phh P q) = true)∧Below w.heap.size w w':=by
 have hall:=hP.all
 have hrn:P.rn≤1048576:=by have:=tot_len P.ZR P.rn;omega
 have hvn:P.vn≤1048576:=by have:=tot_len P.ZV P.vn;omega
 unfold Prob.val
 have Pb:=box_new w #[.bool P.mx,.string P.nm,.bool P.p,.slice P.a P.na P.ca,.slice P.d P.nd P.cd,.slice P.va P.vn P.vc,.slice P.ra P.rn P.rc] 32
 have hz:=bel_d0 w (.cells #[.bool P.mx,.string P.nm,.bool P.p,.slice P.a P.na P.ca,.slice P.d P.nd P.cd,.slice P.va P.vn P.vc,.slice P.ra P.rn P.rc] 32)
 have hsA:w.heap.size + 1≤(w.alloc (.cells #[.bool P.mx,.string P.nm,.bool P.p,.slice P.a P.na P.ca,.slice P.d P.nd P.cd,.slice P.va P.vn P.vc,.slice P.ra P.rn P.rc] 32)).heap.size:=by simp
 go_enter Tryz.func28,Tryz.ntmps28
 go_wp2
 generalize w.alloc (.cells #[.bool P.mx,.string P.nm,.bool P.p,.slice P.a P.na P.ca,.slice P.d P.nd P.cd,.slice P.va P.vn P.vc,.slice P.ra P.rn P.rc] 32) = W0 at *
 go_loopw [12] (fun s wr=>∃ (i:Nat),i≤P.rn∧s = .int .i64 i∧(∀ q,q < i→kpB (M q) (phl P q) (phh P q) = true)∧BoxC wr w.heap.size (#[.bool P.mx,.string P.nm,.bool P.p,.slice P.a P.na P.ca,.slice P.d P.nd P.cd,.slice P.va P.vn P.vc,.slice P.ra P.rn P.rc]).toList∧Below w.heap.size w wr) (fun t _=>P.rn - (intOf t).toNat)
 case atStart=>exact ⟨0,Nat.zero_le _,rfl,fun q hq=>by omega,Pb,hz⟩
 case round =>
  clear Pb hz hsA
  obtain ⟨i,hi,rfl,I,Pb,hbw⟩:=hrel
  by_cases hlt:i < P.rn
  ·have hkI:(i:Int) < (P.rn:Int):=by omega
   rcases hP.r with h00 | ⟨rb,ro,hra,hew⟩
   ·omega
   have hR:=hew i hlt
   have hZi:P.ZR i≤P.K:=by have:=tot_le (Z:=P.ZR) hlt;omega
   have hK1:1≤P.K:=by have:=hR.s1;omega
   obtain ⟨nmR,enm⟩:∃ nmR,nmR = (P.R i).nm:=⟨_,rfl⟩
   obtain ⟨nt,ent⟩:∃ nt,nt = (P.R i).nt:=⟨_,rfl⟩
   obtain ⟨hl,ehl⟩:∃ hl,hl = phl P i:=⟨_,rfl⟩
   obtain ⟨hh,ehh⟩:∃ hh,hh = phh P i:=⟨_,rfl⟩
   have r0:=hR.nm
   obtain ⟨ta,tc,Zt,r1,_,_,_⟩:=hR.terms
   have r2:=hR.hlo
   obtain ⟨pl,al,nl,cl,dl,ml,ll,r3,r4,r5,hlo⟩:=hR.lo
   have r6:=hR.hhi
   obtain ⟨ph,ah,nh,ch,dh,mh,lh,r7,r8,r9,hhi⟩:=hR.hi
   have e1:phl P i = (P.R i).hlo:=if_pos hlt
   have e2:phh P i = (P.R i).hhi:=if_pos hlt
   have e3:plo P i = (P.R i).lo:=if_pos hlt
   have e4:phi P i = (P.R i).hi:=if_pos hlt
   rw [← enm] at r0
   rw [← ent] at r1
   rw [← e1,← ehl] at r2
   rw [← e2,← ehh] at r6
   rw [← e3] at hlo
   rw [← e4] at hhi
   replace r0:=kept_c hbw r0;replace r1:=kept_c hbw r1;replace r2:=kept_c hbw r2;replace r3:=kept_c hbw r3;replace r4:=kept_c hbw r4;replace r5:=kept_c hbw r5;replace r6:=kept_c hbw r6;replace r7:=kept_c hbw r7;replace r8:=kept_c hbw r8;replace r9:=kept_c hbw r9
   have HE:Hid (hl = phl P i∧hh = phh P i):=⟨ehl,ehh⟩
   have hkI2:(i:Int) * 10 = ((i * 10:Nat):Int):=by omega
   have hra':P.ra = some ⟨rb,ro,none⟩:=hra
   clear hew hR enm ent ehl ehh hra e1 e2 e3 e4
   have N:=box_new wr #[.string nmR,.slice ta nt tc,.bool hl,.bool pl,.slice al nl cl,.slice dl ml ll,.bool hh,.bool ph,.slice ah nh ch,.slice dh mh lh] 62
   have n2:=N 2 _ rfl;have n3:=N 3 _ rfl;have n4:=N 4 _ rfl;have n5:=N 5 _ rfl;have n6:=N 6 _ rfl;have n7:=N 7 _ rfl;have n8:=N 8 _ rfl;have n9:=N 9 _ rfl
   go_wp2_with fail
   have hz:=bel_d0 wr (.cells #[.string nmR,.slice ta nt tc,.bool hl,.bool pl,.slice al nl cl,.slice dl ml ll,.bool hh,.bool ph,.slice ah nh ch,.slice dh mh lh] 62)
   replace Pb:=Pb.below hz
   replace hbw:=bel_tr hbw hz
   clear r0 r1 r2 r3 r4 r5 r6 r7 r8 r9 hz N n2 n3 n4 n5 n6 n7 n8 n9
   generalize wr.alloc (.cells #[.string nmR,.slice ta nt tc,.bool hl,.bool pl,.slice al nl cl,.slice dl ml ll,.bool hh,.bool ph,.slice ah nh ch,.slice dh mh lh] 62) = W2 at *
   refine (keepLit (q:=i) W2 rfl (kept_c hbw hm) (hM.below hbw) (by omega) hSm hS9).mono ?_
   rintro e w3 ⟨rfl,h3⟩
   have Pb3:=Pb.below h3
   have hbw3:=bel_tr hbw h3
   obtain ⟨b,eb⟩:∃ b,b = kpB (M i) hl hh:=⟨_,rfl⟩
   rw [← eb]
   have EB:Hid (b = kpB (M i) (phl P i) (phh P i)):=by show b = _;rw [eb,HE.out.1,HE.out.2]
   clear eb h3 hbw Pb
   cases b
   ·have hno:¬ ∀ q,q < P.rn + P.vn→kpB (M q) (phl P q) (phh P q) = true:=fun h=>by
     have h2:=h i (by omega)
     rw [← EB.out] at h2
     cases h2
    clear Pb3 EB
    go_wp2
    go_ret
    exact ⟨false,rfl,⟨fun h=>(by cases h),fun h=>absurd h hno⟩,hbw3⟩
   ·have I3:∀ q,q < i + 1→kpB (M q) (phl P q) (phh P q) = true:=fun q hq=>by
     rcases (by omega:q < i∨q = i) with h | rfl
     ·exact I q h
     ·exact EB.out.symm
    clear EB I
    try rw [← hra']
    clear hra'
    go_wp2
    go_roundw
    case rel=>first | exact ⟨i + 1,by omega,by go_num,I3,Pb3,hbw3⟩ | ((repeat apply Exists.intro);refine ⟨?_,rfl⟩;exact ⟨i + 1,by omega,by go_num,I3,Pb3,hbw3⟩)
    case measure=>simp [intOf];omega
  ·have hkI:¬ (i:Int) < (P.rn:Int):=by omega
   obtain rfl:i = P.rn:=by omega
   have q5:=Pb 5 _ rfl
   go_wp2
   clear q5
   go_loopw [29] (fun s wr=>∃ (j:Nat),j≤P.vn∧s = .int .i64 j∧(∀ q,q < P.rn + j→kpB (M q) (phl P q) (phh P q) = true)∧BoxC wr w.heap.size (#[.bool P.mx,.string P.nm,.bool P.p,.slice P.a P.na P.ca,.slice P.d P.nd P.cd,.slice P.va P.vn P.vc,.slice P.ra P.rn P.rc]).toList∧Below w.heap.size w wr) (fun t _=>P.vn - (intOf t).toNat)
   case atStart=>exact ⟨0,Nat.zero_le _,rfl,I,Pb,hbw⟩
   case round =>
    clear I Pb hbw
    obtain ⟨j,hj,rfl,I,Pb,hbw⟩:=hrel
    by_cases hlt:j < P.vn
    ·have hkI:(j:Int) < (P.vn:Int):=by omega
     rcases hP.v with h00 | ⟨bv,ov,hva,hev⟩
     ·omega
     have hV:=hev j hlt
     have hZi:P.ZV j≤P.K:=by have:=tot_le (Z:=P.ZV) hlt;omega
     have hK1:1≤P.K:=by have:=hV.s1;omega
     obtain ⟨nmV,enm⟩:∃ nmV,nmV = (P.V j).nm:=⟨_,rfl⟩
     obtain ⟨hl,ehl⟩:∃ hl,hl = phl P (P.rn + j):=⟨_,rfl⟩
     obtain ⟨hh,ehh⟩:∃ hh,hh = phh P (P.rn + j):=⟨_,rfl⟩
     obtain ⟨wh,ewh⟩:∃ wh,wh = (P.V j).whole:=⟨_,rfl⟩
     have r0:=hV.nm
     obtain ⟨pO,aO,nO,cO,dO,mO,lO,r1,r2,r3,_⟩:=hV.obj
     have r4:=hV.hlo
     obtain ⟨pl,al,nl,cl,dl,ml,ll,r5,r6,r7,hlo⟩:=hV.lo
     have r8:=hV.hhi
     obtain ⟨ph,ah,nh,ch,dh,mh,lh,r9,r10,r11,hhi⟩:=hV.hi
     have r12:=hV.whole
     have hno:¬ P.rn + j < P.rn:=by omega
     have e1:phl P (P.rn + j) = (P.V j).hlo:=by unfold phl;rw [if_neg hno,Nat.add_sub_cancel_left]
     have e2:phh P (P.rn + j) = (P.V j).hhi:=by unfold phh;rw [if_neg hno,Nat.add_sub_cancel_left]
     have e3:plo P (P.rn + j) = (P.V j).lo:=by unfold plo;rw [if_neg hno,Nat.add_sub_cancel_left]
     have e4:phi P (P.rn + j) = (P.V j).hi:=by unfold phi;rw [if_neg hno,Nat.add_sub_cancel_left]
     rw [← enm] at r0
     rw [← e1,← ehl] at r4
     rw [← e2,← ehh] at r8
     rw [← ewh] at r12
     rw [← e3] at hlo
     rw [← e4] at hhi
     replace r0:=kept_c hbw r0;replace r1:=kept_c hbw r1;replace r2:=kept_c hbw r2;replace r3:=kept_c hbw r3;replace r4:=kept_c hbw r4;replace r5:=kept_c hbw r5;replace r6:=kept_c hbw r6;replace r7:=kept_c hbw r7;replace r8:=kept_c hbw r8;replace r9:=kept_c hbw r9;replace r10:=kept_c hbw r10;replace r11:=kept_c hbw r11;replace r12:=kept_c hbw r12
     have HE:Hid (hl = phl P (P.rn + j)∧hh = phh P (P.rn + j)):=⟨ehl,ehh⟩
     have hkI2:(j:Int) * 13 = ((j * 13:Nat):Int):=by omega
     have hwr:IntKind.i64.wrap ((P.rn:Int) + (j:Int)) = (P.rn:Int) + (j:Int):=by rw [IntKind.wrap_i64];omega
     have hva':P.va = some ⟨bv,ov,none⟩:=hva
     have hz:=bel_d0 wr (.cells #[.string nmV,.bool pO,.slice aO nO cO,.slice dO mO lO,.bool hl,.bool pl,.slice al nl cl,.slice dl ml ll,.bool hh,.bool ph,.slice ah nh ch,.slice dh mh lh,.bool wh] 39)
     have q6:=(Pb.below hz) 6 _ rfl
     clear hev hV enm ehl ehh ewh hva e1 e2 e3 e4 hno
     go_wp2_with fail
     replace Pb:=Pb.below hz
     replace hbw:=bel_tr hbw hz
     clear r0 r1 r2 r3 r4 r5 r6 r7 r8 r9 r10 r11 r12 hz q6
     generalize wr.alloc (.cells #[.string nmV,.bool pO,.slice aO nO cO,.slice dO mO lO,.bool hl,.bool pl,.slice al nl cl,.slice dl ml ll,.bool hh,.bool ph,.slice ah nh ch,.slice dh mh lh,.bool wh] 39) = W2 at *
     refine (keepLit (q:=P.rn + j) W2 (by simp) (kept_c hbw hm) (hM.below hbw) (by omega) hSm hS9).mono ?_
     rintro e w3 ⟨rfl,h3⟩
     have Pb3:=Pb.below h3
     have hbw3:=bel_tr hbw h3
     obtain ⟨b,eb⟩:∃ b,b = kpB (M (P.rn + j)) hl hh:=⟨_,rfl⟩
     rw [← eb]
     have EB:Hid (b = kpB (M (P.rn + j)) (phl P (P.rn + j)) (phh P (P.rn + j))):=by show b = _;rw [eb,HE.out.1,HE.out.2]
     clear eb h3 hbw Pb
     cases b
     ·have hno:¬ ∀ q,q < P.rn + P.vn→kpB (M q) (phl P q) (phh P q) = true:=fun h=>by
       have h2:=h (P.rn + j) (by omega)
       rw [← EB.out] at h2
       cases h2
      clear Pb3 EB
      go_wp2
      go_ret
      exact ⟨false,rfl,⟨fun h=>(by cases h),fun h=>absurd h hno⟩,hbw3⟩
     ·have I3:∀ q,q < P.rn + (j + 1)→kpB (M q) (phl P q) (phh P q) = true:=fun q hq=>by
       rcases (by omega:q < P.rn + j∨q = P.rn + j) with h | rfl
       ·exact I q h
       ·exact EB.out.symm
      clear EB I
      try rw [← hva']
      clear hva'
      go_wp2
      go_roundw
      case rel=>first | exact ⟨j + 1,by omega,by go_num,I3,Pb3,hbw3⟩ | ((repeat apply Exists.intro);refine ⟨?_,rfl⟩;exact ⟨j + 1,by omega,by go_num,I3,Pb3,hbw3⟩)
      case measure=>simp [intOf];omega
    ·have hkI:¬ (j:Int) < (P.vn:Int):=by omega
     obtain rfl:j = P.vn:=by omega
     clear Pb
     go_wp2
     go_ret
     exact .inr ⟨rfl,I,hbw⟩
end Go.Proofs.YtjapbhdoemfgkaaGreatDoor

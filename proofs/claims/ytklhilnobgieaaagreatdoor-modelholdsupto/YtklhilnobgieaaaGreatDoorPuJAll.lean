import Derived.Test.YtklhilnobgieaaaGreatDoorPuAAll
import Derived.Test.YtklhilnobgieaaaGreatDoorPqDAll
import Derived.Test.YtklhilnobgieaaaGreatDoorPtGAll
import Derived.Test.YtklhilnobgieaaaGreatDoorPqGAll
import Derived.Test.YtklhilnobgieaaaGreatDoorPuF
import Derived.Test.YtklhilnobgieaaaGreatDoorPuG
import Derived.Test.YtklhilnobgieaaaGreatDoorPuH
import Derived.Test.YtklhilnobgieaaaGreatDoorPrTAll
namespace Go.Proofs.YtklhilnobgieaaaGreatDoor
open Go.RowKit
theorem tv_xn (r:PW) (X:Nat→Rat) (n m k:Nat):tv r (xn X n) m k = tv r X (min n m) k:=by
 unfold tv xn
 by_cases h:0≤(r.t k).var∧(r.t k).var < (m:Int)
 ·rw [if_pos h]
  by_cases h2:(r.t k).var.toNat < n
  ·rw [if_pos h2,if_pos ⟨h.1,by omega⟩]
  ·rw [if_neg h2,if_neg (by omega),Rat.mul_zero]
 ·rw [if_neg h,if_neg (by omega)]
theorem cv_xn (r:PW) (X:Nat→Rat) (m:Nat):cv r (xn X m) m = cv r X m:=by
 unfold cv
 exact rsum_congr fun k _=>by rw [tv_xn,Nat.min_self]
set_option maxRecDepth 100000 in
set_option maxHeartbeats 16000000 in
theorem holdsD (P:Prob) {xa:Option Addr} {n xc:Nat} {X:Nat→Rat} {Z:Nat→Nat} {S T U:Nat} (w:World) (hP:PQ w P) (hx:LQ w xa n X Z) (hz:∀ j,j < n→1≤Z j∧Z j≤U) (hU:1≤U∧U≤4900000) (hS:∀ i,i < P.rn→P.ZR i+U≤S) (hST:T+S≤5999999) (hT2:1≤T∧T≤4900000) (hK:P.K≤1048576)
  (hsz:∀ i k,i < P.rn→k≤(P.R i).nt→SzR (rsum (tv (P.R i) (xn X n) P.vn) k) T) :
  Calls Tryz.prog 22 #[P.val,.slice xa n xc] w fun e w'=>∃ b,e = .returned (.bool b)∧(b = true↔Hlds P n X)∧Below w.heap.size w w':=by
 have HSUM:=fun w1 (hb:Below w.heap.size w w1)=>sumsD (xc:=xc) P w1 (hP.below hb) (hx.below hb) hz ⟨hU.1,by omega⟩ hS hST hT2.1 hK hsz
 have HZ0:Hid (∀ j,j < n→1≤Z j∧Z j≤U):=hz
 have hrn:P.rn≤1048576:=by have:=hP.all;have:=tot_len P.ZR P.rn;omega
 have hvn:P.vn≤1048576:=by have:=hP.all;have:=tot_len P.ZV P.vn;omega
 clear hsz hz hS
 unfold Prob.val
 have Pb:=box_new w #[.bool P.mx,.string P.nm,.bool P.p,.slice P.a P.na P.ca,.slice P.d P.nd P.cd,.slice P.va P.vn P.vc,.slice P.ra P.rn P.rc] 31
 have hb:=bel_d0 w (.cells #[.bool P.mx,.string P.nm,.bool P.p,.slice P.a P.na P.ca,.slice P.d P.nd P.cd,.slice P.va P.vn P.vc,.slice P.ra P.rn P.rc] 31)
 by_cases hnv:n = P.vn
 ·subst hnv
  have p5:=Pb 5 _ rfl
  go_enter Tryz.func22,Tryz.ntmps22
  go_wp2
  generalize w.alloc (.cells #[.bool P.mx,.string P.nm,.bool P.p,.slice P.a P.na P.ca,.slice P.d P.nd P.cd,.slice P.va P.vn P.vc,.slice P.ra P.rn P.rc] 31) = W at *
  clear p5
  go_loopw [5] (fun s5 wr=>∃ (i:Nat),i≤P.vn∧s5 = .int .i64 i∧(∀ j,j < i→wthn (X j) (P.V j).hlo (P.V j).lo (P.V j).hhi (P.V j).hi = true)∧Below w.heap.size w wr∧Below W.heap.size W wr) (fun s5 _=>P.vn - (intOf s5).toNat)
  case atStart=>exact ⟨0,Nat.zero_le _,rfl,fun j hj=>by omega,hb,Below.refl _ _⟩
  case round =>
   obtain ⟨i,hi,rfl,HY,hbel,hbw⟩:=hrel
   have qb:=(Pb.below hbw) 5 _ rfl
   by_cases hlt:i < P.vn
   ·have hkI:(i:Int) < (P.vn:Int):=by omega
    rcases (hx.below hbel) with h0 | ⟨bx,ox,rfl,helx⟩
    ·omega
    obtain ⟨pA,aA,nA,cA,dA,mA,lA,c0,c1,c2,hA⟩:=helx i (by omega)
    rcases (hP.v.below hbel) with h0 | ⟨bv,ov,hva,hev⟩
    ·omega
    have hV:=hev i hlt
    have hZi:P.ZV i≤1048576:=by have:=tot_le (Z:=P.ZV) hlt;have:=hP.all;omega
    obtain ⟨hzi1,hzi2⟩:=HZ0.out i (by omega)
    have hs1v:=hV.s1
    obtain ⟨hl,ehl⟩:∃ hl,hl = (P.V i).hlo:=⟨_,rfl⟩
    obtain ⟨hh,ehh⟩:∃ hh,hh = (P.V i).hhi:=⟨_,rfl⟩
    have y0:=hV.hlo
    obtain ⟨pl,al,nl,cl,dl,ml,ll,y1,y2,y3,hlo⟩:=hV.lo
    have y4:=hV.hhi
    obtain ⟨ph,ah,nh,ch,dh,mh,lh,y5,y6,y7,hhi⟩:=hV.hi
    rw [← ehl] at y0
    rw [← ehh] at y4
    have HE:Hid (hl = (P.V i).hlo∧hh = (P.V i).hhi):=⟨ehl,ehh⟩
    have hkI2:(i:Int)*13 = ((i*13:Nat):Int):=by omega
    have hkI3:(i:Int)*3 = ((i*3:Nat):Int):=by omega
    obtain ⟨bq,ebq⟩:∃ bq,bq = wthn (X i) hl (P.V i).lo hh (P.V i).hi:=⟨_,rfl⟩
    have HWI:∀ w2,Below wr.heap.size wr w2→Calls Tryz.prog 45 #[.agg #[.bool pA,.slice aA nA cA,.slice dA mA lA],.agg #[.bool hl,.bool pl,.slice al nl cl,.slice dl ml ll],.agg #[.bool hh,.bool ph,.slice ah nh ch,.slice dh mh lh]] w2 fun e w'=>e = .returned (.bool bq)∧Below w2.heap.size w2 w':=fun w2 h2=>by
     rw [ebq]
     exact withinD (lo:=(P.V i).lo) (hi:=(P.V i).hi) (R:=P.ZV i) w2 (hA.below h2) (hlo.below h2) (hhi.below h2) (by omega) (by omega) (by omega)
    have EB:Hid (bq = wthn (X i) hl (P.V i).lo hh (P.V i).hi):=ebq
    rw [hva] at qb
    clear hev hV ehl ehh hva helx ebq hA hlo hhi
    have HBX:∀ w',Below wr.heap.size wr w'→(w'.cell? ⟨bx,ox+i*3,none⟩ = some (.bool pA)∧w'.cell? ⟨bx,ox+i*3+1,none⟩ = some (.slice aA nA cA)∧w'.cell? ⟨bx,ox+i*3+2,none⟩ = some (.slice dA mA lA)∧w'.cell? ⟨w.heap.size,5,none⟩ = some (.slice (some ⟨bv,ov,none⟩) P.vn P.vc)∧w'.cell? ⟨bv,ov+i*13+4,none⟩ = some (.bool hl)∧w'.cell? ⟨bv,ov+i*13+4+1,none⟩ = some (.bool pl)∧w'.cell? ⟨bv,ov+i*13+4+2,none⟩ = some (.slice al nl cl)∧w'.cell? ⟨bv,ov+i*13+4+3,none⟩ = some (.slice dl ml ll)∧w'.cell? ⟨bv,ov+i*13+8,none⟩ = some (.bool hh)∧w'.cell? ⟨bv,ov+i*13+8+1,none⟩ = some (.bool ph)∧w'.cell? ⟨bv,ov+i*13+8+2,none⟩ = some (.slice ah nh ch)∧w'.cell? ⟨bv,ov+i*13+8+3,none⟩ = some (.slice dh mh lh)):=fun w' h=>⟨kept_c h c0,kept_c h c1,kept_c h c2,kept_c h qb,kept_c h y0,kept_c h y1,kept_c h y2,kept_c h y3,kept_c h y4,kept_c h y5,kept_c h y6,kept_c h y7⟩
    clear y0 y1 y2 y3 y4 y5 y6 y7 c0 c1 c2
    go_wp2_with fail
    refine wp_region_noPanic (wp_region_guardB HBX (by as_aux_lemma=>kernel_rfl) ?_)
    have hc0:Below wr.heap.size wr wr.drew:=bel_d1 _
    generalize wr.drew = z0 at *
    refine wpAnyG.tA 0 (v:=.slice (some ⟨bx,ox,none⟩) P.vn xc) (by decide) 17 (by as_aux_lemma=>kernel_rfl) (by rfl) ?y0 (HBX _ hc0) ?_
    case y0 =>
     rintro w' ⟨f0,f1,f2,f3,f4,f5,f6,f7,f8,f9,f10,f11⟩
     simp only [lgA,lgZ]
     go_simp
    simp only [lgA,lgZ,Act.put,lsA,lsZ,lsS]
    refine wpAnyG.tA 1 (v:=.int .i64 (i:Int)) (by decide) 17 (by as_aux_lemma=>kernel_rfl) (by rfl) ?y1 (HBX _ hc0) ?_
    case y1 =>
     rintro w' ⟨f0,f1,f2,f3,f4,f5,f6,f7,f8,f9,f10,f11⟩
     simp only [lgA,lgZ,lgS]
     go_simp
    simp only [lgA,lgZ,lgS,Act.put,lsA,lsZ,lsS]
    refine wpAnyG.tA 2 (v:=.pointer (some ⟨bx,ox+i*3,none⟩)) (by decide) 17 (by as_aux_lemma=>kernel_rfl) (by rfl) ?y2 (HBX _ hc0) ?_
    case y2 =>
     rintro w' ⟨f0,f1,f2,f3,f4,f5,f6,f7,f8,f9,f10,f11⟩
     simp only [lgA,lgZ,lgS]
     go_simp
    simp only [lgA,lgZ,lgS,Act.put,lsA,lsZ,lsS]
    refine wpAnyG.tA 3 (v:=.agg #[.bool pA,.slice aA nA cA,.slice dA mA lA]) (by decide) 17 (by as_aux_lemma=>kernel_rfl) (by rfl) ?y3 (HBX _ hc0) ?_
    case y3 =>
     rintro w' ⟨f0,f1,f2,f3,f4,f5,f6,f7,f8,f9,f10,f11⟩
     simp only [lgA,lgZ,lgS]
     go_simp
    simp only [lgA,lgZ,lgS,Act.put,lsA,lsZ,lsS]
    refine wpAnyG.tA 4 (v:=.pointer (some ⟨w.heap.size,5,none⟩)) (by decide) 17 (by as_aux_lemma=>kernel_rfl) (by rfl) ?y4 (HBX _ hc0) ?_
    case y4 =>
     rintro w' ⟨f0,f1,f2,f3,f4,f5,f6,f7,f8,f9,f10,f11⟩
     simp only [lgA,lgZ,lgS]
     go_simp
    simp only [lgA,lgZ,lgS,Act.put,lsA,lsZ,lsS]
    refine wpAnyG.tA 5 (v:=.slice (some ⟨bv,ov,none⟩) P.vn P.vc) (by decide) 17 (by as_aux_lemma=>kernel_rfl) (by rfl) ?y5 (HBX _ hc0) ?_
    case y5 =>
     rintro w' ⟨f0,f1,f2,f3,f4,f5,f6,f7,f8,f9,f10,f11⟩
     simp only [lgA,lgZ,lgS]
     go_simp
    simp only [lgA,lgZ,lgS,Act.put,lsA,lsZ,lsS]
    refine wpAnyG.tA 6 (v:=.int .i64 (i:Int)) (by decide) 17 (by as_aux_lemma=>kernel_rfl) (by rfl) ?y6 (HBX _ hc0) ?_
    case y6 =>
     rintro w' ⟨f0,f1,f2,f3,f4,f5,f6,f7,f8,f9,f10,f11⟩
     simp only [lgA,lgZ,lgS]
     go_simp
    simp only [lgA,lgZ,lgS,Act.put,lsA,lsZ,lsS]
    refine wpAnyG.tA 7 (v:=.pointer (some ⟨bv,ov+i*13,none⟩)) (by decide) 17 (by as_aux_lemma=>kernel_rfl) (by rfl) ?y7 (HBX _ hc0) ?_
    case y7 =>
     rintro w' ⟨f0,f1,f2,f3,f4,f5,f6,f7,f8,f9,f10,f11⟩
     simp only [lgA,lgZ,lgS]
     go_simp
    simp only [lgA,lgZ,lgS,Act.put,lsA,lsZ,lsS]
    refine wpAnyG.tA 8 (v:=.pointer (some ⟨bv,ov+i*13+4,none⟩)) (by decide) 17 (by as_aux_lemma=>kernel_rfl) (by rfl) ?y8 (HBX _ hc0) ?_
    case y8 =>
     rintro w' ⟨f0,f1,f2,f3,f4,f5,f6,f7,f8,f9,f10,f11⟩
     simp only [lgA,lgZ,lgS]
     go_simp
    simp only [lgA,lgZ,lgS,Act.put,lsA,lsZ,lsS]
    refine wpAnyG.tA 9 (v:=.agg #[.bool hl,.bool pl,.slice al nl cl,.slice dl ml ll]) (by decide) 17 (by as_aux_lemma=>kernel_rfl) (by rfl) ?y9 (HBX _ hc0) ?_
    case y9 =>
     rintro w' ⟨f0,f1,f2,f3,f4,f5,f6,f7,f8,f9,f10,f11⟩
     simp only [lgA,lgZ,lgS]
     go_simp
    simp only [lgA,lgZ,lgS,Act.put,lsA,lsZ,lsS]
    refine wpAnyG.tA 10 (v:=.pointer (some ⟨w.heap.size,5,none⟩)) (by decide) 17 (by as_aux_lemma=>kernel_rfl) (by rfl) ?y10 (HBX _ hc0) ?_
    case y10 =>
     rintro w' ⟨f0,f1,f2,f3,f4,f5,f6,f7,f8,f9,f10,f11⟩
     simp only [lgA,lgZ,lgS]
     go_simp
    simp only [lgA,lgZ,lgS,Act.put,lsA,lsZ,lsS]
    refine wpAnyG.tA 11 (v:=.slice (some ⟨bv,ov,none⟩) P.vn P.vc) (by decide) 17 (by as_aux_lemma=>kernel_rfl) (by rfl) ?y11 (HBX _ hc0) ?_
    case y11 =>
     rintro w' ⟨f0,f1,f2,f3,f4,f5,f6,f7,f8,f9,f10,f11⟩
     simp only [lgA,lgZ,lgS]
     go_simp
    simp only [lgA,lgZ,lgS,Act.put,lsA,lsZ,lsS]
    refine wpAnyG.tA 12 (v:=.int .i64 (i:Int)) (by decide) 17 (by as_aux_lemma=>kernel_rfl) (by rfl) ?y12 (HBX _ hc0) ?_
    case y12 =>
     rintro w' ⟨f0,f1,f2,f3,f4,f5,f6,f7,f8,f9,f10,f11⟩
     simp only [lgA,lgZ,lgS]
     go_simp
    simp only [lgA,lgZ,lgS,Act.put,lsA,lsZ,lsS]
    refine wpAnyG.tA 13 (v:=.pointer (some ⟨bv,ov+i*13,none⟩)) (by decide) 17 (by as_aux_lemma=>kernel_rfl) (by rfl) ?y13 (HBX _ hc0) ?_
    case y13 =>
     rintro w' ⟨f0,f1,f2,f3,f4,f5,f6,f7,f8,f9,f10,f11⟩
     simp only [lgA,lgZ,lgS]
     go_simp
    simp only [lgA,lgZ,lgS,Act.put,lsA,lsZ,lsS]
    refine wpAnyG.tA 14 (v:=.pointer (some ⟨bv,ov+i*13+8,none⟩)) (by decide) 17 (by as_aux_lemma=>kernel_rfl) (by rfl) ?y14 (HBX _ hc0) ?_
    case y14 =>
     rintro w' ⟨f0,f1,f2,f3,f4,f5,f6,f7,f8,f9,f10,f11⟩
     simp only [lgA,lgZ,lgS]
     go_simp
    simp only [lgA,lgZ,lgS,Act.put,lsA,lsZ,lsS]
    refine wpAnyG.tA 15 (v:=.agg #[.bool hh,.bool ph,.slice ah nh ch,.slice dh mh lh]) (by decide) 17 (by as_aux_lemma=>kernel_rfl) (by rfl) ?y15 (HBX _ hc0) ?_
    case y15 =>
     rintro w' ⟨f0,f1,f2,f3,f4,f5,f6,f7,f8,f9,f10,f11⟩
     simp only [lgA,lgZ,lgS]
     go_simp
    simp only [lgA,lgZ,lgS,Act.put,lsA,lsZ,lsS]
    refine wpAnyG.one 16 (by as_aux_lemma=>kernel_rfl) (by decide) (by rfl) (fun K hK=>?_)
    simp only [lgA,lgZ,lgS]
    go_simp
    refine (HWI z0 hc0).mono ?_
    rintro e z1 ⟨rfl,hk1⟩
    have hc1:Below wr.heap.size wr z1:=bel_tr hc0 hk1
    dsimp only
    refine hK _ _ (HBX _ hc1) ?_
    clear hK K
    refine wpAnyG.one 17 (by as_aux_lemma=>kernel_rfl) (by decide) (by rfl) (fun K hK=>?_)
    simp only [lgA,lgZ,lgS]
    go_simp
    refine hK _ _ (HBX _ hc1) ?_
    clear hK K
    refine wpAnyG.done (by as_aux_lemma=>kernel_rfl) (NoPanic.normal ?_)
    replace hbel:=bel_tr hbel hc1
    replace hbw:=bel_tr hbw hc1
    clear HBX HWI hk1 hc0 hc1 qb
    cases bq
    ·go_wp2
     go_ret
     refine ⟨false,rfl,⟨(fun h=>by cases h),fun h=>?_⟩,hbel⟩
     have h2:=h.2.1 i hlt
     rw [← HE.out.1,← HE.out.2,← EB.out] at h2
     cases h2
    ·have HY':∀ j,j < i+1→wthn (X j) (P.V j).hlo (P.V j).lo (P.V j).hhi (P.V j).hi = true:=by
      intro j hj
      rcases (by omega:j < i∨j = i) with h | rfl
      ·exact HY j h
      ·rw [← HE.out.1,← HE.out.2,← EB.out]
     clear HY
     go_wp2
     go_roundw
     case rel=>first | exact ⟨i+1,by omega,by go_num,HY',hbel,hbw⟩ | ((repeat apply Exists.intro);refine ⟨?_,rfl⟩;exact ⟨i+1,by omega,by go_num,HY',hbel,hbw⟩)
     case measure=>simp [intOf];omega
   ·have hkI:¬ (i:Int) < (P.vn:Int):=by omega
    obtain rfl:i = P.vn:=by omega
    have Q:=Pb.below hbw
    have q0:=Q 0 _ rfl
    have q1:=Q 1 _ rfl
    have q2:=Q 2 _ rfl
    have q3:=Q 3 _ rfl
    have q4:=Q 4 _ rfl
    have q6:=Q 6 _ rfl
    have HH:=HSUM wr hbel
    clear HSUM
    go_wp2_with fail
    refine HH.mono ?_
    clear HH q0 q1 q2 q3 q4 q6 qb
    rintro e w1 ⟨sa,sc,rfl,L,h1⟩
    have hbel1:=bel_tr hbel h1
    have Q1:=Q.below h1
    clear hbel hbw h1 Q Pb hb
    go_wp2
    go_loopw [8] (fun s8 wr=>∃ (i:Nat),i≤P.rn∧s8 = .int .i64 i∧(∀ j,j < i→wthn (cv (P.R j) (xn X P.vn) P.vn) (P.R j).hlo (P.R j).lo (P.R j).hhi (P.R j).hi = true)∧Below w1.heap.size w1 wr) (fun s8 _=>P.rn - (intOf s8).toNat)
    case atStart=>exact ⟨0,Nat.zero_le _,rfl,fun j hj=>by omega,Below.refl _ _⟩
    case round =>
     obtain ⟨i,hi,rfl,HY2,hb2⟩:=hrel
     have qb:=(Q1.below hb2) 6 _ rfl
     by_cases hlt:i < P.rn
     ·have hkI:(i:Int) < (P.rn:Int):=by omega
      have hbel2:=bel_tr hbel1 hb2
      rcases (L.below hb2).lq with h0 | ⟨bx,ox,rfl,helx⟩
      ·omega
      obtain ⟨pA,aA,nA,cA,dA,mA,lA,c0,c1,c2,hA⟩:=helx i hlt
      rcases (hP.r.below hbel2) with h0 | ⟨rb,ro,hra,hew⟩
      ·omega
      have hR:=hew i hlt
      have hZi:P.ZR i≤1048576:=by have:=tot_le (Z:=P.ZR) hlt;have:=hP.all;omega
      have hs1r:=hR.s1
      obtain ⟨hl,ehl⟩:∃ hl,hl = (P.R i).hlo:=⟨_,rfl⟩
      obtain ⟨hh,ehh⟩:∃ hh,hh = (P.R i).hhi:=⟨_,rfl⟩
      have y0:=hR.hlo
      obtain ⟨pl,al,nl,cl,dl,ml,ll,y1,y2,y3,hlo⟩:=hR.lo
      have y4:=hR.hhi
      obtain ⟨ph,ah,nh,ch,dh,mh,lh,y5,y6,y7,hhi⟩:=hR.hi
      rw [← ehl] at y0
      rw [← ehh] at y4
      have HE:Hid (hl = (P.R i).hlo∧hh = (P.R i).hhi):=⟨ehl,ehh⟩
      have hkI2:(i:Int)*10 = ((i*10:Nat):Int):=by omega
      have hkI3:(i:Int)*3 = ((i*3:Nat):Int):=by omega
      obtain ⟨bq,ebq⟩:∃ bq,bq = wthn (cv (P.R i) (xn X P.vn) P.vn) hl (P.R i).lo hh (P.R i).hi:=⟨_,rfl⟩
      have HWI:∀ w2,Below wr.heap.size wr w2→Calls Tryz.prog 45 #[.agg #[.bool pA,.slice aA nA cA,.slice dA mA lA],.agg #[.bool hl,.bool pl,.slice al nl cl,.slice dl ml ll],.agg #[.bool hh,.bool ph,.slice ah nh ch,.slice dh mh lh]] w2 fun e w'=>e = .returned (.bool bq)∧Below w2.heap.size w2 w':=fun w2 h2=>by
       rw [ebq]
       exact withinD (S:=T) (lo:=(P.R i).lo) (hi:=(P.R i).hi) (R:=P.ZR i) w2 (hA.below h2) (hlo.below h2) (hhi.below h2) (by omega) (by omega) (by omega)
      have EB:Hid (bq = wthn (cv (P.R i) (xn X P.vn) P.vn) hl (P.R i).lo hh (P.R i).hi):=ebq
      rw [hra] at qb
      clear hew hR ehl ehh hra helx ebq hA hlo hhi
      have HBX:∀ w',Below wr.heap.size wr w'→(w'.cell? ⟨bx,ox+i*3,none⟩ = some (.bool pA)∧w'.cell? ⟨bx,ox+i*3+1,none⟩ = some (.slice aA nA cA)∧w'.cell? ⟨bx,ox+i*3+2,none⟩ = some (.slice dA mA lA)∧w'.cell? ⟨w.heap.size,6,none⟩ = some (.slice (some ⟨rb,ro,none⟩) P.rn P.rc)∧w'.cell? ⟨rb,ro+i*10+2,none⟩ = some (.bool hl)∧w'.cell? ⟨rb,ro+i*10+2+1,none⟩ = some (.bool pl)∧w'.cell? ⟨rb,ro+i*10+2+2,none⟩ = some (.slice al nl cl)∧w'.cell? ⟨rb,ro+i*10+2+3,none⟩ = some (.slice dl ml ll)∧w'.cell? ⟨rb,ro+i*10+6,none⟩ = some (.bool hh)∧w'.cell? ⟨rb,ro+i*10+6+1,none⟩ = some (.bool ph)∧w'.cell? ⟨rb,ro+i*10+6+2,none⟩ = some (.slice ah nh ch)∧w'.cell? ⟨rb,ro+i*10+6+3,none⟩ = some (.slice dh mh lh)):=fun w' h=>⟨kept_c h c0,kept_c h c1,kept_c h c2,kept_c h qb,kept_c h y0,kept_c h y1,kept_c h y2,kept_c h y3,kept_c h y4,kept_c h y5,kept_c h y6,kept_c h y7⟩
      clear y0 y1 y2 y3 y4 y5 y6 y7 c0 c1 c2
      go_wp2_with fail
      refine wp_region_noPanic (wp_region_guardB HBX (by as_aux_lemma=>kernel_rfl) ?_)
      have hc0:Below wr.heap.size wr wr.drew:=bel_d1 _
      generalize wr.drew = z0 at *
      refine wpAnyG.tA 0 (v:=.slice (some ⟨bx,ox,none⟩) P.rn sc) (by decide) 17 (by as_aux_lemma=>kernel_rfl) (by rfl) ?y0 (HBX _ hc0) ?_
      case y0 =>
       rintro w' ⟨f0,f1,f2,f3,f4,f5,f6,f7,f8,f9,f10,f11⟩
       simp only [lgA,lgZ]
       go_simp
      simp only [lgA,lgZ,Act.put,lsA,lsZ,lsS]
      refine wpAnyG.tA 1 (v:=.int .i64 (i:Int)) (by decide) 17 (by as_aux_lemma=>kernel_rfl) (by rfl) ?y1 (HBX _ hc0) ?_
      case y1 =>
       rintro w' ⟨f0,f1,f2,f3,f4,f5,f6,f7,f8,f9,f10,f11⟩
       simp only [lgA,lgZ,lgS]
       go_simp
      simp only [lgA,lgZ,lgS,Act.put,lsA,lsZ,lsS]
      refine wpAnyG.tA 2 (v:=.pointer (some ⟨bx,ox+i*3,none⟩)) (by decide) 17 (by as_aux_lemma=>kernel_rfl) (by rfl) ?y2 (HBX _ hc0) ?_
      case y2 =>
       rintro w' ⟨f0,f1,f2,f3,f4,f5,f6,f7,f8,f9,f10,f11⟩
       simp only [lgA,lgZ,lgS]
       go_simp
      simp only [lgA,lgZ,lgS,Act.put,lsA,lsZ,lsS]
      refine wpAnyG.tA 3 (v:=.agg #[.bool pA,.slice aA nA cA,.slice dA mA lA]) (by decide) 17 (by as_aux_lemma=>kernel_rfl) (by rfl) ?y3 (HBX _ hc0) ?_
      case y3 =>
       rintro w' ⟨f0,f1,f2,f3,f4,f5,f6,f7,f8,f9,f10,f11⟩
       simp only [lgA,lgZ,lgS]
       go_simp
      simp only [lgA,lgZ,lgS,Act.put,lsA,lsZ,lsS]
      refine wpAnyG.tA 4 (v:=.pointer (some ⟨w.heap.size,6,none⟩)) (by decide) 17 (by as_aux_lemma=>kernel_rfl) (by rfl) ?y4 (HBX _ hc0) ?_
      case y4 =>
       rintro w' ⟨f0,f1,f2,f3,f4,f5,f6,f7,f8,f9,f10,f11⟩
       simp only [lgA,lgZ,lgS]
       go_simp
      simp only [lgA,lgZ,lgS,Act.put,lsA,lsZ,lsS]
      refine wpAnyG.tA 5 (v:=.slice (some ⟨rb,ro,none⟩) P.rn P.rc) (by decide) 17 (by as_aux_lemma=>kernel_rfl) (by rfl) ?y5 (HBX _ hc0) ?_
      case y5 =>
       rintro w' ⟨f0,f1,f2,f3,f4,f5,f6,f7,f8,f9,f10,f11⟩
       simp only [lgA,lgZ,lgS]
       go_simp
      simp only [lgA,lgZ,lgS,Act.put,lsA,lsZ,lsS]
      refine wpAnyG.tA 6 (v:=.int .i64 (i:Int)) (by decide) 17 (by as_aux_lemma=>kernel_rfl) (by rfl) ?y6 (HBX _ hc0) ?_
      case y6 =>
       rintro w' ⟨f0,f1,f2,f3,f4,f5,f6,f7,f8,f9,f10,f11⟩
       simp only [lgA,lgZ,lgS]
       go_simp
      simp only [lgA,lgZ,lgS,Act.put,lsA,lsZ,lsS]
      refine wpAnyG.tA 7 (v:=.pointer (some ⟨rb,ro+i*10,none⟩)) (by decide) 17 (by as_aux_lemma=>kernel_rfl) (by rfl) ?y7 (HBX _ hc0) ?_
      case y7 =>
       rintro w' ⟨f0,f1,f2,f3,f4,f5,f6,f7,f8,f9,f10,f11⟩
       simp only [lgA,lgZ,lgS]
       go_simp
      simp only [lgA,lgZ,lgS,Act.put,lsA,lsZ,lsS]
      refine wpAnyG.tA 8 (v:=.pointer (some ⟨rb,ro+i*10+2,none⟩)) (by decide) 17 (by as_aux_lemma=>kernel_rfl) (by rfl) ?y8 (HBX _ hc0) ?_
      case y8 =>
       rintro w' ⟨f0,f1,f2,f3,f4,f5,f6,f7,f8,f9,f10,f11⟩
       simp only [lgA,lgZ,lgS]
       go_simp
      simp only [lgA,lgZ,lgS,Act.put,lsA,lsZ,lsS]
      refine wpAnyG.tA 9 (v:=.agg #[.bool hl,.bool pl,.slice al nl cl,.slice dl ml ll]) (by decide) 17 (by as_aux_lemma=>kernel_rfl) (by rfl) ?y9 (HBX _ hc0) ?_
      case y9 =>
       rintro w' ⟨f0,f1,f2,f3,f4,f5,f6,f7,f8,f9,f10,f11⟩
       simp only [lgA,lgZ,lgS]
       go_simp
      simp only [lgA,lgZ,lgS,Act.put,lsA,lsZ,lsS]
      refine wpAnyG.tA 10 (v:=.pointer (some ⟨w.heap.size,6,none⟩)) (by decide) 17 (by as_aux_lemma=>kernel_rfl) (by rfl) ?y10 (HBX _ hc0) ?_
      case y10 =>
       rintro w' ⟨f0,f1,f2,f3,f4,f5,f6,f7,f8,f9,f10,f11⟩
       simp only [lgA,lgZ,lgS]
       go_simp
      simp only [lgA,lgZ,lgS,Act.put,lsA,lsZ,lsS]
      refine wpAnyG.tA 11 (v:=.slice (some ⟨rb,ro,none⟩) P.rn P.rc) (by decide) 17 (by as_aux_lemma=>kernel_rfl) (by rfl) ?y11 (HBX _ hc0) ?_
      case y11 =>
       rintro w' ⟨f0,f1,f2,f3,f4,f5,f6,f7,f8,f9,f10,f11⟩
       simp only [lgA,lgZ,lgS]
       go_simp
      simp only [lgA,lgZ,lgS,Act.put,lsA,lsZ,lsS]
      refine wpAnyG.tA 12 (v:=.int .i64 (i:Int)) (by decide) 17 (by as_aux_lemma=>kernel_rfl) (by rfl) ?y12 (HBX _ hc0) ?_
      case y12 =>
       rintro w' ⟨f0,f1,f2,f3,f4,f5,f6,f7,f8,f9,f10,f11⟩
       simp only [lgA,lgZ,lgS]
       go_simp
      simp only [lgA,lgZ,lgS,Act.put,lsA,lsZ,lsS]
      refine wpAnyG.tA 13 (v:=.pointer (some ⟨rb,ro+i*10,none⟩)) (by decide) 17 (by as_aux_lemma=>kernel_rfl) (by rfl) ?y13 (HBX _ hc0) ?_
      case y13 =>
       rintro w' ⟨f0,f1,f2,f3,f4,f5,f6,f7,f8,f9,f10,f11⟩
       simp only [lgA,lgZ,lgS]
       go_simp
      simp only [lgA,lgZ,lgS,Act.put,lsA,lsZ,lsS]
      refine wpAnyG.tA 14 (v:=.pointer (some ⟨rb,ro+i*10+6,none⟩)) (by decide) 17 (by as_aux_lemma=>kernel_rfl) (by rfl) ?y14 (HBX _ hc0) ?_
      case y14 =>
       rintro w' ⟨f0,f1,f2,f3,f4,f5,f6,f7,f8,f9,f10,f11⟩
       simp only [lgA,lgZ,lgS]
       go_simp
      simp only [lgA,lgZ,lgS,Act.put,lsA,lsZ,lsS]
      refine wpAnyG.tA 15 (v:=.agg #[.bool hh,.bool ph,.slice ah nh ch,.slice dh mh lh]) (by decide) 17 (by as_aux_lemma=>kernel_rfl) (by rfl) ?y15 (HBX _ hc0) ?_
      case y15 =>
       rintro w' ⟨f0,f1,f2,f3,f4,f5,f6,f7,f8,f9,f10,f11⟩
       simp only [lgA,lgZ,lgS]
       go_simp
      simp only [lgA,lgZ,lgS,Act.put,lsA,lsZ,lsS]
      refine wpAnyG.one 16 (by as_aux_lemma=>kernel_rfl) (by decide) (by rfl) (fun K hK=>?_)
      simp only [lgA,lgZ,lgS]
      go_simp
      refine (HWI z0 hc0).mono ?_
      rintro e z1 ⟨rfl,hk1⟩
      have hc1:Below wr.heap.size wr z1:=bel_tr hc0 hk1
      dsimp only
      refine hK _ _ (HBX _ hc1) ?_
      clear hK K
      refine wpAnyG.one 17 (by as_aux_lemma=>kernel_rfl) (by decide) (by rfl) (fun K hK=>?_)
      simp only [lgA,lgZ,lgS]
      go_simp
      refine hK _ _ (HBX _ hc1) ?_
      clear hK K
      refine wpAnyG.done (by as_aux_lemma=>kernel_rfl) (NoPanic.normal ?_)
      replace hb2:=bel_tr hb2 hc1
      clear HBX HWI hk1 hc0 hc1 qb
      have ecv:cv (P.R i) (xn X P.vn) P.vn = cv (P.R i) X P.vn:=cv_xn _ _ _
      cases bq
      ·go_wp2
       go_ret
       refine ⟨false,rfl,⟨(fun h=>by cases h),fun h=>?_⟩,bel_tr hbel1 hb2⟩
       have h2:=h.2.2 i hlt
       rw [← ecv,← HE.out.1,← HE.out.2,← EB.out] at h2
       cases h2
      ·have HY':∀ j,j < i+1→wthn (cv (P.R j) (xn X P.vn) P.vn) (P.R j).hlo (P.R j).lo (P.R j).hhi (P.R j).hi = true:=by
        intro j hj
        rcases (by omega:j < i∨j = i) with h | rfl
        ·exact HY2 j h
        ·rw [← HE.out.1,← HE.out.2,← EB.out]
       clear HY2 ecv
       go_wp2
       go_roundw
       case rel=>first | exact ⟨i+1,by omega,by go_num,HY',hb2⟩ | ((repeat apply Exists.intro);refine ⟨?_,rfl⟩;exact ⟨i+1,by omega,by go_num,HY',hb2⟩)
       case measure=>simp [intOf];omega
     ·have hkI:¬ (i:Int) < (P.rn:Int):=by omega
      obtain rfl:i = P.rn:=by omega
      go_wp2
      go_ret
      exact .inr ⟨rfl,⟨rfl,HY,fun j hj=>by have h:=HY2 j hj;rw [cv_xn] at h;exact h⟩,bel_tr hbel1 hb2⟩
 ·have hnI:¬ ((n:Int) = (P.vn:Int)):=by omega
  have p5:=Pb 5 _ rfl
  go_enter Tryz.func22,Tryz.ntmps22
  go_wp2
  go_ret
  exact .inl ⟨rfl,fun h=>hnv h.1,hb⟩
theorem row_sz2 {r:PW} {X:Nat→Rat} {Zt:Nat→Nat} {m R dx ax:Nat} {Dx Ax:Int} (hC:∀ q,q < r.nt→SzR (r.t q).coef (Zt q)) (htot:tot Zt r.nt≤R) (hX:∀ j,j < m→Ov Dx Ax (X j)) (hD:0 < Dx∧Dx < pw dx) (hA:0≤Ax∧Ax < pw ax)
  (hc:r.nt≤1048576):∀ k,k≤r.nt→SzR (rsum (tv r X m) k) (R+R+ax+dx+2):=by
 have hZ:∀ q,q < r.nt→Zt q≤R:=fun q hq=>by have:=tot_le (Z:=Zt) hq;omega
 have h1:∀ q,q < r.nt→Ov (dprod (fun q=>(r.t q).coef) r.nt) (pw R) (r.t q).coef:=fun q hq=>dprod_ov (X:=fun q=>(r.t q).coef) (Z:=Zt) (T:=R) r.nt (fun i hi=>⟨hC i hi,hZ i hi⟩) q hq
 have p1:=dprod_pos (fun q=>(r.t q).coef) r.nt
 have p2:dprod (fun q=>(r.t q).coef) r.nt < pw R:=Int.lt_of_lt_of_le (dprod_lt (X:=fun q=>(r.t q).coef) (Z:=Zt) r.nt hC) (pw_mono htot)
 generalize dprod (fun q=>(r.t q).coef) r.nt = D at *
 have q1:=mul_pw (A:=pw R) (B:=Ax) (a:=R+1) (b:=ax) (Int.le_of_lt (pw_pos R)) (by have:=pw_succ R;have:=pw_pos R;omega) hA.1 hA.2
 have q2:=mul_pw (A:=D) (B:=Dx) (a:=R) (b:=dx) (Int.le_of_lt p1) p2 (Int.le_of_lt hD.1) hD.2
 have q3:0 < D*Dx:=Int.mul_pos p1 hD.1
 intro k hk
 have h2:=sum_sz (Y:=tv r X m) (D:=D*Dx) (A:=pw R*Ax) (n:=r.nt) (a:=R+1+ax) (d:=R+dx) (fun j hj=>by
  unfold tv
  by_cases e:0≤(r.t j).var∧(r.t j).var < (m:Int)
  ·rw [if_pos e]
   exact (h1 j hj).mul (hX _ (by omega))
  ·rw [if_neg e]
   exact Ov.zero.le (Int.le_of_lt q3) q1.2) q3 q2.1 q1.2 q1.1 (by omega) k hk
 exact h2.le (by omega)
theorem PQ.row_sz {w:World} {P:Prob} (hP:PQ w P) {n Kx:Nat} {X:Nat→Rat} {Dx:Int} (dx1:0 < Dx) (dx2:Dx < pw Kx) (dx3:∀ j,j < n→Ov Dx (pw (Kx+1)) (X j)) (hK:P.K+Kx≤1048576):∀ i k,i < P.rn→k≤(P.R i).nt→SzR (rsum (tv (P.R i) (xn X n) P.vn) k) 2097160:=by
 intro i k hi hk
 have hall:=hP.all
 have hZi:=tot_le (Z:=P.ZR) hi
 rw [rsum_congr (fun q _=>tv_xn (P.R i) X n P.vn q)]
 rcases hP.r with h0 | ⟨rb,ro,_,hew⟩
 ·omega
 obtain ⟨ta,tc,Zt,_,hLT,htot,_⟩:=(hew i hi).terms
 have hl:=tot_len Zt (P.R i).nt
 exact (row_sz2 (r:=P.R i) (m:=min n P.vn) (dx:=Kx) (ax:=Kx+2) hLT.sz htot (fun j hj=>dx3 j (by omega)) ⟨dx1,dx2⟩ ⟨Int.le_of_lt (pw_pos _),pw_lt1 _⟩ (by omega) k hk).le (by omega)
theorem szx' {n Kx:Nat} {X:Nat→Rat} {Zx:Nat→Nat} (hx:∀ i,i < n→SzR (X i) (Zx i)) (htx:tot Zx n≤Kx):∃ D,0 < D∧D < pw Kx∧∀ j,j < n→Ov D (pw (Kx+1)) (X j):=by
 obtain ⟨Dx,x1,x2,x3⟩:=Fv.list hx htx
 exact ⟨Dx,x1,x2,fun j hj=>(x3 j hj).ov⟩
theorem holdQ (P:Prob) {xa:Option Addr} {nx xc:Nat} {X:Nat→Rat} {Zx:Nat→Nat} {Kx:Nat} (w:World) (hP:PQ w P) (hx:LQ w xa nx X Zx) (hzx:∀ i,i < nx→1≤Zx i∧SzR (X i) (Zx i)) (htx:tot Zx nx≤Kx) (hxc:nx≤xc) (hK:P.K+Kx≤1048576) (hT:TB w) :
  Calls Tryz.prog 20 #[P.val,.slice xa nx xc] w fun e w'=>∃ b,e = .returned (.bool b)∧(b = true↔Hlds P nx X)∧Below w.heap.size w w':=by
 obtain ⟨Dx,dx1,dx2,dx3⟩:=szx' (fun i hi=>(hzx i hi).2) htx
 have hZx:∀ j,j < nx→Zx j≤Kx:=fun j hj=>by have:=tot_le (Z:=Zx) hj;omega
 have hZR:∀ i,i < P.rn→P.ZR i≤P.K:=fun i hi=>by have:=tot_le (Z:=P.ZR) hi;have:=hP.all;omega
 exact holdsQ P (T:=2097160) (S:=3145736) (dx:=Kx) (ax:=Kx+2) w hP hx hxc (fun j hj=>⟨(hzx j (by omega)).1,by have:=hZx j (by omega);omega⟩) (fun i j hi hj=>⟨(hzx j (by omega)).1,by have:=hZR i hi;have:=hZx j (by omega);omega⟩) (by omega) (by omega) dx1 dx2 (Int.le_of_lt (pw_pos _)) (pw_lt1 _) (fun j hj=>dx3 j (by omega)) (fun i hi=>by have:=hZR i hi;omega) (by omega) (by omega) hT
theorem holdD (P:Prob) {xa:Option Addr} {nx xc:Nat} {X:Nat→Rat} {Zx:Nat→Nat} {Kx:Nat} (w:World) (hP:PQ w P) (hx:LQ w xa nx X Zx) (hzx:∀ i,i < nx→1≤Zx i∧SzR (X i) (Zx i)) (htx:tot Zx nx≤Kx) (hK:P.K+Kx≤1048576) :
  Calls Tryz.prog 22 #[P.val,.slice xa nx xc] w fun e w'=>∃ b,e = .returned (.bool b)∧(b = true↔Hlds P nx X)∧Below w.heap.size w w':=by
 obtain ⟨Dx,dx1,dx2,dx3⟩:=szx' (fun i hi=>(hzx i hi).2) htx
 have hZx:∀ j,j < nx→Zx j≤Kx:=fun j hj=>by have:=tot_le (Z:=Zx) hj;omega
 have hZR:∀ i,i < P.rn→P.ZR i≤P.K:=fun i hi=>by have:=tot_le (Z:=P.ZR) hi;have:=hP.all;omega
 have hk1:=tot_pos Zx nx
 exact holdsD P (T:=2097160) (S:=2097152) (U:=Kx) w hP hx (fun j hj=>⟨(hzx j hj).1,hZx j hj⟩) ⟨by omega,by omega⟩ (fun i hi=>by have:=hZR i hi;omega) (by omega) ⟨by omega,by omega⟩ (by omega) (hP.row_sz dx1 dx2 dx3 hK)
theorem Cpy.hlds {P Q:Prob} (h:Cpy P Q) (n:Nat) (X:Nat→Rat):Hlds Q n X↔Hlds P n X:=by
 unfold Hlds
 rw [h.vn,h.rn,h.V,h.R]
theorem Cpy.whl {P Q:Prob} (h:Cpy P Q) (n:Nat) (X:Nat→Rat):Whl Q n X↔Whl P n X:=by
 unfold Whl
 rw [h.vn,h.V]
theorem boolI (p:Prop):∃ b:Bool,(b = true↔p):=by
 by_cases h:p
 ·exact ⟨true,fun _=>h,fun _=>rfl⟩
 ·exact ⟨false,(fun e=>by cases e),fun e=>absurd e h⟩
theorem boolS {b c:Bool} {p:Prop} (h:b = true↔p) (k:c = true↔p):b = c:=by
 have h3:b = true↔c = true:=h.trans k.symm
 revert h3;cases b <;> cases c <;> simp
theorem lq_fr {w:World} {a:Option Addr} {n:Nat} {X:Nat→Rat} {Z:Nat→Nat} (h:LQ w a n X Z):∃ F:Nat→Fr,LF w a n F∧∀ i,i < n→FrOk (F i) (Z i)∧frq (F i) = X i:=by
 rcases h with h | ⟨b,o,rfl,h⟩
 ·exact ⟨fun _=>⟨false,[],[]⟩,.inl h,fun i hi=>by omega⟩
 ·have H:∀ i,∃ f:Fr,i < n→F3 w b (o+i*3) f∧FrOk f (Z i)∧frq f = X i:=fun i=>by
   by_cases hi:i < n
   ·obtain ⟨f,h1,h2,h3⟩:=c3_fr (h i hi)
    exact ⟨f,fun _=>⟨h1,h2,h3⟩⟩
   ·exact ⟨⟨false,[],[]⟩,fun h=>absurd h hi⟩
  obtain ⟨F,hF⟩:=Classical.axiomOfChoice H
  exact ⟨F,.inr ⟨b,o,rfl,fun i hi=>(hF i hi).1⟩,fun i hi=>(hF i hi).2⟩
theorem fr_lq {w:World} {g n:Nat} {F:Nat→Fr} {X:Nat→Rat} {Z:Nat→Nat} (h:∀ i,i < n→F3 w g (i*3) (F i)) (hF:∀ i,i < n→FrOk (F i) (Z i)∧frq (F i) = X i):LQ w (some ⟨g,0,none⟩) n X Z :=
 .inr ⟨g,0,rfl,fun i hi=>by
  have h1:=(h i hi).c3 (hF i hi).1
  rw [(hF i hi).2] at h1
  rw [Nat.zero_add]
  exact h1⟩
set_option maxRecDepth 100000 in
set_option maxHeartbeats 16000000 in
theorem mholds_walk (P:Prob) {xa:Option Addr} {nx xc:Nat} {X:Nat→Rat} {Zx:Nat→Nat} {Kx:Nat} (w:World) (hP:PQ w P) (hx:LQ w xa nx X Zx) (hzx:∀ i,i < nx→1≤Zx i∧SzR (X i) (Zx i)) (htx:tot Zx nx≤Kx) (_hxc:nx≤xc) (hK:P.K+Kx≤1048576) (hT:TB w)
  (HA:∀ w1,Below w.heap.size w w1→Calls Tryz.prog 6 #[] w1 fun e w'=>e = .returned (.bool true)∧Below w1.heap.size w1 w') :
  Calls Tryz.prog 4 #[P.val,.slice xa nx xc] w fun e w'=>e = .returned (.bool true)∧Below w.heap.size w w':=by
 have hKK:P.K≤1048576:=by omega
 have hZx:∀ j,j < nx→Zx j≤Kx:=fun j hj=>by have:=tot_le (Z:=Zx) hj;omega
 have hnx:nx≤1048576:=by have:=tot_len Zx nx;omega
 obtain ⟨bx,ebx⟩:=boolI (Hlds P nx X)
 obtain ⟨bw,ebw⟩:=boolI (Whl P nx X)
 obtain ⟨Fx,hLx,hFx⟩:=lq_fr hx
 have hFl:∀ i,i < nx→(Fx i).xs.length≤2000000∧(Fx i).ys.length≤2000000:=fun i hi=>(hFx i hi).1.lens (by have:=hZx i hi;omega)
 have HHD:∀ w1,Below w.heap.size w w1→Calls Tryz.prog 22 #[.agg #[.bool P.mx,.string P.nm,.bool P.p,.slice P.a P.na P.ca,.slice P.d P.nd P.cd,.slice P.va P.vn P.vc,.slice P.ra P.rn P.rc],.slice xa nx xc] w1 fun e w'=>e = .returned (.bool bx)∧Below w1.heap.size w1 w':=fun w1 hb =>
  (holdD P w1 (hP.below hb) (hx.below hb) hzx htx hK).mono (by
   rintro e w' ⟨b,rfl,hb1,hb2⟩
   obtain rfl:=boolS hb1 ebx
   exact ⟨rfl,hb2⟩)
 have HWD:∀ w1,Below w.heap.size w w1→Calls Tryz.prog 23 #[.agg #[.bool P.mx,.string P.nm,.bool P.p,.slice P.a P.na P.ca,.slice P.d P.nd P.cd,.slice P.va P.vn P.vc,.slice P.ra P.rn P.rc],.slice xa nx xc] w1 fun e w'=>e = .returned (.bool bw)∧Below w1.heap.size w1 w':=fun w1 hb =>
  (wholeD7 P w1 (hP.below hb) (hx.below hb) (fun j hj=>⟨(hzx j (by omega)).1,by have:=hZx j (by omega);omega⟩) hKK).mono (by
   rintro e w' ⟨b,rfl,hb1,hb2⟩
   obtain rfl:=boolS hb1 ebw
   exact ⟨rfl,hb2⟩)
 have Pb:=box_new w #[.bool P.mx,.string P.nm,.bool P.p,.slice P.a P.na P.ca,.slice P.d P.nd P.cd,.slice P.va P.vn P.vc,.slice P.ra P.rn P.rc] 31
 have hb:=bel_d0 w (.cells #[.bool P.mx,.string P.nm,.bool P.p,.slice P.a P.na P.ca,.slice P.d P.nd P.cd,.slice P.va P.vn P.vc,.slice P.ra P.rn P.rc] 31)
 unfold Prob.val
 have p0:=Pb 0 _ rfl
 have p1:=Pb 1 _ rfl
 have p2:=Pb 2 _ rfl
 have p3:=Pb 3 _ rfl
 have p4:=Pb 4 _ rfl
 have p5:=Pb 5 _ rfl
 have p6:=Pb 6 _ rfl
 go_enter Tryz.func4,Tryz.ntmps4
 go_wp2_with fail
 generalize w.alloc (.cells #[.bool P.mx,.string P.nm,.bool P.p,.slice P.a P.na P.ca,.slice P.d P.nd P.cd,.slice P.va P.vn P.vc,.slice P.ra P.rn P.rc] 31) = W at *
 refine (beyondQ P W (hP.below hb) hKK).mono ?_
 clear p0 p1 p2 p3 p4 p5 p6
 rintro e w1 ⟨bb,rfl,h1⟩
 replace Pb:=Pb.below h1
 replace hb:=bel_tr hb h1
 clear h1
 cases bb
 rotate_left
 ·go_wp2
  go_ret
  exact ⟨rfl,hb⟩
 go_wp2_with fail
 refine (HA w1 hb).mono ?_
 rintro e w2 ⟨rfl,h1⟩
 replace Pb:=Pb.below h1
 replace hb:=bel_tr hb h1
 clear h1 HA
 have p0:=Pb 0 _ rfl
 have p1:=Pb 1 _ rfl
 have p2:=Pb 2 _ rfl
 have p3:=Pb 3 _ rfl
 have p4:=Pb 4 _ rfl
 have p5:=Pb 5 _ rfl
 have p6:=Pb 6 _ rfl
 go_wp2_with fail
 refine (lend7Q P w2 (hP.below hb) hKK).mono ?_
 clear p0 p1 p2 p3 p4 p5 p6
 rintro e w3 ⟨R,Rr,N,F,A,va,vn,vd,vg,G,Q,O,gv,gr,rfl,hL,h1⟩
 replace Pb:=Pb.below h1
 replace hb:=bel_tr hb h1
 clear h1
 go_wp2_with fail
 refine (lend3Q xa nx xc Fx w3 (hLx.below hb) (by omega) hFl).mono ?_
 rintro e w4 ⟨A2,va2,vn2,vd2,vg2,rfl,hJ,h1⟩
 obtain ⟨gx,cx,rfl,hcx,_,hf3,_⟩:=hJ.list
 obtain ⟨Rx,eRx⟩:∃ Rx,Rx = w3.heap.size:=⟨_,rfl⟩
 rw [← eRx] at hJ
 rw [← eRx]
 clear eRx
 replace Pb:=Pb.below h1
 replace hb:=bel_tr hb h1
 replace hL:=hL.below h1
 clear h1
 have hxl:LQ w4 (some ⟨gx,0,none⟩) nx X Zx:=fr_lq hf3 hFx
 have hKQ:Q.K+Kx≤1048576:=by rw [hL.cq.K];exact hK
 have HHQ:∀ w1,Below w4.heap.size w4 w1→Calls Tryz.prog 20 #[.agg #[.bool Q.mx,.string Q.nm,.bool Q.p,.slice Q.a Q.na Q.ca,.slice Q.d Q.nd Q.cd,.slice Q.va Q.vn Q.vc,.slice Q.ra Q.rn Q.rc],.slice (some ⟨gx,0,none⟩) nx cx] w1 fun e w'=>e = .returned (.bool bx)∧Below w1.heap.size w1 w':=fun w1 h =>
  (holdQ Q w1 (hL.pq.below h) (hxl.below h) hzx htx (by omega) hKQ (hT.below (bel_tr hb h))).mono (by
   rintro e w' ⟨b,rfl,hb1,hb2⟩
   obtain rfl:=boolS (hb1.trans (hL.cq.hlds nx X)) ebx
   exact ⟨rfl,hb2⟩)
 have HWQ:∀ w1,Below w4.heap.size w4 w1→Calls Tryz.prog 21 #[.agg #[.bool Q.mx,.string Q.nm,.bool Q.p,.slice Q.a Q.na Q.ca,.slice Q.d Q.nd Q.cd,.slice Q.va Q.vn Q.vc,.slice Q.ra Q.rn Q.rc],.slice (some ⟨gx,0,none⟩) nx cx] w1 fun e w'=>e = .returned (.bool bw)∧Below w1.heap.size w1 w':=fun w1 h =>
  (wholeQ Q w1 (hL.pq.below h) (hxl.below h) (fun j hj=>⟨(hzx j (by omega)).1,by have:=hZx j (by omega);omega⟩) (by omega)).mono (by
   rintro e w' ⟨b,rfl,hb1,hb2⟩
   obtain rfl:=boolS (hb1.trans (hL.cq.whl nx X)) ebw
   exact ⟨rfl,hb2⟩)
 have c0:=hL.box 0 _ rfl
 have c1:=hL.box 1 _ rfl
 have c2:=hL.box 2 _ rfl
 have c3:=hL.box 3 _ rfl
 have c4:=hL.box 4 _ rfl
 have c5:=hL.box 5 _ rfl
 have c6:=hL.box 6 _ rfl
 have HBX:∀ w',Below w4.heap.size w4 w'→(w'.cell? ⟨R,0,none⟩ = some (.bool Q.mx)∧w'.cell? ⟨R,1,none⟩ = some (.string Q.nm)∧w'.cell? ⟨R,2,none⟩ = some (.bool Q.p)∧w'.cell? ⟨R,3,none⟩ = some (.slice Q.a Q.na Q.ca)∧w'.cell? ⟨R,4,none⟩ = some (.slice Q.d Q.nd Q.cd)∧w'.cell? ⟨R,5,none⟩ = some (.slice Q.va Q.vn Q.vc)∧w'.cell? ⟨R,6,none⟩ = some (.slice Q.ra Q.rn Q.rc)):=fun w' h=>⟨kept_c h c0,kept_c h c1,kept_c h c2,kept_c h c3,kept_c h c4,kept_c h c5,kept_c h c6⟩
 clear c0 c1 c2 c3 c4 c5 c6
 go_wp2_with fail
 refine wp_region_noPanic (wp_region_guardB HBX (by as_aux_lemma=>kernel_rfl) ?_)
 have hc0:Below w4.heap.size w4 w4.drew:=bel_d1 _
 generalize w4.drew = z0 at *
 refine wpAnyG.tA 0 (v:=.pointer (some ⟨R,0,none⟩)) (by decide) 7 (by as_aux_lemma=>kernel_rfl) (by rfl) ?y0 (HBX _ hc0) ?_
 case y0 =>
  rintro w' ⟨f0,f1,f2,f3,f4,f5,f6⟩
  simp only [lgA,lgZ]
  go_simp
 simp only [lgA,lgZ,Act.put,lsA,lsZ,lsS]
 refine wpAnyG.tA 1 (v:=.pointer (some ⟨R,0,none⟩)) (by decide) 7 (by as_aux_lemma=>kernel_rfl) (by rfl) ?y1 (HBX _ hc0) ?_
 case y1 =>
  rintro w' ⟨f0,f1,f2,f3,f4,f5,f6⟩
  simp only [lgA,lgZ,lgS]
  go_simp
 simp only [lgA,lgZ,lgS,Act.put,lsA,lsZ,lsS]
 refine wpAnyG.tA 2 (v:=.pointer (some ⟨R,0,none⟩)) (by decide) 7 (by as_aux_lemma=>kernel_rfl) (by rfl) ?y2 (HBX _ hc0) ?_
 case y2 =>
  rintro w' ⟨f0,f1,f2,f3,f4,f5,f6⟩
  simp only [lgA,lgZ,lgS]
  go_simp
 simp only [lgA,lgZ,lgS,Act.put,lsA,lsZ,lsS]
 refine wpAnyG.tA 3 (v:=.agg #[.bool Q.mx,.string Q.nm,.bool Q.p,.slice Q.a Q.na Q.ca,.slice Q.d Q.nd Q.cd,.slice Q.va Q.vn Q.vc,.slice Q.ra Q.rn Q.rc]) (by decide) 7 (by as_aux_lemma=>kernel_rfl) (by rfl) ?y3 (HBX _ hc0) ?_
 case y3 =>
  rintro w' ⟨f0,f1,f2,f3,f4,f5,f6⟩
  simp only [lgA,lgZ,lgS]
  go_simp
 simp only [lgA,lgZ,lgS,Act.put,lsA,lsZ,lsS]
 refine wpAnyG.tA 4 (v:=.pointer (some ⟨Rx,0,none⟩)) (by decide) 7 (by as_aux_lemma=>kernel_rfl) (by rfl) ?y4 (HBX _ hc0) ?_
 case y4 =>
  rintro w' ⟨f0,f1,f2,f3,f4,f5,f6⟩
  simp only [lgA,lgZ,lgS]
  go_simp
 simp only [lgA,lgZ,lgS,Act.put,lsA,lsZ,lsS]
 refine wpAnyG.one 5 (by as_aux_lemma=>kernel_rfl) (by decide) (by rfl) (fun K hK=>?_)
 simp only [lgA,lgZ,lgS]
 go_simp
 refine (list3Q z0 (hJ.below hc0) hcx).mono ?_
 rintro e z1 ⟨rfl,hk1⟩
 have hc1:Below w4.heap.size w4 z1:=bel_tr hc0 hk1
 dsimp only
 refine hK _ _ (HBX _ hc1) ?_
 clear hK K
 refine wpAnyG.one 6 (by as_aux_lemma=>kernel_rfl) (by decide) (by rfl) (fun K hK=>?_)
 simp only [lgA,lgZ,lgS]
 go_simp
 refine (HHQ z1 hc1).mono ?_
 rintro e z2 ⟨rfl,hk2⟩
 have hc2:Below w4.heap.size w4 z2:=bel_tr hc1 hk2
 dsimp only
 refine hK _ _ (HBX _ hc2) ?_
 clear hK K
 refine wpAnyG.one 7 (by as_aux_lemma=>kernel_rfl) (by decide) (by rfl) (fun K hK=>?_)
 simp only [lgA,lgZ,lgS]
 go_simp
 refine hK _ _ (HBX _ hc2) ?_
 clear hK K
 refine wpAnyG.done (by as_aux_lemma=>kernel_rfl) (NoPanic.normal ?_)
 have hw4:Below w4.heap.size w4 z2:=hc2
 clear hk1 hk2 hc0 hc1 hc2
 have HBY:=fun w' (h:Below z2.heap.size z2 w')=>HBX w' (bel_tr hw4 h)
 clear HBX HHQ
 go_wp2_with fail
 refine wp_region_noPanic (wp_region_guardB HBY (by as_aux_lemma=>kernel_rfl) ?_)
 have hc0:Below z2.heap.size z2 z2.drew:=bel_d1 _
 generalize z2.drew = y0 at *
 refine wpAnyG.tA 0 (v:=.pointer (some ⟨R,0,none⟩)) (by decide) 7 (by as_aux_lemma=>kernel_rfl) (by rfl) ?y0 (HBY _ hc0) ?_
 case y0 =>
  rintro w' ⟨f0,f1,f2,f3,f4,f5,f6⟩
  simp only [lgA,lgZ]
  go_simp
 simp only [lgA,lgZ,Act.put,lsA,lsZ,lsS]
 refine wpAnyG.tA 1 (v:=.pointer (some ⟨R,0,none⟩)) (by decide) 7 (by as_aux_lemma=>kernel_rfl) (by rfl) ?y1 (HBY _ hc0) ?_
 case y1 =>
  rintro w' ⟨f0,f1,f2,f3,f4,f5,f6⟩
  simp only [lgA,lgZ,lgS]
  go_simp
 simp only [lgA,lgZ,lgS,Act.put,lsA,lsZ,lsS]
 refine wpAnyG.tA 2 (v:=.pointer (some ⟨R,0,none⟩)) (by decide) 7 (by as_aux_lemma=>kernel_rfl) (by rfl) ?y2 (HBY _ hc0) ?_
 case y2 =>
  rintro w' ⟨f0,f1,f2,f3,f4,f5,f6⟩
  simp only [lgA,lgZ,lgS]
  go_simp
 simp only [lgA,lgZ,lgS,Act.put,lsA,lsZ,lsS]
 refine wpAnyG.tA 3 (v:=.agg #[.bool Q.mx,.string Q.nm,.bool Q.p,.slice Q.a Q.na Q.ca,.slice Q.d Q.nd Q.cd,.slice Q.va Q.vn Q.vc,.slice Q.ra Q.rn Q.rc]) (by decide) 7 (by as_aux_lemma=>kernel_rfl) (by rfl) ?y3 (HBY _ hc0) ?_
 case y3 =>
  rintro w' ⟨f0,f1,f2,f3,f4,f5,f6⟩
  simp only [lgA,lgZ,lgS]
  go_simp
 simp only [lgA,lgZ,lgS,Act.put,lsA,lsZ,lsS]
 refine wpAnyG.tA 4 (v:=.pointer (some ⟨Rx,0,none⟩)) (by decide) 7 (by as_aux_lemma=>kernel_rfl) (by rfl) ?y4 (HBY _ hc0) ?_
 case y4 =>
  rintro w' ⟨f0,f1,f2,f3,f4,f5,f6⟩
  simp only [lgA,lgZ,lgS]
  go_simp
 simp only [lgA,lgZ,lgS,Act.put,lsA,lsZ,lsS]
 refine wpAnyG.one 5 (by as_aux_lemma=>kernel_rfl) (by decide) (by rfl) (fun K hK=>?_)
 simp only [lgA,lgZ,lgS]
 go_simp
 refine (list3Q y0 ((hJ.below hw4).below hc0) hcx).mono ?_
 rintro e y1 ⟨rfl,hk1⟩
 have hc1:Below z2.heap.size z2 y1:=bel_tr hc0 hk1
 dsimp only
 refine hK _ _ (HBY _ hc1) ?_
 clear hK K
 refine wpAnyG.one 6 (by as_aux_lemma=>kernel_rfl) (by decide) (by rfl) (fun K hK=>?_)
 simp only [lgA,lgZ,lgS]
 go_simp
 refine (HWQ y1 (bel_tr hw4 hc1)).mono ?_
 rintro e y2 ⟨rfl,hk2⟩
 have hc2:Below z2.heap.size z2 y2:=bel_tr hc1 hk2
 dsimp only
 refine hK _ _ (HBY _ hc2) ?_
 clear hK K
 refine wpAnyG.one 7 (by as_aux_lemma=>kernel_rfl) (by decide) (by rfl) (fun K hK=>?_)
 simp only [lgA,lgZ,lgS]
 go_simp
 refine hK _ _ (HBY _ hc2) ?_
 clear hK K
 refine wpAnyG.done (by as_aux_lemma=>kernel_rfl) (NoPanic.normal ?_)
 have hw5:Below w4.heap.size w4 y2:=bel_tr hw4 hc2
 clear hk1 hk2 hc0 hc1 hc2 HBY HWQ hw4
 go_wp2_with fail
 refine (kept7Q y2 (hL.below hw5) hKK).mono ?_
 rintro e w6 ⟨rfl,h1⟩
 replace hw5:=bel_tr hw5 h1
 clear h1 hL
 go_wp2_with fail
 refine (kept3Q w6 (hJ.below hw5) (by omega) hFl).mono ?_
 rintro e w7 ⟨rfl,h1⟩
 replace hw5:=bel_tr hw5 h1
 clear h1 hJ
 replace Pb:=Pb.below hw5
 replace hb:=bel_tr hb hw5
 have p0:=Pb 0 _ rfl
 have p1:=Pb 1 _ rfl
 have p2:=Pb 2 _ rfl
 have p3:=Pb 3 _ rfl
 have p4:=Pb 4 _ rfl
 have p5:=Pb 5 _ rfl
 have p6:=Pb 6 _ rfl
 go_wp2_with fail
 refine (HHD w7 hb).mono ?_
 rintro e w8 ⟨rfl,h1⟩
 replace Pb:=Pb.below h1
 replace hb:=bel_tr hb h1
 clear h1 HHD p0 p1 p2 p3 p4 p5 p6
 have p0:=Pb 0 _ rfl
 have p1:=Pb 1 _ rfl
 have p2:=Pb 2 _ rfl
 have p3:=Pb 3 _ rfl
 have p4:=Pb 4 _ rfl
 have p5:=Pb 5 _ rfl
 have p6:=Pb 6 _ rfl
 go_wp2_with fail
 refine (HWD w8 hb).mono ?_
 rintro e w9 ⟨rfl,h1⟩
 replace hb:=bel_tr hb h1
 clear h1 HWD p0 p1 p2 p3 p4 p5 p6
 go_wp2
 go_ret
 exact ⟨rfl,hb⟩
end Go.Proofs.YtklhilnobgieaaaGreatDoor

import Derived.Test.YtnkpbjmfdfjeiaaGreatDoorSoTAll
import Derived.Test.YtnkpbjmfdfjeiaaGreatDoorSoCAll
namespace Go.Proofs.YtnkpbjmfdfjeiaaGreatDoor
open Go.RowKit
theorem SL.put1 {w:World} {B:Nat} {T:TypeId} {n cap g:Nat} {E:Nat→List Value} (h:SL w B T 2 (.slice (some ⟨g,0,none⟩) n cap) n E) {i o:Nat} {x y a:Value} (hi:i < n) (hE:E i = [x,y]) (ho:o < 2):SL (w.setCell ⟨g,i * 2 + o,none⟩ a) B T 2 (.slice (some ⟨g,0,none⟩) n cap) n (fun q=>if q = i then [x,y].set o a else E q):=by
 obtain ⟨vs,⟨h1,h2⟩,h3⟩:=h
 rcases h2 with ⟨e,_⟩ | ⟨g',cap',cur,e1,e2,hgb,e3,e4,e5,e6⟩
 ·cases e
 simp only [Value.slice.injEq,Option.some.injEq,Addr.mk.injEq,and_true,true_and] at e1
 obtain ⟨rfl,rfl⟩:=e1
 have hb2:=heap_setCell_same w g (i * 2 + o) cur T a hgb
 refine ⟨vs.set (i * 2 + o) a,⟨by rw [List.length_set];exact h1,.inr ⟨g,cap,_,rfl,e2,hb2,e3,e4,by simpa using e5,?_⟩⟩,fun q hq j u hu=>?_⟩
 ·rw [Array.toList_setIfInBounds,← e6,List.take_set]
 ·by_cases hqi:q = i
  ·subst hqi
   simp only [if_true] at hu
   have hj:j < 2:=by have:=(List.getElem?_eq_some_iff.1 hu).1;simpa using this
   refine ⟨hj,?_⟩
   by_cases hjo:j = o
   ·subst hjo
    rw [List.getElem?_set_self (by simpa using hj)] at hu
    rw [List.getElem?_set_self (by omega)];exact hu
   ·rw [List.getElem?_set_ne (by omega)] at hu
    rw [List.getElem?_set_ne (by omega)]
    exact (h3 q hq j u (by rw [hE];exact hu)).2
  ·simp only [hqi,if_false] at hu
   obtain ⟨a1,a2⟩:=h3 q hq j u hu
   refine ⟨a1,?_⟩
   rw [List.getElem?_set_ne (by omega)]
   exact a2
set_option maxRecDepth 100000 in
set_option maxHeartbeats 16000000 in
theorem varLinesA (P:Prob) {q gl vc:Nat} {G:Nat→Nat} {va:Option Addr} (hva0:P.va = va) (w:World) (hP:PQ w P) (hK:P.K≤1048576) (hq:q≤2) (hL:∀ k,k < q→w.cell? ⟨gl,k,none⟩ = some (.slice (some ⟨G k,0,none⟩) P.vn vc)) :
  Calls Tryz.prog 28 #[.slice va P.vn P.vc,.slice (some ⟨gl,0,none⟩) q q] w fun e w'=>∃ g,e = .returned (.slice (some ⟨g,0,none⟩) P.vn P.vn)∧LsQ w' w.heap.size (.slice (some ⟨g,0,none⟩) P.vn P.vn) P.vn (fun t=>wVar (vnm P t)) (fun _=>q) (fun t k=>(G k,t * 3))∧Below w.heap.size w w':=by
 have hvn:P.vn≤1048576:=by have:=hP.all;have:=tot_len P.ZV P.vn;omega
 have HPW:Hid (PQ w P):=hP
 have hvcc:=hP.vc
 have HVA:Hid (P.va = va):=hva0
 have HLL:Hid (∀ k,k < q→w.cell? ⟨gl,k,none⟩ = some (.slice (some ⟨G k,0,none⟩) P.vn vc)):=hL
 clear hP hva0 hL
 go_enter Tryz.func28,Tryz.ntmps28
 go_wp2_with (refine wpList_makeL w rfl _ _ rfl P.vn rfl rfl (by omega) ?_)
 intro w1 SM hb1 hz1
 obtain ⟨F,hFw⟩:∃ F,w.heap.size = F:=⟨_,rfl⟩
 have HFW:Hid (w.heap.size = F):=hFw
 rw [hFw] at SM hb1 hz1 ⊢
 obtain ⟨g,hgF⟩:∃ g,F = g:=⟨_,rfl⟩
 rw [show (Value.slice (some ⟨F,0,none⟩) P.vn P.vn) = Value.slice (some ⟨g,0,none⟩) P.vn P.vn by rw [hgF]] at SM ⊢
 clear hFw hgF
 go_wp2
 go_loopw [15] (fun s15 wr=>∃ (j:Nat) (E:Nat→List Value),j≤P.vn∧s15 = .int .i64 j∧SL wr F 78 2 (.slice (some ⟨g,0,none⟩) P.vn P.vn) P.vn E∧(∀ t,t < j→LnC wr F (E t) (wVar (vnm P t)) q (fun k=>(G k,t * 3)))∧(∀ t,j≤t→E t = [.string ⟨#[]⟩,.slice none 0 0])∧Below F w wr) (fun s15 _=>P.vn - (intOf s15).toNat)
 case atStart=>exact ⟨0,_,Nat.zero_le _,rfl,SM,fun t ht=>by omega,fun _ _=>rfl,hb1⟩
 case round =>
  clear SM hb1 hz1
  obtain ⟨j,E0,hj,rfl,SE,HLn,HE2,hbr⟩:=hrel
  by_cases hlt:j < P.vn
  ·have hkI:(j:Int) < (P.vn:Int):=by omega
   have hbw:Below w.heap.size w wr:=by rw [HFW.out];exact hbr
   have hRR:=(HPW.out.below hbw).v
   rw [HVA.out] at hRR
   rcases hRR with h0 | ⟨bv,ov,rfl,hev⟩
   ·omega
   have hV:=hev j hlt
   obtain ⟨nmV,enm⟩:∃ nmV,nmV = (P.V j).nm:=⟨_,rfl⟩
   obtain ⟨hl,ehl⟩:∃ hl,hl = (P.V j).hlo:=⟨_,rfl⟩
   obtain ⟨hh,ehh⟩:∃ hh,hh = (P.V j).hhi:=⟨_,rfl⟩
   obtain ⟨wh,ewh⟩:∃ wh,wh = (P.V j).whole:=⟨_,rfl⟩
   have r0:=hV.nm
   obtain ⟨pO,aO,nO,cO,dO,mO,lO,r1,r2,r3,_⟩:=hV.obj
   have r4:=hV.hlo
   obtain ⟨pl,al,nl,cl,dl,ml,ll,r5,r6,r7,_⟩:=hV.lo
   have r8:=hV.hhi
   obtain ⟨ph,ah,nh,ch,dh,mh,lh,r9,r10,r11,_⟩:=hV.hi
   have r12:=hV.whole
   rw [← enm] at r0
   rw [← ehl] at r4
   rw [← ehh] at r8
   rw [← ewh] at r12
   have HNM:Hid (nmV = (P.V j).nm):=enm
   have hnz:nmV.size≤1048576:=by
    rw [enm]
    have h1:=hV.snm
    have h2:=tot_leS2 (Z:=P.ZV) hlt
    have h3:=HPW.out.all
    omega
   have hsz2:¬ 9223372036854775807 < 4 + nmV.size:=by omega
   have hsz:¬ 9223372036854775807 < (⟨#[118,97,114,32]⟩:ByteArray).size + nmV.size:=by rw [show (⟨#[118,97,114,32]⟩:ByteArray).size = 4 from rfl];omega
   have hkI2:(j:Int) * 13 = ((j * 13:Nat):Int):=by omega
   have hkI3:(j:Int) * 3 = ((j * 3:Nat):Int):=by omega
   have hkI4:(j:Int) * 2 = ((j * 2:Nat):Int):=by omega
   have hx:=bel_d0 wr (.cells #[.string nmV,.bool pO,.slice aO nO cO,.slice dO mO lO,.bool hl,.bool pl,.slice al nl cl,.slice dl ml ll,.bool hh,.bool ph,.slice ah nh ch,.slice dh mh lh,.bool wh] 51)
   have NB:=box_new wr #[.string nmV,.bool pO,.slice aO nO cO,.slice dO mO lO,.bool hl,.bool pl,.slice al nl cl,.slice dl ml ll,.bool hh,.bool ph,.slice ah nh ch,.slice dh mh lh,.bool wh] 51
   have nb0:=NB 0 _ rfl
   have HLH:Hid (∀ t,t < j→LnC wr F (E0 t) (wVar (vnm P t)) q (fun k=>(G k,t * 3))):=HLn
   have HEH:Hid (∀ t,j≤t→E0 t = [.string ⟨#[]⟩,.slice none 0 0]):=HE2
   have HBR:Hid (Below F w wr):=hbr
   have SE0:=SE
   replace SE:=SE.below hx
   obtain ⟨cur,hg1,hg2,hg3⟩:=SE.there
   obtain ⟨u0,d0⟩:∃ u,(wr.alloc (.cells #[.string nmV,.bool pO,.slice aO nO cO,.slice dO mO lO,.bool hl,.bool pl,.slice al nl cl,.slice dl ml ll,.bool hh,.bool ph,.slice ah nh ch,.slice dh mh lh,.bool wh] 51)).cell? ⟨g,j * 2,none⟩ = some u:=⟨_,(cell_of_row _ g _ cur _ (0,0) hg1).trans (Array.getElem?_eq_getElem (by omega))⟩
   have df0:=frozen_of_row (wr.alloc (.cells #[.string nmV,.bool pO,.slice aO nO cO,.slice dO mO lO,.bool hl,.bool pl,.slice al nl cl,.slice dl ml ll,.bool hh,.bool ph,.slice ah nh ch,.slice dh mh lh,.bool wh] 51)) g (j * 2) cur _ hg1
   have S1:=SE.put1 (i:=j) (o:=0) (a:=.string (⟨#[118,97,114,32]⟩ ++ nmV)) hlt (HEH.out j (Nat.le_refl _)) (by decide)
   have O1:Off g (wr.alloc (.cells #[.string nmV,.bool pO,.slice aO nO cO,.slice dO mO lO,.bool hl,.bool pl,.slice al nl cl,.slice dl ml ll,.bool hh,.bool ph,.slice ah nh ch,.slice dh mh lh,.bool wh] 51)) ((wr.alloc (.cells #[.string nmV,.bool pO,.slice aO nO cO,.slice dO mO lO,.bool hl,.bool pl,.slice al nl cl,.slice dl ml ll,.bool hh,.bool ph,.slice ah nh ch,.slice dh mh lh,.bool wh] 51)).setCell ⟨g,j * 2 + 0,none⟩ (.string (⟨#[118,97,114,32]⟩ ++ nmV))):=(Off.refl _ _).set _ _
   have hGU:wr.grownBy ((wr.alloc (.cells #[.string nmV,.bool pO,.slice aO nO cO,.slice dO mO lO,.bool hl,.bool pl,.slice al nl cl,.slice dl ml ll,.bool hh,.bool ph,.slice ah nh ch,.slice dh mh lh,.bool wh] 51)).setCell ⟨g,j * 2 + 0,none⟩ (.string (⟨#[118,97,114,32]⟩ ++ nmV))) (some g):=(grown_bel hx _).trans (grown_off O1)
   rw [Nat.add_zero] at S1 O1 hGU
   clear hev hV enm ehl ehh ewh HLn HE2 hbr hbw
   go_wp2
   clear r0 r1 r2 r3 r4 r5 r6 r7 r8 r9 r10 r11 r12 nb0 NB d0 df0
   obtain ⟨U,hU⟩:∃ U,U = wr:=⟨_,rfl⟩
   rw [← hU] at SE0 HLH HBR
   generalize (wr.alloc (.cells #[.string nmV,.bool pO,.slice aO nO cO,.slice dO mO lO,.bool hl,.bool pl,.slice al nl cl,.slice dl ml ll,.bool hh,.bool ph,.slice ah nh ch,.slice dh mh lh,.bool wh] 51)).setCell ⟨g,j * 2,none⟩ (.string (⟨#[118,97,114,32]⟩ ++ nmV)) = W2 at *
   rw [← hU] at hGU
   clear hx O1 hg1 SE hU
   go_loopw [29] (fun s29 wr=>∃ (k:Nat) (nv:Value) (E:Nat→List Value),k≤q∧s29 = .int .i64 k∧SL wr F 78 2 (.slice (some ⟨g,0,none⟩) P.vn P.vn) P.vn E∧E j = [.string (⟨#[118,97,114,32]⟩ ++ nmV),nv]∧(∀ t,t ≠ j→E t = E0 t)∧PtL wr U.heap.size nv k (fun k=>(G k,j * 3))∧U.grownBy wr (some g)) (fun s29 _=>q - (intOf s29).toNat)
   case atStart=>exact ⟨0,.slice none 0 0,_,Nat.zero_le _,rfl,S1,by simp,fun t ht=>by simp [ht],SL.nil _ _ _ _ _,hGU⟩
   case round =>
    clear S1 hGU
    obtain ⟨k,nv,E,hk,rfl,SE,hEj,hEo,hPt,hGU⟩:=hrel
    have HEJ:Hid (E j = [.string (⟨#[118,97,114,32]⟩ ++ nmV),nv]):=hEj
    have HEO:Hid (∀ t,t ≠ j→E t = E0 t):=hEo
    have HPT:Hid (PtL wr U.heap.size nv k (fun k=>(G k,j * 3))):=hPt
    have HGU:Hid (U.grownBy wr (some g)):=hGU
    clear hEj hEo hPt hGU
    by_cases hkq:k < q
    ·have hqI:(k:Int) < (q:Int):=by omega
     have hbi:Below w.heap.size w wr:=bel_grown (by rw [HFW.out];exact HBR.out) HGU.out (by rw [HFW.out];exact hg3)
     have l0:=kept_c hbi (HLL.out k hkq)
     have hv0:(0:Int) < (P.vn:Int):=by omega
     go_wp2_with fail
     clear l0
     have HBX:∀ w',Below wr.heap.size wr w'→w'.cell? ⟨g,j * 2 + 1,none⟩ = some (nv):=fun w' h=>by
      rcases (SE.below h).cell with h0 | ⟨g',eg,hc⟩
      ·omega
      ·cases eg
       exact hc j hlt 1 nv (by rw [HEJ.out];rfl)
     refine wp_region_noPanic (wp_region_guard (Till 12 12 (fun w'=>w'.cell? ⟨g,j * 2 + 1,none⟩ = some (nv)) (fun _=>True)) (by as_aux_lemma=>kernel_rfl) ?_)
     have hc0:Below wr.heap.size wr wr.drew:=bel_d1 _
     generalize wr.drew = z0 at *
     refine wpAnyG.tT 0 (v:=.slice (some ⟨g,0,none⟩) P.vn P.vn) (by decide) 12 (by as_aux_lemma=>kernel_rfl) (by rfl) ?y0 (HBX _ hc0) ?_
     case y0 =>
      rintro w' q0
      simp only [lgA,lgZ]
      go_simp
     simp only [lgA,lgZ,Act.put,lsA,lsZ,lsS]
     refine wpAnyG.tT 1 (v:=.int .i64 (j:Int)) (by decide) 12 (by as_aux_lemma=>kernel_rfl) (by rfl) ?y1 (HBX _ hc0) ?_
     case y1 =>
      rintro w' q0
      simp only [lgA,lgZ,lgS]
      go_simp
     simp only [lgA,lgZ,lgS,Act.put,lsA,lsZ,lsS]
     refine wpAnyG.tT 2 (v:=.slice (some ⟨g,0,none⟩) P.vn P.vn) (by decide) 12 (by as_aux_lemma=>kernel_rfl) (by rfl) ?y2 (HBX _ hc0) ?_
     case y2 =>
      rintro w' q0
      simp only [lgA,lgZ,lgS]
      go_simp
     simp only [lgA,lgZ,lgS,Act.put,lsA,lsZ,lsS]
     refine wpAnyG.tT 3 (v:=.int .i64 (j:Int)) (by decide) 12 (by as_aux_lemma=>kernel_rfl) (by rfl) ?y3 (HBX _ hc0) ?_
     case y3 =>
      rintro w' q0
      simp only [lgA,lgZ,lgS]
      go_simp
     simp only [lgA,lgZ,lgS,Act.put,lsA,lsZ,lsS]
     refine wpAnyG.tT 4 (v:=.pointer (some ⟨g,j * 2,none⟩)) (by decide) 12 (by as_aux_lemma=>kernel_rfl) (by rfl) ?y4 (HBX _ hc0) ?_
     case y4 =>
      rintro w' q0
      simp only [lgA,lgZ,lgS]
      go_simp
     simp only [lgA,lgZ,lgS,Act.put,lsA,lsZ,lsS]
     refine wpAnyG.tT 5 (v:=.pointer (some ⟨g,j * 2 + 1,none⟩)) (by decide) 12 (by as_aux_lemma=>kernel_rfl) (by rfl) ?y5 (HBX _ hc0) ?_
     case y5 =>
      rintro w' q0
      simp only [lgA,lgZ,lgS]
      go_simp
     simp only [lgA,lgZ,lgS,Act.put,lsA,lsZ,lsS]
     refine wpAnyG.tT 6 (v:=nv) (by decide) 12 (by as_aux_lemma=>kernel_rfl) (by rfl) ?y6 (HBX _ hc0) ?_
     case y6 =>
      rintro w' q0
      simp only [lgA,lgZ,lgS]
      go_simp
     simp only [lgA,lgZ,lgS,Act.put,lsA,lsZ,lsS]
     refine wpAnyG.tT 7 (v:=.slice (some ⟨G k,0,none⟩) P.vn vc) (by decide) 12 (by as_aux_lemma=>kernel_rfl) (by rfl) ?y7 (HBX _ hc0) ?_
     case y7 =>
      rintro w' q0
      simp only [lgA,lgZ,lgS]
      go_simp
     simp only [lgA,lgZ,lgS,Act.put,lsA,lsZ,lsS]
     refine wpAnyG.tT 8 (v:=.int .i64 (j:Int)) (by decide) 12 (by as_aux_lemma=>kernel_rfl) (by rfl) ?y8 (HBX _ hc0) ?_
     case y8 =>
      rintro w' q0
      simp only [lgA,lgZ,lgS]
      go_simp
     simp only [lgA,lgZ,lgS,Act.put,lsA,lsZ,lsS]
     refine wpAnyG.tT 9 (v:=.pointer (some ⟨G k,j * 3,none⟩)) (by decide) 12 (by as_aux_lemma=>kernel_rfl) (by rfl) ?y9 (HBX _ hc0) ?_
     case y9 =>
      rintro w' q0
      simp only [lgA,lgZ,lgS]
      go_simp
     simp only [lgA,lgZ,lgS,Act.put,lsA,lsZ,lsS]
     refine wpAnyG.one 10 (by as_aux_lemma=>kernel_rfl) (by decide) (by rfl) (fun K hK=>?_)
     simp only [lgA,lgZ,lgS]
     go_simp
     have hy:=bel_d0 z0 (.cells #[.pointer (some ⟨G k,j * 3,none⟩)] 82)
     have BX:=box_new z0 #[.pointer (some ⟨G k,j * 3,none⟩)] 82
     have hc1:Below wr.heap.size wr (z0.alloc (.cells #[.pointer (some ⟨G k,j * 3,none⟩)] 82)):=bel_tr hc0 hy
     obtain ⟨hz,hHz⟩:∃ hz,z0.heap.size = hz:=⟨_,rfl⟩
     rw [hHz] at BX ⊢
     generalize z0.alloc (.cells #[.pointer (some ⟨G k,j * 3,none⟩)] 82) = z1 at *
     refine hK _ _ ⟨fun _=>HBX _ hc1,fun _=>trivial⟩ ?_
     clear hK K
     refine wpAnyG.one 11 (by as_aux_lemma=>kernel_rfl) (by decide) (by rfl) (fun K hK=>?_)
     simp only [lgA,lgZ,lgS]
     have SLZ:=SL.below HPT.out hc1
     have hFz:U.heap.size≤z1.heap.size:=by have:=hc1.size;have:=HGU.out.size;omega
     refine wp_appS z1 _ _ 76 82 1 8 1 rfl Tryz.underlying76 infPtr (by decide) (by decide) (by decide) (by decide) U.heap.size nv k _ rfl SLZ hz 1 rfl (fun _=>[.pointer (some ⟨G k,j * 3,none⟩)]) [.pointer (some ⟨G k,j * 3,none⟩)] rfl (fun i hi q u hu=>by obtain rfl:i = 0:=(by omega);have hj:=(List.getElem?_eq_some_iff.1 hu).1;exact ⟨hj,by simpa using hu⟩) (fun u hu=>by simp at hu;rw [hu];rfl) BX (by omega) hFz _ rfl ?_
     intro g8 cap8 w8 SN hg hat hgl
     have kG:Kb U.heap.size [82] z1 w8:=kb_grown SLZ (Nat.le_refl _) hFz hg
     have SL8:SL w8 F 78 2 (.slice (some ⟨g,0,none⟩) P.vn P.vn) P.vn E:=(SE.below hc1).kb kG (by decide)
     obtain ⟨cur,hg1,hg2,hg3⟩:=SL8.there
     have e0:w8.cell? ⟨g,j * 2 + 1,none⟩ = some (nv):=by
      rcases SL8.cell with h0 | ⟨g',eg,hc⟩
      ·omega
      ·cases eg
       exact hc j hlt 1 nv (by rw [HEJ.out];rfl)
     have e1:=frozen_of_row w8 g (j * 2 + 1) cur _ hg1
     refine hK _ _ ⟨fun _=>e0,fun _=>trivial⟩ ?_
     clear hK K
     refine wpAnyG.one 12 (by as_aux_lemma=>kernel_rfl) (by decide) (by rfl) (fun K hK=>?_)
     simp only [lgA,lgZ,lgS]
     go_simp
     refine hK _ _ ⟨fun h=>absurd h (by decide),fun _=>trivial⟩ ?_
     clear hK K
     refine wpAnyG.one 13 (by as_aux_lemma=>kernel_rfl) (by decide) (by rfl) (fun K hK=>?_)
     simp only [lgA,lgZ,lgS]
     go_simp
     refine hK _ _ ⟨fun h=>absurd h (by decide),fun _=>trivial⟩ ?_
     clear hK K
     refine wpAnyG.one 14 (by as_aux_lemma=>kernel_rfl) (by decide) (by rfl) (fun K hK=>?_)
     simp only [lgA,lgZ,lgS]
     go_simp
     refine hK _ _ ⟨fun h=>absurd h (by decide),fun _=>trivial⟩ ?_
     clear hK K
     refine wpAnyG.done (by as_aux_lemma=>kernel_rfl) (NoPanic.normal ?_)
     have S9:=SL8.put1 (i:=j) (o:=1) (a:=.slice (some ⟨g8,0,none⟩) (k + 1) cap8) hlt HEJ.out (by decide)
     have O9:Off g w8 (w8.setCell ⟨g,j * 2 + 1,none⟩ (.slice (some ⟨g8,0,none⟩) (k + 1) cap8)):=(Off.refl _ _).set _ _
     have kS:Kb F [78] w8 (w8.setCell ⟨g,j * 2 + 1,none⟩ (.slice (some ⟨g8,0,none⟩) (k + 1) cap8)):=kb_off hg1 hg3 O9
     have P9:PtL (w8.setCell ⟨g,j * 2 + 1,none⟩ (.slice (some ⟨g8,0,none⟩) (k + 1) cap8)) U.heap.size (.slice (some ⟨g8,0,none⟩) (k + 1) cap8) (k + 1) (fun k=>(G k,j * 3)):=by
      have h1:=SN.kb kS (by decide)
      refine h1.congr fun i hi=>?_
      rcases (by omega:i < k∨i = k) with h | rfl
      ·simp only [h,if_true]
      ·simp
     have hG9:U.grownBy (w8.setCell ⟨g,j * 2 + 1,none⟩ (.slice (some ⟨g8,0,none⟩) (k + 1) cap8)) (some g):=by
      have h1:=HGU.out.trans (grown_bel hc1 (some g))
      have h2:=h1.andThen hg (fun b hb=>.inl ((SLZ.lt b hb).1))
      exact h2.trans (grown_off O9)
     have E9:(fun t=>if t = j then [Value.string (⟨#[118,97,114,32]⟩ ++ nmV),nv].set 1 (.slice (some ⟨g8,0,none⟩) (k + 1) cap8) else E t) j = [.string (⟨#[118,97,114,32]⟩ ++ nmV),.slice (some ⟨g8,0,none⟩) (k + 1) cap8]:=by simp
     have E9o:∀ t,t ≠ j→(fun t=>if t = j then [Value.string (⟨#[118,97,114,32]⟩ ++ nmV),nv].set 1 (.slice (some ⟨g8,0,none⟩) (k + 1) cap8) else E t) t = E0 t:=fun t ht=>by
      simp only [ht,if_false];exact HEO.out t ht
     clear SE SL8 SLZ SN O9 kS hg hat hgl kG HBX hc0 hc1 hg1 e0 e1 BX hy HPT HGU HEJ HEO hbi
     generalize w8.setCell ⟨g,j * 2 + 1,none⟩ (.slice (some ⟨g8,0,none⟩) (k + 1) cap8) = w9 at *
     go_wp2
     go_roundw
     case rel=>first | exact ⟨k + 1,_,_,by omega,by go_num,S9,E9,E9o,P9,hG9⟩ | ((repeat apply Exists.intro);refine ⟨?_,rfl⟩;exact ⟨k + 1,_,_,by omega,by go_num,S9,E9,E9o,P9,hG9⟩)
     case measure=>simp [intOf];omega
    ·have hqI:¬ (k:Int) < (q:Int):=by omega
     obtain rfl:k = q:=by omega
     obtain ⟨cw,hcw,_,_⟩:=SE0.there
     have hb9:Below F w wr:=by
      have h2:=bel_grown (w0:=w) (by rw [HFW.out];exact HBR.out) HGU.out (by rw [HFW.out];exact hg3)
      rw [HFW.out] at h2
      exact h2
     have hFU:F≤U.heap.size:=by have:=HBR.out.size;have:=HFW.out;omega
     have L9:∀ t,t < j + 1→LnC wr F (E t) (wVar (vnm P t)) k (fun k=>(G k,t * 3)):=fun t ht=>by
      rcases (by omega:t < j∨t = j) with h | rfl
      ·rw [HEO.out t (by omega)]
       exact (HLH.out t h).kept HGU.out hcw
      ·rw [HEJ.out]
       refine ⟨_,_,rfl,?_,SL.mono HPT.out hFU⟩
       rw [HNM.out]
       show (⟨#[118,97,114,32]⟩ ++ (P.V t).nm:ByteArray).data.toList = _
       rw [ByteArray.data_append,Array.toList_append]
       rfl
     have E9:∀ t,j + 1≤t→E t = [.string ⟨#[]⟩,.slice none 0 0]:=fun t ht=>by
      rw [HEO.out t (by omega)];exact HEH.out t (by omega)
     clear hcw HLH HEH HBR HPT HGU HEJ HEO SE0
     go_wp2
     go_roundw
     case rel=>first | exact ⟨j + 1,E,by omega,by go_num,SE,L9,E9,hb9⟩ | ((repeat apply Exists.intro);refine ⟨?_,rfl⟩;exact ⟨j + 1,E,by omega,by go_num,SE,L9,E9,hb9⟩)
     case measure=>simp [intOf];omega
  ·have hkI:¬ (j:Int) < (P.vn:Int):=by omega
   obtain rfl:j = P.vn:=by omega
   go_wp2
   go_ret
   exact ⟨g,rfl,by rw [HFW.out];exact ⟨E0,SE,HLn⟩,by rw [HFW.out];exact hbr⟩
theorem varLinesQ (P:Prob) {q gl vc:Nat} {G:Nat→Nat} (w:World) (hP:PQ w P) (hK:P.K≤1048576) (hq:q≤2) (hL:∀ k,k < q→w.cell? ⟨gl,k,none⟩ = some (.slice (some ⟨G k,0,none⟩) P.vn vc)) :
  Calls Tryz.prog 28 #[.slice P.va P.vn P.vc,.slice (some ⟨gl,0,none⟩) q q] w fun e w'=>∃ g,e = .returned (.slice (some ⟨g,0,none⟩) P.vn P.vn)∧LsQ w' w.heap.size (.slice (some ⟨g,0,none⟩) P.vn P.vn) P.vn (fun t=>wVar (vnm P t)) (fun _=>q) (fun t k=>(G k,t * 3))∧Below w.heap.size w w':=varLinesA P rfl w hP hK hq hL
theorem LsQ.mono {w:World} {F F':Nat} {v:Value} {n:Nat} {W:Nat→List UInt8} {K:Nat→Nat} {D:Nat→Nat→Nat × Nat} (h:LsQ w F v n W K D) (hF:F'≤F):LsQ w F' v n W K D:=by
 obtain ⟨E,hS,hL⟩:=h
 refine ⟨E,hS.mono hF,fun t ht=>?_⟩
 obtain ⟨s,nv,e,hs,hp⟩:=hL t ht
 exact ⟨s,nv,e,hs,SL.mono hp hF⟩
theorem LsQ.congr {w:World} {F:Nat} {v:Value} {n:Nat} {W W':Nat→List UInt8} {K K':Nat→Nat} {D D':Nat→Nat→Nat × Nat} (h:LsQ w F v n W K D) (e:∀ t,t < n→W t = W' t∧K t = K' t∧∀ k,k < K t→D t k = D' t k):LsQ w F v n W' K' D':=by
 obtain ⟨E,hS,hL⟩:=h
 refine ⟨E,hS,fun t ht=>?_⟩
 obtain ⟨s,nv,e1,hs,hp⟩:=hL t ht
 obtain ⟨e2,e3,e4⟩:=e t ht
 refine ⟨s,nv,e1,hs.trans e2,?_⟩
 rw [← e3]
 refine SL.congr hp fun k hk=>?_
 rw [e4 k hk]
theorem LsQ.form {w:World} {F:Nat} {v:Value} {n:Nat} {W:Nat→List UInt8} {K:Nat→Nat} {D:Nat→Nat→Nat × Nat} (h:LsQ w F v n W K D):∃ a c,v = .slice a n c:=by
 obtain ⟨E,hS,_⟩:=h
 obtain ⟨a,c,e,_⟩:=hS.form
 exact ⟨a,c,e⟩
def jn {α:Type} (n:Nat) (f g:Nat→α) (t:Nat):α:=if t < n then f t else g (t - n)
set_option maxHeartbeats 1000000 in
theorem wp_appL (w:World) {o:Oper} {a:Act} {KK:Act→World→Prop} {Q:Exit→Act→World→Prop} (s x:Operand)
  (ho:o.op = .call { callee:=.builtin .append,args:=#[s,x],argTypes:=#[65,65] })
  {F n q h cap:Nat} {v:Value} {W W':Nat→List UInt8} {K K':Nat→Nat} {D D':Nat→Nat→Nat × Nat} (hs:a.eval s = v) (hx:a.eval x = .slice (some ⟨h,0,none⟩) q cap)
  (hL:LsQ w F v n W K D) (hU:LsQ w F (.slice (some ⟨h,0,none⟩) q cap) q W' K' D') (hn:n≤10000000) (hq:q≤10000000) (hF:F≤w.heap.size)
  (hK:∀ v' w',LsQ w' F v' (n + q) (jn n W W') (jn n K K') (jn n D D')→Kb F [78] w w'→KK (a.put o.dst v') w') :
  Oper.wp Tryz.prog o a w KK Q:=by
 obtain ⟨E,hS,hE⟩:=hL
 obtain ⟨E',hS',hE'⟩:=hU
 rcases Nat.eq_zero_or_pos q with rfl | hq0
 ·obtain ⟨i0,hi,hxx⟩:=Option.map_eq_some_iff.1 infoLine
  obtain ⟨va,vc,rfl,hvc⟩:=hS.form
  have hr:(Builtin.append_ #[65,65] o.type #[.slice va n vc,.slice (some ⟨h,0,none⟩) 0 cap]).run Tryz.prog w = .ok (.slice va n vc) w:=by
   cases va <;> simp [Builtin.append_,run_underlying Tryz.underlying65,sizeOf,typeInfo,hi,Builtin.lenOf,Builtin.firstCells,hvc,storeCells,loadCells,loadCellsFrom,Result.andThen]
  unfold Oper.wp
  simp [execOp,ho,resolve,invoke,builtin,hs,hx,hr,Result.andThen]
  refine hK _ _ ⟨E,hS,fun t ht=>?_⟩ (Kb.refl _ _ _)
  have ht':t < n:=ht
  unfold jn
  simp only [ht',if_true]
  exact hE t ht'
 ·obtain ⟨vs,h1,h2⟩:=id hS'
  have hcell:∀ k,k < q * 2→∃ u,vs[k]? = some u∧u.oneCell' = true:=fun k hk=>by
   obtain ⟨s',nv,e,_,hp⟩:=hE' (k / 2) (by omega)
   obtain ⟨na,nc,rfl,_⟩:=SL.form hp
   have hj:k % 2 < 2:=Nat.mod_lt _ (by decide)
   have hk2:k / 2 * 2 + k % 2 = k:=by omega
   rcases (by omega:k % 2 = 0∨k % 2 = 1) with e2 | e2
   ·have:=(h2 (k / 2) (by omega) 0 (.string s') (by rw [e];rfl)).2
    rw [show k / 2 * 2 + 0 = k by omega] at this
    exact ⟨_,this,rfl⟩
   ·have:=(h2 (k / 2) (by omega) 1 (.slice na (K' (k / 2)) nc) (by rw [e];rfl)).2
    rw [show k / 2 * 2 + 1 = k by omega] at this
    exact ⟨_,this,rfl⟩
  have hbox:BoxC w h vs:=fun i u hu=>by
   have hi:i < q * 2:=by have:=(List.getElem?_eq_some_iff.1 hu).1;rw [h1.1] at this;exact this
   rw [h1.cellAt i hi]
   exact hu
  refine wp_appS w s x 65 78 2 40 q ho Tryz.underlying65 infLine (by decide) (by decide) hq0 hq F v n E hs hS h cap hx E' vs h1.1 h2 (fun u hu=>?_) hbox (by omega) hF _ rfl ?_
  ·obtain ⟨k,hk,rfl⟩:=List.getElem_of_mem hu
   obtain ⟨u',e1,e2⟩:=hcell k (by rw [h1.1] at hk;exact hk)
   rw [List.getElem?_eq_getElem hk] at e1
   simp only [Option.some.injEq] at e1
   rw [e1];exact e2
  ·intro g cap' w' SN hg _ _
   have kk:=kb_grown hS (Nat.le_refl _) hF hg
   refine hK _ _ ⟨_,SN,fun t ht=>?_⟩ kk
   unfold jn
   by_cases htn:t < n
   ·simp only [htn,if_true]
    exact (hE t htn).kb kk (by decide)
   ·simp only [htn,if_false]
    exact (hE' (t - n) (by omega)).kb kk (by decide)
theorem wpList_appL (w:World) {ops:Array Oper} {rest:List Oper} {o:Oper} {a:Act} {Q:Exit→Act→World→Prop} (hg:o.guard = none) (s x:Operand)
  (ho:o.op = .call { callee:=.builtin .append,args:=#[s,x],argTypes:=#[65,65] })
  {F n q h cap:Nat} {v:Value} {W W':Nat→List UInt8} {K K':Nat→Nat} {D D':Nat→Nat→Nat × Nat} (hs:a.eval s = v) (hx:a.eval x = .slice (some ⟨h,0,none⟩) q cap)
  (hL:LsQ w F v n W K D) (hU:LsQ w F (.slice (some ⟨h,0,none⟩) q cap) q W' K' D') (hn:n≤10000000) (hq:q≤10000000) (hF:F≤w.heap.size)
  (hK:∀ v' w',LsQ w' F v' (n + q) (jn n W W') (jn n K K') (jn n D D')→Kb F [78] w w'→wpList Tryz.prog ops Q rest (a.put o.dst v') w'):wpList Tryz.prog ops Q (o :: rest) a w :=
 wpList_plain hg fun _ hK'=>wp_appL w s x ho hs hx hL hU hn hq hF fun v' w' h1 h2=>hK' _ _ (hK v' w' h1 h2)
theorem ls_one {w:World} {F:Nat} {c:Array Value} {wd:List UInt8} {K:Nat} {D:Nat→Nat × Nat} (h:LnC w F c.toList wd K D) (hF:F≤w.heap.size):LsQ (w.alloc (.cells c 78)) F (.slice (some ⟨w.heap.size,0,none⟩) 1 1) 1 (fun _=>wd) (fun _=>K) (fun _=>D):=by
 have hc:c.size = 2:=by
  obtain ⟨s,nv,e,_⟩:=h
  have:=congrArg List.length e
  simpa using this
 have hb:=bel_d0 w (.cells c 78)
 refine ⟨fun _=>c.toList,sl_box1 hc hF,fun t _=>h.kb (kb_bel [] hb (Nat.le_refl _)) (by decide)⟩
theorem tot_leS {Z:Nat→Nat} {i n:Nat} (h:i < n):Z i≤tot Z n:=by
 induction n with
 | zero=>omega
 | succ n ih =>
  show Z i≤tot Z n + Z n + 1
  rcases (by omega:i < n∨i = n) with h1 | rfl
  ·have:=ih h1;omega
  ·omega
theorem row_lt {v vn rn i:Nat} (hi:i < nrV v rn):hdV v + nvV v vn + i < lnsN v vn rn:=by unfold lnsN;omega
theorem var_lt {v vn rn j:Nat} (hj:j < nvV v vn):hdV v + j < lnsN v vn rn:=by unfold lnsN;omega
theorem okS_kb {w w':World} {F v:Nat} {P:Prob} {s:ByteArray} {t a nx ny nz:Nat} {cs:Array Value} {L:List TypeId} {F':Nat} (h:∃ R,OkS w F v P s R t a nx ny nz cs) (k:Kb F' L w w') (h1:27 ∉ L) (h2:107 ∉ L):∃ R,OkS w' F v P s R t a nx ny nz cs:=by
 obtain ⟨R,hL,p,a1,na,ca,d,nd,cd,xv,yv,zv,e,g,x,y,z,dj⟩:=h
 exact ⟨R,hL,p,a1,na,ca,d,nd,cd,xv,yv,zv,e,g.imp (fun g=>⟨g.1,g.2.kb k h2⟩) id,x.kb k h1 h2,y.kb k h1 h2,z.kb k h1 h2,dj⟩
theorem ctQ_kb {w w':World} {F v vn rn:Nat} {R:Nat→List Rat} {cs:Array Value} {L:List TypeId} {F':Nat} (h:CtQ w F v vn rn R cs) (k:Kb F' L w w') (h1:27 ∉ L) (h2:107 ∉ L):CtQ w' F v vn rn R cs:=by
 obtain ⟨p,a,na,ca,d,nd,cd,xa,xc,ya,yc,za,zc,e,g,x,y,z⟩:=h
 exact ⟨p,a,na,ca,d,nd,cd,xa,xc,ya,yc,za,zc,e,g.imp (fun g=>⟨g.1,g.2.kb k h2⟩) id,x.kb k h1 h2,y.kb k h1 h2,z.kb k h1 h2⟩
def lstT (v vn rn:Nat):Nat:=hdV v + nvV v vn + nrV v rn
theorem hd_pos (v:Nat):1≤hdV v:=by unfold hdV;split <;> omega
theorem last_W {v vn rn:Nat} {V U:Nat→ByteArray}:lnsW v vn V rn U (lstT v vn rn) = wEnd∧lnsK v vn rn (lstT v vn rn) = 0:=by
 have:=hd_pos v
 unfold lnsW lnsK lstT
 constructor
 ·rw [if_neg (by omega),if_neg (by omega),if_neg (by omega),if_neg (by omega)]
 ·rw [if_neg (by omega),if_neg (by omega),if_neg (by omega),if_neg (by omega)]
theorem row_W {v vn rn i:Nat} {V U:Nat→ByteArray} (hi:i < nrV v rn):lnsW v vn V rn U (hdV v + nvV v vn + i) = wRow (U i)∧lnsK v vn rn (hdV v + nvV v vn + i) = 1:=by
 have:=hd_pos v
 unfold lnsW lnsK
 constructor
 ·rw [if_neg (by omega),if_neg (by omega),if_neg (by omega),if_pos (by omega),show hdV v + nvV v vn + i - hdV v - nvV v vn = i by omega]
 ·rw [if_neg (by omega),if_neg (by omega),if_neg (by omega),if_pos (by omega)]
theorem var_W {v vn rn j:Nat} {V U:Nat→ByteArray} (hj:j < nvV v vn):lnsW v vn V rn U (hdV v + j) = wVar (V j)∧lnsK v vn rn (hdV v + j) = (if v = 3 then 2 else 1):=by
 have:=hd_pos v
 unfold lnsW lnsK
 constructor
 ·rw [if_neg (by omega),if_neg (by omega),if_pos (by omega),show hdV v + j - hdV v = j by omega]
 ·rw [if_neg (by omega),if_neg (by omega),if_pos (by omega)]
theorem val_W {vn rn:Nat} {V U:Nat→ByteArray}:lnsW 1 vn V rn U 1 = wVal∧lnsK 1 vn rn 1 = 1:=⟨rfl,rfl⟩
theorem okS_end {w:World} {F v:Nat} {P:Prob} {s:ByteArray} {a b:Nat} {cs:Array Value} (h:∃ R,OkS w F v P s R (lstT v P.vn P.rn) a (nvV v P.vn) (nrV v P.rn) (nzV v P.vn) cs) (he:s.data.toList.drop a = wEnd ++ 10 :: s.data.toList.drop b) (hb:b = s.size) :
  ∃ R,Ans v P.vn (vnm P) P.rn (unm P) s.data.toList R∧CtQ w F v P.vn P.rn R cs:=by
 obtain ⟨R,hL,p,a1,na,ca,d,nd,cd,xv,yv,zv,e,g,x,y,z,dj⟩:=h
 obtain ⟨w1,w2⟩:=last_W (v:=v) (vn:=P.vn) (rn:=P.rn) (V:=vnm P) (U:=unm P)
 have h2:=hL.snoc (rs:=[]) (b:=s.data.toList.drop b) w2.symm (by rw [w1,ln0];exact he)
 rw [hb,drop_none (Nat.le_refl _)] at h2
 have h3:Lns (lnsW v P.vn (vnm P) P.rn (unm P)) (lnsK v P.vn P.rn) s.data.toList (putR R (lstT v P.vn P.rn) []) (lnsN v P.vn P.rn) []:=h2
 have hR:∀ t,t < lstT v P.vn P.rn→putR R (lstT v P.vn P.rn) [] t = R t:=fun t ht=>putR_off _ _ ht
 obtain ⟨xa,xc,rfl⟩:=x.form
 obtain ⟨ya,yc,rfl⟩:=y.form
 obtain ⟨za,zc,rfl⟩:=z.form
 have hd:=hd_pos v
 refine ⟨_,h3,p,a1,na,ca,d,nd,cd,xa,xc,ya,yc,za,zc,e,?_,x.congr fun j hj=>?_,y.congr fun j hj=>?_,z.congr fun j hj=>?_⟩
 ·refine g.imp (fun g=>⟨g.1,?_⟩) id
  rw [hR 1 (by unfold lstT;rw [g.1];show 1 < 2 + _ + _;omega)]
  exact g.2
 ·unfold xR;rw [hR _ (by unfold lstT;omega)]
 ·unfold yR;rw [hR _ (by unfold lstT;omega)]
 ·unfold zR;rw [hR _ (by unfold lstT;unfold nzV at hj;unfold nvV;split at hj <;> simp_all <;> omega)]
theorem okS_tail {w:World} {F v:Nat} {P:Prob} {s:ByteArray} {a b nx ny nz:Nat} {cs:Array Value} (h:∃ R,OkS w F v P s R (lstT v P.vn P.rn) a nx ny nz cs) (he:s.data.toList.drop a = wEnd ++ 10 :: s.data.toList.drop b) (hb:b≤s.size) (hne:¬ b = s.size):∀ R,¬ Ans v P.vn (vnm P) P.rn (unm P) s.data.toList R:=fun R' h'=>by
 obtain ⟨R,hL,_⟩:=h
 obtain ⟨w1,w2⟩:=last_W (v:=v) (vn:=P.vn) (rn:=P.rn) (V:=vnm P) (U:=unm P)
 have h2:=hL.snoc (rs:=[]) (b:=s.data.toList.drop b) w2.symm (by rw [w1,ln0];exact he)
 have h3:=(Lns.uniq h2 h').2
 have:=congrArg List.length h3
 rw [List.length_drop,len_list,List.length_nil] at this
 omega
theorem okS_word {w:World} {F v:Nat} {P:Prob} {s:ByteArray} {a nx ny nz:Nat} {cs:Array Value} (h:∃ R,OkS w F v P s R (lstT v P.vn P.rn) a nx ny nz cs) (hn:∀ m,¬ s.data.toList.drop a = wEnd ++ 10 :: m):∀ R,¬ Ans v P.vn (vnm P) P.rn (unm P) s.data.toList R:=by
 obtain ⟨R,hL,_⟩:=h
 obtain ⟨w1,w2⟩:=last_W (v:=v) (vn:=P.vn) (rn:=P.rn) (V:=vnm P) (U:=unm P)
 refine no_ans hL (Nat.lt_succ_self _) fun rs b h1 h2=>?_
 rw [w2,List.length_eq_zero_iff] at h1
 rw [w1,h1,ln0] at h2
 exact hn _ h2
theorem str_ne6 {t:ByteArray} {l:List UInt8} (h:¬ t = ⟨l.toArray⟩):(t.toList == l) = false:=by
 rw [beq_eq_false_iff_ne,ByteArray.toList_eq]
 intro e
 exact h (ba_eq (by rw [e]))
theorem wd_nob {v:Nat}:NoB (wdV v):=by
 unfold wdV NoB
 split
 ·decide
 ·split
  ·decide
  ·decide
theorem wd_inj {v v':Nat} (h1:1≤v) (h2:v≤3) (h3:1≤v') (h4:v'≤3) (e:wdV v = wdV v'):v = v':=by
 rcases (by omega:v = 1∨v = 2∨v = 3) with rfl | rfl | rfl <;> rcases (by omega:v' = 1∨v' = 2∨v' = 3) with rfl | rfl | rfl <;> first | rfl | (exact absurd e (by decide))
theorem no_other {P:Prob} {v v':Nat} {l m:List UInt8} {R:Nat→List Rat} (hl:l = wdV v ++ 10 :: m) (h1:1≤v) (h2:v≤3) (h3:1≤v') (h4:v'≤3) (h:Ans v' P.vn (vnm P) P.rn (unm P) l R) (x:∀ R,¬ Ans v P.vn (vnm P) P.rn (unm P) l R):False:=by
 obtain ⟨m',e⟩:=h.head
 rw [hl] at e
 obtain ⟨e1,_⟩:=nob_split (.inr rfl) wd_nob wd_nob (fun b t hbt=>by simp only [List.cons.injEq] at hbt;exact .inr hbt.1.symm) e
 obtain rfl:=wd_inj h1 h2 h3 h4 e1
 exact x R h
theorem line_step {G:Rat→Prop} {l wt nm d3 d7:List UInt8} {ok3 ok7:Bool} (hl:(ok3 = true∧l = wt ++ 32 :: (nm ++ 32 :: d3))∨(ok3 = false∧∀ m,¬ l = wt ++ 32 :: (nm ++ 32 :: m)))
  (hn:(ok7 = ok3∧∃ r,d3 = tq r ++ 10 :: d7∧G r)∨(ok7 = false∧∀ r m,¬ d3 = tq r ++ 10 :: m)) :
  (ok7 = true∧∃ r,Ln l (wt ++ 32 :: nm) [r] d7∧G r)∨(ok7 = false∧∀ rs b,rs.length = 1→¬ Ln l (wt ++ 32 :: nm) rs b):=by
 have key:∀ r x,Ln l (wt ++ 32 :: nm) [r] x↔l = wt ++ 32 :: (nm ++ 32 :: (tq r ++ 10 :: x)):=fun r x=>by rw [ln1];simp
 have bad:(∀ m,¬ l = wt ++ 32 :: (nm ++ 32 :: m))→∀ rs b,rs.length = 1→¬ Ln l (wt ++ 32 :: nm) rs b:=fun h rs b h1 h2=>by
  obtain ⟨r,rfl⟩:=len1 h1
  exact h _ ((key _ _).1 h2)
 rcases hl with ⟨rfl,e⟩ | ⟨rfl,h⟩
 ·rcases hn with ⟨rfl,r,h1,h2⟩ | ⟨rfl,h1⟩
  ·exact .inl ⟨rfl,r,(key _ _).2 (by rw [e,h1]),h2⟩
  ·refine .inr ⟨rfl,fun rs b h3 h4=>?_⟩
   obtain ⟨r,rfl⟩:=len1 h3
   have h5:=(key _ _).1 h4
   rw [e] at h5
   have h6:=List.append_cancel_left h5
   simp only [List.cons.injEq,true_and] at h6
   have h7:=List.append_cancel_left h6
   simp only [List.cons.injEq,true_and] at h7
   exact h1 _ _ h7
 ·rcases hn with ⟨rfl,_⟩ | ⟨rfl,_⟩
  ·exact .inr ⟨rfl,bad h⟩
  ·exact .inr ⟨rfl,bad h⟩
theorem row_put {w8 w9 U z2:World} {F v i a b7 nx:Nat} {P:Prob} {s:ByteArray} {R:Nat→List Rat} {r:Rat} {p:Bool} {a1:Option Addr} {na ca:Nat} {d:Option Addr} {nd cd:Nat} {xv yv zv:Value} {E:Nat→List Value} {f7:Bool} {c7:Option Addr} {n7 k7:Nat} {d7:Option Addr} {m7 l7:Nat} {g8 cap8:Nat} (hi:i < nrV v P.rn)
  (hL:Lns (lnsW v P.vn (vnm P) P.rn (unm P)) (lnsK v P.vn P.rn) s.data.toList R (hdV v + nvV v P.vn + i) (s.data.toList.drop a))
  (GV:v = 1∧GR U F p a1 na ca d nd cd ((R 1).getD 0 0) 5000000∨¬ v = 1∧p = false∧a1 = none∧na = 0∧ca = 0∧d = none∧nd = 0∧cd = 0)
  (NX:NL U F xv nx (xR v R)) (hnx:nx≤nvV v P.vn) (SE:SL U F 27 3 yv i E) (EE:∀ q,q < i→∃ f c m k c' m' k',E q = [.bool f,.slice c m k,.slice c' m' k']∧GR U F f c m k c' m' k' (yR v P.vn R q) 5000000) (NZ:NL U F zv 0 (zR v R)) (dj:∀ g,(xv.ownBlock = some g→yv.ownBlock ≠ some g∧zv.ownBlock ≠ some g)∧(zv.ownBlock = some g→yv.ownBlock ≠ some g))
  (hc2:Kb F [58] U z2) (hFz:F≤z2.heap.size) (SN:SL w8 F 27 3 (.slice (some ⟨g8,0,none⟩) (i + 1) cap8) (i + 1) (fun q=>if q < i then E q else [.bool f7,.slice c7 n7 k7,.slice d7 m7 l7])) (hg:z2.grownBy w8 yv.ownBlock) (hat:yv.ownBlock = some g8∨g8 = z2.heap.size) (kS:Kb F [35] w8 w9)
  (hln:Ln (s.data.toList.drop a) (wRow (unm P i)) [r] (s.data.toList.drop b7)) (hr:GR z2 F f7 c7 n7 k7 d7 m7 l7 r 5000000) :
  OkS w9 F v P s (putR R (hdV v + nvV v P.vn + i) [r]) (hdV v + nvV v P.vn + (i + 1)) b7 nx (i + 1) 0 #[.int .i64 (v:Int),.bool p,.slice a1 na ca,.slice d nd cd,xv,.slice (some ⟨g8,0,none⟩) (i + 1) cap8,zv]:=by
 obtain ⟨w1,w2⟩:=row_W (v:=v) (vn:=P.vn) (rn:=P.rn) (V:=vnm P) (U:=unm P) hi
 have hd:=hd_pos v
 have hR:∀ t,t < hdV v + nvV v P.vn + i→putR R (hdV v + nvV v P.vn + i) [r] t = R t:=fun t ht=>putR_off _ _ ht
 have SZ:=SE.kb hc2 (by decide)
 have kG:=kb_grown SZ (Nat.le_refl _) hFz hg
 have XZ:NL w8 F xv nx (xR v R):=(NX.kb hc2 (by decide) (by decide)).grow SZ hFz (fun g e=>((dj g).1 e).1) hg
 have YN:NL w8 F (.slice (some ⟨g8,0,none⟩) (i + 1) cap8) (i + 1) (yR v P.vn (putR R (hdV v + nvV v P.vn + i) [r])):=by
  refine NL.app (w:=z2) SZ (fun q hq=>?_) hFz SN hg ?_
  ·obtain ⟨f,c,m,k,c',m',k',e,g⟩:=EE q hq
   exact ⟨f,c,m,k,c',m',k',e,by unfold yR at *;rw [hR _ (by omega)];exact g.kb hc2 (by decide)⟩
  ·unfold yR;rw [putR_at];exact hr
 have new:∀ g,(yv.ownBlock = some g→False)→g < z2.heap.size→(Value.slice (some ⟨g8,0,none⟩) (i + 1) cap8).ownBlock ≠ some g:=fun g h1 h2 e=>by
  have e2:g8 = g:=by simpa [Value.ownBlock] using e
  rcases hat with h | h
  ·exact h1 (by rw [h,e2])
  ·omega
 refine ⟨hL.snoc w2.symm (by rw [w1];exact hln),p,a1,na,ca,d,nd,cd,xv,_,zv,rfl,?_,(XZ.kb kS (by decide) (by decide)).congr (fun j hj=>?_),YN.kb kS (by decide) (by decide),?_,fun g=>⟨fun e=>⟨new g (fun h=>((dj g).1 e).1 h) ?_,((dj g).1 e).2⟩,fun e=>new g (fun h=>(dj g).2 e h) ?_⟩⟩
 ·refine GV.imp (fun g=>⟨g.1,?_⟩) id
  rw [hR 1 (by rw [g.1];show 1 < 2 + _ + _;omega)]
  exact ((g.2.kb hc2 (by decide)).kb kG (by decide)).kb kS (by decide)
 ·unfold xR;rw [hR _ (by omega)]
 ·obtain ⟨E',h1,_⟩:=NZ
  refine ⟨E',((h1.kb hc2 (by decide)).kept hg (fun k e=>(dj k).2 e)).kb kS (by decide),fun i hi=>by omega⟩
 ·obtain ⟨E',x1,_⟩:=NX
  have:=(x1.lt g e).2
  have:=hc2.size
  omega
 ·obtain ⟨E',x1,_⟩:=NZ
  have:=(x1.lt g e).2
  have:=hc2.size
  omega
def CertR (P:Prob) (v C gx gy gz:Nat) (w:World) (e:Ending) (w':World):Prop :=
 ∃ la lc,e = .returned (.slice la (lnsN v P.vn P.rn) lc)∧LsQ w' w.heap.size (.slice la (lnsN v P.vn P.rn) lc) (lnsN v P.vn P.rn) (lnsW v P.vn (vnm P) P.rn (unm P)) (lnsK v P.vn P.rn) (dst v P.vn C gx gy gz)∧Below w.heap.size w w'
theorem jn_lt {α:Type} {n t:Nat} {f g:Nat→α} (h:t < n):jn n f g t = f t:=if_pos h
theorem jn_ge {α:Type} {n t:Nat} {f g:Nat→α} (h:n≤t):jn n f g t = g (t - n):=if_neg (by omega)
theorem w_zero {v vn rn:Nat} {V U:Nat→ByteArray}:wdV v = lnsW v vn V rn U 0:=(if_pos rfl).symm
theorem k_zero {v vn rn:Nat}:0 = lnsK v vn rn 0:=(if_pos rfl).symm
theorem dst_val {vn C gx gy gz k:Nat}:dst 1 vn C gx gy gz 1 k = (C,1):=rfl
theorem dst_var {v vn C gx gy gz j k:Nat} (hj:j < nvV v vn):dst v vn C gx gy gz (hdV v + j) k = (if k = 0 then (gx,j * 3) else (gz,j * 3)):=by
 unfold dst
 rw [if_neg (by omega),if_pos (by omega),show hdV v + j - hdV v = j by omega]
theorem dst_row {v vn C gx gy gz i k:Nat}:dst v vn C gx gy gz (hdV v + nvV v vn + i) k = (gy,i * 3):=by
 unfold dst
 rw [if_neg (by omega),if_neg (by omega),show hdV v + nvV v vn + i - hdV v - nvV v vn = i by omega]
theorem lines1 (P:Prob) (C gx gy gz t:Nat) (ht:t < 2 + P.vn + P.rn + 1) :
  jn (2 + P.vn + P.rn) (jn (2 + P.vn) (jn (2) (jn (1) (fun _=>wdV 1) (fun _=>wVal)) (fun t=>wVar (vnm P t))) (fun t=>wRow (unm P t))) (fun _=>wEnd) t = lnsW 1 P.vn (vnm P) P.rn (unm P) t∧jn (2 + P.vn + P.rn) (jn (2 + P.vn) (jn (2) (jn (1) (fun _=>0) (fun _=>1)) (fun _=>1)) (fun _=>1)) (fun _=>0) t = lnsK 1 P.vn P.rn t∧∀ k,k < jn (2 + P.vn + P.rn) (jn (2 + P.vn) (jn (2) (jn (1) (fun _=>0) (fun _=>1)) (fun _=>1)) (fun _=>1)) (fun _=>0) t→jn (2 + P.vn + P.rn) (jn (2 + P.vn) (jn (2) (jn (1) (fun _ _=>(0,0)) (fun _ _=>(C,1))) (fun t _=>(gx,t * 3))) (fun t _=>(gy,t * 3))) (fun _ _=>(0,0)) t k = dst 1 P.vn C gx gy gz t k:=by
 by_cases a0:t = 0
 ·subst a0
  refine ⟨by rw [jn_lt (by omega),jn_lt (by omega),jn_lt (by omega),jn_lt (by omega)];exact w_zero,by rw [jn_lt (by omega),jn_lt (by omega),jn_lt (by omega),jn_lt (by omega)];exact k_zero,fun k hk=>?_⟩
  rw [jn_lt (by omega),jn_lt (by omega),jn_lt (by omega),jn_lt (by omega)] at hk
  rw [jn_lt (by omega),jn_lt (by omega),jn_lt (by omega),jn_lt (by omega)]
  omega
 by_cases a1:t = 1
 ·subst a1
  refine ⟨by rw [jn_lt (by omega),jn_lt (by omega),jn_lt (by omega),jn_ge (by omega)];exact rfl,by rw [jn_lt (by omega),jn_lt (by omega),jn_lt (by omega),jn_ge (by omega)];exact rfl,fun k hk=>?_⟩
  rw [jn_lt (by omega),jn_lt (by omega),jn_lt (by omega),jn_ge (by omega)] at hk
  rw [jn_lt (by omega),jn_lt (by omega),jn_lt (by omega),jn_ge (by omega)]
  exact dst_val.symm
 by_cases a2:t < 2 + P.vn
 ·obtain ⟨j,rfl⟩:∃ j,t = hdV 1 + j:=⟨t - 2,by show t = 2 + (t - 2);omega⟩
  have h0:hdV 1 = 2:=rfl
  have hj:j < P.vn:=by omega
  have e:hdV 1 + j - (2) = j:=by omega
  obtain ⟨x1,x2⟩:=var_W (v:=1) (vn:=P.vn) (rn:=P.rn) (V:=vnm P) (U:=unm P) (j:=j) hj
  refine ⟨by rw [jn_lt (by omega),jn_lt (by omega),jn_ge (by omega)];exact (by rw [e];exact x1.symm),by rw [jn_lt (by omega),jn_lt (by omega),jn_ge (by omega)];exact x2.symm,fun k hk=>?_⟩
  rw [jn_lt (by omega),jn_lt (by omega),jn_ge (by omega)] at hk
  rw [jn_lt (by omega),jn_lt (by omega),jn_ge (by omega)]
  rw [dst_var (v:=1) (vn:=P.vn) (j:=j) hj,e]
  obtain rfl:k = 0:=by omega
  rfl
 by_cases a3:t < 2 + P.vn + P.rn
 ·obtain ⟨i,rfl⟩:∃ i,t = hdV 1 + nvV 1 P.vn + i:=⟨t - 2 - P.vn,by show t = 2 + P.vn + (t - 2 - P.vn);omega⟩
  have h0:hdV 1 = 2:=rfl
  have h1:nvV 1 P.vn = P.vn:=rfl
  have hi:i < P.rn:=by omega
  have e:hdV 1 + nvV 1 P.vn + i - (2 + P.vn) = i:=by omega
  obtain ⟨x1,x2⟩:=row_W (v:=1) (vn:=P.vn) (rn:=P.rn) (V:=vnm P) (U:=unm P) (i:=i) hi
  refine ⟨by rw [jn_lt (by omega),jn_ge (by omega)];exact (by rw [e];exact x1.symm),by rw [jn_lt (by omega),jn_ge (by omega)];exact x2.symm,fun k hk=>?_⟩
  rw [jn_lt (by omega),jn_ge (by omega)] at hk
  rw [jn_lt (by omega),jn_ge (by omega)]
  rw [dst_row (v:=1) (vn:=P.vn) (i:=i),e]
 obtain rfl:t = lstT 1 P.vn P.rn:=by unfold lstT;rw [show hdV 1 = 2 from rfl,show nvV 1 P.vn = P.vn from rfl,show nrV 1 P.rn = P.rn from rfl];omega
 have h0:lstT 1 P.vn P.rn = 2 + P.vn + P.rn:=rfl
 obtain ⟨x1,x2⟩:=last_W (v:=1) (vn:=P.vn) (rn:=P.rn) (V:=vnm P) (U:=unm P)
 refine ⟨by rw [jn_ge (by omega)];exact x1.symm,by rw [jn_ge (by omega)];exact x2.symm,fun k hk=>?_⟩
 rw [jn_ge (by omega)] at hk
 rw [jn_ge (by omega)]
 omega
theorem lines2 (P:Prob) (C gx gy gz t:Nat) (ht:t < 1 + P.rn + 1) :
  jn (1 + P.rn) (jn (1) (fun _=>wdV 2) (fun t=>wRow (unm P t))) (fun _=>wEnd) t = lnsW 2 P.vn (vnm P) P.rn (unm P) t∧jn (1 + P.rn) (jn (1) (fun _=>0) (fun _=>1)) (fun _=>0) t = lnsK 2 P.vn P.rn t∧∀ k,k < jn (1 + P.rn) (jn (1) (fun _=>0) (fun _=>1)) (fun _=>0) t→jn (1 + P.rn) (jn (1) (fun _ _=>(0,0)) (fun t _=>(gy,t * 3))) (fun _ _=>(0,0)) t k = dst 2 P.vn C gx gy gz t k:=by
 by_cases a0:t = 0
 ·subst a0
  refine ⟨by rw [jn_lt (by omega),jn_lt (by omega)];exact w_zero,by rw [jn_lt (by omega),jn_lt (by omega)];exact k_zero,fun k hk=>?_⟩
  rw [jn_lt (by omega),jn_lt (by omega)] at hk
  rw [jn_lt (by omega),jn_lt (by omega)]
  omega
 by_cases a3:t < 1 + 0 + P.rn
 ·obtain ⟨i,rfl⟩:∃ i,t = hdV 2 + nvV 2 P.vn + i:=⟨t - 1 - 0,by show t = 1 + 0 + (t - 1 - 0);omega⟩
  have h0:hdV 2 = 1:=rfl
  have h1:nvV 2 P.vn = 0:=rfl
  have hi:i < P.rn:=by omega
  have e:hdV 2 + nvV 2 P.vn + i - (1) = i:=by omega
  obtain ⟨x1,x2⟩:=row_W (v:=2) (vn:=P.vn) (rn:=P.rn) (V:=vnm P) (U:=unm P) (i:=i) hi
  refine ⟨by rw [jn_lt (by omega),jn_ge (by omega)];exact (by rw [e];exact x1.symm),by rw [jn_lt (by omega),jn_ge (by omega)];exact x2.symm,fun k hk=>?_⟩
  rw [jn_lt (by omega),jn_ge (by omega)] at hk
  rw [jn_lt (by omega),jn_ge (by omega)]
  rw [dst_row (v:=2) (vn:=P.vn) (i:=i),e]
 obtain rfl:t = lstT 2 P.vn P.rn:=by unfold lstT;rw [show hdV 2 = 1 from rfl,show nvV 2 P.vn = 0 from rfl,show nrV 2 P.rn = P.rn from rfl];omega
 have h0:lstT 2 P.vn P.rn = 1 + 0 + P.rn:=rfl
 obtain ⟨x1,x2⟩:=last_W (v:=2) (vn:=P.vn) (rn:=P.rn) (V:=vnm P) (U:=unm P)
 refine ⟨by rw [jn_ge (by omega)];exact x1.symm,by rw [jn_ge (by omega)];exact x2.symm,fun k hk=>?_⟩
 rw [jn_ge (by omega)] at hk
 rw [jn_ge (by omega)]
 omega
theorem lines3 (P:Prob) (C gx gy gz t:Nat) (ht:t < 1 + P.vn + 1) :
  jn (1 + P.vn) (jn (1) (fun _=>wdV 3) (fun t=>wVar (vnm P t))) (fun _=>wEnd) t = lnsW 3 P.vn (vnm P) P.rn (unm P) t∧jn (1 + P.vn) (jn (1) (fun _=>0) (fun _=>2)) (fun _=>0) t = lnsK 3 P.vn P.rn t∧∀ k,k < jn (1 + P.vn) (jn (1) (fun _=>0) (fun _=>2)) (fun _=>0) t→jn (1 + P.vn) (jn (1) (fun _ _=>(0,0)) (fun t k=>((fun k=>if k = 0 then gx else gz) k,t * 3))) (fun _ _=>(0,0)) t k = dst 3 P.vn C gx gy gz t k:=by
 by_cases a0:t = 0
 ·subst a0
  refine ⟨by rw [jn_lt (by omega),jn_lt (by omega)];exact w_zero,by rw [jn_lt (by omega),jn_lt (by omega)];exact k_zero,fun k hk=>?_⟩
  rw [jn_lt (by omega),jn_lt (by omega)] at hk
  rw [jn_lt (by omega),jn_lt (by omega)]
  omega
 by_cases a2:t < 1 + P.vn
 ·obtain ⟨j,rfl⟩:∃ j,t = hdV 3 + j:=⟨t - 1,by show t = 1 + (t - 1);omega⟩
  have h0:hdV 3 = 1:=rfl
  have hj:j < P.vn:=by omega
  have e:hdV 3 + j - (1) = j:=by omega
  obtain ⟨x1,x2⟩:=var_W (v:=3) (vn:=P.vn) (rn:=P.rn) (V:=vnm P) (U:=unm P) (j:=j) hj
  refine ⟨by rw [jn_lt (by omega),jn_ge (by omega)];exact (by rw [e];exact x1.symm),by rw [jn_lt (by omega),jn_ge (by omega)];exact x2.symm,fun k hk=>?_⟩
  rw [jn_lt (by omega),jn_ge (by omega)] at hk
  rw [jn_lt (by omega),jn_ge (by omega)]
  rw [dst_var (v:=3) (vn:=P.vn) (j:=j) hj,e]
  by_cases h:k = 0
  ·simp [h]
  ·simp [h]
 obtain rfl:t = lstT 3 P.vn P.rn:=by unfold lstT;rw [show hdV 3 = 1 from rfl,show nvV 3 P.vn = P.vn from rfl,show nrV 3 P.rn = 0 from rfl];omega
 have h0:lstT 3 P.vn P.rn = 1 + P.vn + 0:=rfl
 obtain ⟨x1,x2⟩:=last_W (v:=3) (vn:=P.vn) (rn:=P.rn) (V:=vnm P) (U:=unm P)
 refine ⟨by rw [jn_ge (by omega)];exact x1.symm,by rw [jn_ge (by omega)];exact x2.symm,fun k hk=>?_⟩
 rw [jn_ge (by omega)] at hk
 rw [jn_ge (by omega)]
 omega
end Go.Proofs.YtnkpbjmfdfjeiaaGreatDoor

import Derived.Test.YtnkpbjmfdfjeiaaGreatDoorSoAAll
import Derived.Test.YtnkpbjmfdfjeiaaGreatDoorWhAll
import Derived.Test.YtnkpbjmfdfjeiaaGreatDoorTxAll
namespace Go.Proofs.YtnkpbjmfdfjeiaaGreatDoor
open Go.RowKit
set_option maxRecDepth 100000 in
set_option maxHeartbeats 2000000 in
theorem rdigitsV {a:Option Addr} {na ca:Nat} {x:Nat} {S:Nat} (w:World) (ha:Num w a na ca (x:Int) S) (hS:S≤10000000) :
  Calls Tryz.prog 55 #[.slice a na ca] w fun e w'=>∃ v,e = .returned v∧OwnK 3 .i64 w' w.heap.size v (decs x)∧(decs x).length≤20 * S∧Below w.heap.size w w':=by
 obtain ⟨i0,hi,hz0,hz1,hz2⟩:=info_parts Tryz.infoI64
 have hL:(decs x).length≤20 * S:=by
  obtain ⟨xs,h1,_,_,h4,h5,h6⟩:=ha
  have h7:=decs_val h4
  rw [h5,Int.toNat_natCast] at h7;omega
 obtain ⟨N,hN⟩:∃ N,(decs x).length = N:=⟨_,rfl⟩
 have HN:Hid ((decs x).length = N):=hN
 have hN1:N≤200000000:=by omega
 clear hN hL
 have HL:Hid ((decs x).length≤20 * S):=by
  obtain ⟨xs,h1,_,_,h4,h5,h6⟩:=ha
  have h7:=decs_val h4
  rw [h5,Int.toNat_natCast] at h7
  show _≤_;omega
 go_enter Tryz.func55,Tryz.ntmps55
 go_wp2_with fail
 refine (halvesV _ ha (by omega)).mono ?_
 rintro e w1 ⟨c1,n1,k1,rfl,H1,hb1⟩
 clear ha
 go_wp2
 go_loopw [3,4] (fun h o wr=>∃ (hc:Option Addr) (hn hk y:Nat) (F:List Int),h = .slice hc hn hk∧HNum wr hc hn hk (y:Int) (2 * S)∧OwnK 3 .i64 wr w.heap.size o F∧Hid (decs x = F ++ decs y)∧Below w.heap.size w wr) (fun _ o _=>N - lenOf o)
 case atStart=>exact ⟨c1,n1,k1,x,[],rfl,H1,OwnK.nil _ _ _ _,(show decs x = [] ++ decs x from rfl),hb1⟩
 case round =>
  clear H1 hb1
  obtain ⟨hc,hn,hk,y,F,rfl,H,hown,HD,hbel⟩:=hrel
  obtain ⟨y0,y1,y2⟩:=H.zero
  obtain ⟨oa,oc,rfl⟩:=hown.form
  by_cases hz:y = 0
  ·obtain rfl:hn = 0:=y1.2 (by omega)
   subst hz
   have HF:Hid (decs x = F):=by show _ = _;rw [HD.out,decs_zero,List.append_nil]
   clear HD H y0 y1 y2
   go_wp2
   go_ret
   exact ⟨_,rfl,by rw [HF.out];exact hown,HL.out,hbel⟩
  ·have hn0:(0:Int) < (hn:Int):=by omega
   have hn1:0 < hn:=by omega
   have HD2:Hid (decs x = (F ++ [((y % 10:Nat):Int)]) ++ decs (y / 10)):=by show _ = _;rw [HD.out,decs_pos hz];simp
   have hFl:F.length + 1≤N:=by
    have h:=congrArg List.length HD2.out
    rw [HN.out] at h
    simp only [List.length_append,List.length_cons,List.length_nil] at h
    omega
   clear y0 y1 HD
   go_wp2_with fail
   refine (rpartW (d:=10) _ H (by decide) (by decide) (by omega)).mono ?_
   rintro e w2 ⟨n2,k2,rfl,H2,hb2⟩
   have hlt:∀ k,(Value.slice oa F.length oc).ownBlock = some k→k < wr.heap.size:=fun k hk=>(hown.lt k hk).2
   replace hown:=hown.below hb2
   replace hbel:=bel_tr hbel hb2
   have hs2:=Below.size hbel
   rw [show (y:Int) / 10 = ((y / 10:Nat):Int) by omega] at H2
   obtain ⟨r,hr⟩:∃ r:Nat,y % 10 = r:=⟨_,rfl⟩
   have hr9:r≤9:=by omega
   have e1:(y:Int) % 10 = (r:Int):=by omega
   rw [hr] at HD2
   rw [e1]
   have hwr:IntKind.i64.wrap (r:Int) = (r:Int):=by rw [IntKind.wrap_i64];omega
   clear H hb2 hr e1
   have hrow:∀ k,(Value.slice oa F.length oc).ownBlock = some k→w.heap.size≤k:=fun k hk=>(hown.lt k hk).1
   go_wp2_with (at_builtin;refine wpList_appendK 116 3 .i64 8 i0 Tryz.underlying116 hi hz0 hz1 hz2 (by decide) _ rfl _ _ rfl w.heap.size (.slice oa F.length oc) F F.length (show F.length = F.length from rfl) rfl (hown.alloc _) w2.heap.size _ (r:Int) rfl (cell_new1 rfl) (by omega) (by simp;omega) (w2.heap.size + 1) (by simp) ?_)
   intro g cap1 w3 hown3 hgrow _ _
   have hbel1:Below w.heap.size w w3:=hbel.trans (((Below.refl _ _).alloc (by omega) _).trans (grown_below hgrow (by simp;omega) hrow))
   have H3:=H2.grown hgrow (fun e=>absurd (hlt _ e) (Nat.lt_irrefl _))
   clear hgrow hown H2 hrow hbel hlt
   go_wp2
   go_roundw
   case rel=>exact ⟨_,n2,k2,y / 10,F ++ [(r:Int)],rfl,H3,by simpa using hown3,HD2,hbel1⟩
   case measure=>simp [lenOf];omega
theorem rev_take (D:List Int) {j:Nat} (hj:j < D.length):((D.map (48 + ·)).reverse).take (D.length - j) = ((D.map (48 + ·)).reverse).take (D.length - (j + 1)) ++ [48 + D.getD j 0]:=by
 rw [show D.length - j = (D.length - (j + 1)) + 1 by omega,List.take_succ_eq_append_getElem (by simp;omega)]
 congr 2
 rw [List.getElem_reverse,List.getElem_map]
 simp only [List.getD,List.getElem?_eq_getElem hj,Option.getD_some,List.length_map]
 congr 2
 omega
set_option maxRecDepth 100000 in
set_option maxHeartbeats 2000000 in
theorem rtextV {a:Option Addr} {na ca:Nat} {x:Nat} {S:Nat} (w:World) (ha:Num w a na ca (x:Int) S) (hS:S≤10000000) :
  Calls Tryz.prog 35 #[.slice a na ca] w fun e w'=>e = .returned (.string (txt x))∧Below w.heap.size w w':=by
 obtain ⟨i0,hi,hz0,hz1,hz2⟩:=info_parts Tryz.infoU8
 go_enter Tryz.func35,Tryz.ntmps35
 go_wp2_with fail
 refine (rdigitsV _ ha hS).mono ?_
 rintro e w1 ⟨v,rfl,hD,hL,hb⟩
 clear ha
 rcases hD.row with ⟨rfl,hd0⟩ | ⟨g,cap,rfl,hcap,hBg,hgl,hcl⟩
 ·have hx0:=decs_nil hd0
  subst hx0
  clear hD hL hd0
  go_wp2
  go_ret
  exact ⟨rfl,hb⟩
 ·by_cases hn0:(decs x).length = 0
  ·have hx0:=decs_nil (List.eq_nil_of_length_eq_zero hn0)
   subst hx0
   rw [hn0]
   clear hD hL hcl hcap
   go_wp2
   go_ret
   exact ⟨rfl,hb⟩
  ·have hx0:x ≠ 0:=fun h=>hn0 (by rw [h,decs_zero];rfl)
   have HT:Hid (txt x = strOfNums ((decs x).map (48 + ·)).reverse):=by show _ = _;unfold txt;rw [if_neg hx0]
   have hbd:=decs_bd x
   obtain ⟨D,hDe⟩:∃ D,decs x = D:=⟨_,rfl⟩
   rw [hDe] at HT hbd hcl hL hcap hn0 ⊢
   obtain ⟨L,hLe⟩:∃ L,D.length = L:=⟨_,rfl⟩
   have HLe:Hid (D.length = L):=hLe
   have HBD:Hid (∀ d ∈ D,0≤d∧d≤9):=hbd
   have HCL:Hid (∀ i,i < D.length→w1.cell? ⟨g,i,none⟩ = some (.int .i64 (D.getD i 0))):=hcl
   rw [hLe] at hL hcap hn0 ⊢
   have hnI:((L:Int) == 0) = false:=by simp;omega
   have hL1:L≤200000000:=by omega
   clear hD hDe hLe hbd hcl hx0
   go_wp2
   go_loopw [4,5] (fun b i wr=>∃ (k:Nat) (F:List Int),k≤L∧i = .int .i64 ((k:Int) - 1)∧OwnK 5 .u8 wr w1.heap.size b F∧Hid (F = ((D.map (48 + ·)).reverse).take (L - k))∧Below w1.heap.size w1 wr) (fun _ i _=>(intOf i + 1).toNat)
   case atStart=>exact ⟨L,[],Nat.le_refl _,rfl,OwnK.nil _ _ _ _,(show [] = List.take _ _ by rw [Nat.sub_self];rfl),Below.refl _ _⟩
   case round =>
    clear hnI
    obtain ⟨k,F,hk,rfl,hown,HF,hbel⟩:=hrel
    have HFL:Hid (F.length = L - k):=by show _ = _;rw [HF.out,List.length_take,List.length_reverse,List.length_map,HLe.out];omega
    by_cases hk0:k = 0
    ·subst hk0
     rcases hown.row with ⟨_,hF0⟩ | ⟨g2,cap2,rfl,hc2,hB2,hl2,hcl2⟩
     ·exfalso
      have:=HFL.out
      rw [hF0] at this
      simp at this
      first | omega | exact hn0 this | exact hn0 this.symm
     ·have hcv:=run_convert_bytes_arg (P:=Tryz.prog) wr 38 5 Tryz.underlying38 Tryz.underlying5 g2 0 F.length cap2 F rfl (fun i hi=>by
       rw [Nat.zero_add,hcl2 i hi]) 9 Tryz.underlying9
      have HE:Hid (strOfNums F = txt x):=by
       show _ = _
       rw [HT.out,HF.out,Nat.sub_zero,List.take_of_length_le (by simp [HLe.out])]
      have hw:=bel_tr hb hbel
      clear hcl2 hown HF HCL HBD hbel hb HFL
      go_wp2
      go_ret
      exact ⟨by rw [← HE.out];rfl,hw⟩
    ·obtain ⟨j,rfl⟩:∃ j,k = j + 1:=⟨k - 1,by omega⟩
     have hjD:j < D.length:=by rw [HLe.out];omega
     have hcx:=kept_c hbel (HCL.out j hjD)
     have hd:=HBD.out (D.getD j 0) (by simp only [List.getD,List.getElem?_eq_getElem hjD,Option.getD_some];exact List.getElem_mem hjD)
     have HF2:Hid (F ++ [48 + D.getD j 0] = ((D.map (48 + ·)).reverse).take (L - j)):=by
      show _ = _
      rw [HF.out,← HLe.out,rev_take D hjD]
     obtain ⟨d,hde⟩:∃ d,D.getD j 0 = d:=⟨_,rfl⟩
     rw [hde] at hcx hd HF2
     have hjn:(j:Int) < (L:Int):=by omega
     have hw1:IntKind.i64.wrap (48 + d) = 48 + d:=by rw [IntKind.wrap_i64];omega
     have hw2:IntKind.u8.wrap (48 + d) = 48 + d:=by rw [IntKind.wrap_u8];omega
     obtain ⟨oa,oc,rfl⟩:=hown.form
     have hs2:=Below.size hbel
     have hrow:∀ q,(Value.slice oa F.length oc).ownBlock = some q→w1.heap.size≤q:=fun q hq=>(hown.lt q hq).1
     have hFl:F.length≤200000000:=by rw [HFL.out];omega
     clear hde HF
     go_wp2_with (at_builtin;refine wpList_appendK 38 5 .u8 1 i0 Tryz.underlying38 hi hz0 hz1 hz2 (by decide) _ rfl _ _ rfl w1.heap.size (.slice oa F.length oc) F F.length (show F.length = F.length from rfl) rfl (hown.alloc _) wr.heap.size _ (48 + d) rfl (cell_new1 rfl) (by omega) (by simp;omega) (wr.heap.size + 1) (by simp) ?_)
     intro g3 cap3 w3 hown3 hgrow _ _
     have hbel1:Below w1.heap.size w1 w3:=hbel.trans (((Below.refl _ _).alloc (by omega) _).trans (grown_below hgrow (by simp;omega) hrow))
     clear hgrow hown hrow hbel hcx HFL
     go_wp2
     go_roundw
     case rel=>exact ⟨j,F ++ [48 + d],by omega,by go_num,by simpa using hown3,HF2,hbel1⟩
     case measure=>simp [intOf]
set_option maxHeartbeats 4000000 in
theorem textD {p:Bool} {a:Option Addr} {na ca:Nat} {d:Option Addr} {nd cd:Nat} {r:Rat} {S:Nat} (w:World) (hr:TR w p a na ca d nd cd r S) (hS:S≤7000000) (hS1:1≤S) :
  Calls Tryz.prog 22 #[.agg #[.bool p,.slice a na ca,.slice d nd cd]] w fun e w'=>e = .returned (.string (txtQ r))∧Below w.heap.size w w':=by
 have P0:=var3_new w (.bool p) (.slice a na ca) (.slice d nd cd) 27
 have hb0:=bel_d0 w (.cells #[.bool p,.slice a na ca,.slice d nd cd] 27)
 have hsz:w.heap.size + 1≤(w.alloc (.cells #[.bool p,.slice a na ca,.slice d nd cd] 27)).heap.size:=by simp
 replace hr:=hr.below hb0
 go_enter Tryz.func22,Tryz.ntmps22
 go_wp2_with fail
 generalize w.alloc (.cells #[.bool p,.slice a na ca,.slice d nd cd] 27) = W0 at *
 obtain ⟨p0c0,p0c1,p0c2,p0c3,p0c4,p0c5⟩:=id P0
 refine (normD _ hr (by omega) hS1).mono ?_
 rintro e w1 ⟨fx,cx,nx,kx,dX,mx,lx,rfl,Gx,hx⟩
 replace Gx:=Gx.mono (B':=w.heap.size + 1) hsz
 clear p0c0 p0c1 p0c2 p0c3 p0c4 p0c5
 replace hr:=hr.below hx
 replace P0:=P0.below hx
 replace hb0:=bel_tr hb0 hx
 replace hsz:=Nat.le_trans hsz (Below.size hx)
 clear hx
 clear P0
 clear hr
 have hx:=bel_d0 w1 (.cells #[.bool fx,.slice cx nx kx,.slice dX mx lx] 27)
 replace Gx:=Gx.below hx
 replace hb0:=bel_tr hb0 hx
 replace hsz:=Nat.le_trans hsz (Below.size hx)
 have Vx:=var3_new w1 (.bool fx) (.slice cx nx kx) (.slice dX mx lx) 27
 clear hx
 obtain ⟨vxc0,vxc1,vxc2,vxc3,vxc4,vxc5⟩:=id Vx
 go_wp2_with fail
 generalize w1.alloc (.cells #[.bool fx,.slice cx nx kx,.slice dX mx lx] 27) = w2 at *
 obtain ⟨e1,N1⟩:=Gx.1.parts
 have z1:=txt_size N1.num
 have z2:=txt_size Gx.2.num
 rw [Int.toNat_natCast] at z1 z2
 clear N1
 refine (rtextV _ Gx.1.parts.2.num (by omega)).mono ?_
 rintro e w3 ⟨rfl,hx⟩
 clear vxc0 vxc1 vxc2 vxc3 vxc4 vxc5
 replace Gx:=Gx.below hx
 replace Vx:=Vx.below hx
 replace hb0:=bel_tr hb0 hx
 replace hsz:=Nat.le_trans hsz (Below.size hx)
 clear hx
 obtain ⟨vxc0,vxc1,vxc2,vxc3,vxc4,vxc5⟩:=id Vx
 obtain ⟨T1,hT1⟩:∃ t,txt r.num.natAbs = t:=⟨_,rfl⟩
 have HT1:Hid (txt r.num.natAbs = T1):=hT1
 rw [hT1] at z1 ⊢
 clear hT1
 rcases (by omega:r.num < 0∨0≤r.num) with hs | hs
 ·obtain rfl:fx = true:=by rw [e1];simpa using hs
  clear e1
  have HI:Hid (txtI r.num = strOfNums [45] ++ T1):=by show _ = _;unfold txtI;rw [if_pos hs,HT1.out]
  by_cases hd:r.den = 1
  ·go_wp2_with fail
   refine (isWholeD true _ Gx.tr (by omega) hS1 (by simp [hd])).mono ?_
   rintro e w4 ⟨rfl,hx⟩
   clear vxc0 vxc1 vxc2 vxc3 vxc4 vxc5
   replace Gx:=Gx.below hx
   replace Vx:=Vx.below hx
   replace hb0:=bel_tr hb0 hx
   replace hsz:=Nat.le_trans hsz (Below.size hx)
   clear hx
   have HQ:Hid (txtQ r = strOfNums [45] ++ T1):=by show _ = _;unfold txtQ;rw [if_pos hd,HI.out]
   clear HI hd Gx Vx
   go_wp2
   go_ret
   exact ⟨by rw [HQ.out];rfl,hb0⟩
  ·go_wp2_with fail
   refine (isWholeD false _ Gx.tr (by omega) hS1 (by simp [hd])).mono ?_
   rintro e w4 ⟨rfl,hx⟩
   clear vxc0 vxc1 vxc2 vxc3 vxc4 vxc5
   replace Gx:=Gx.below hx
   replace Vx:=Vx.below hx
   replace hb0:=bel_tr hb0 hx
   replace hsz:=Nat.le_trans hsz (Below.size hx)
   clear hx
   obtain ⟨vxc0,vxc1,vxc2,vxc3,vxc4,vxc5⟩:=id Vx
   have HQ:Hid (txtQ r = (strOfNums [45] ++ T1) ++ ⟨#[47]⟩ ++ txt r.den):=by show _ = _;unfold txtQ;rw [if_neg hd,HI.out]
   clear HI hd
   go_wp2_with fail
   refine (rtextV _ Gx.2.num (by omega)).mono ?_
   rintro e w5 ⟨rfl,hx⟩
   clear vxc0 vxc1 vxc2 vxc3 vxc4 vxc5
   replace Gx:=Gx.below hx
   replace Vx:=Vx.below hx
   replace hb0:=bel_tr hb0 hx
   replace hsz:=Nat.le_trans hsz (Below.size hx)
   clear hx
   clear Gx Vx
   generalize txt r.den = T2 at *
   go_wp2
   go_ret
   exact ⟨by rw [HQ.out];rfl,hb0⟩
 ·obtain rfl:fx = false:=by rw [e1];simpa using hs
  clear e1
  have HI:Hid (txtI r.num = T1):=by show _ = _;unfold txtI;rw [if_neg (Int.not_lt.2 hs),HT1.out]
  by_cases hd:r.den = 1
  ·go_wp2_with fail
   refine (isWholeD true _ Gx.tr (by omega) hS1 (by simp [hd])).mono ?_
   rintro e w4 ⟨rfl,hx⟩
   clear vxc0 vxc1 vxc2 vxc3 vxc4 vxc5
   replace Gx:=Gx.below hx
   replace Vx:=Vx.below hx
   replace hb0:=bel_tr hb0 hx
   replace hsz:=Nat.le_trans hsz (Below.size hx)
   clear hx
   have HQ:Hid (txtQ r = T1):=by show _ = _;unfold txtQ;rw [if_pos hd,HI.out]
   clear HI hd Gx Vx
   go_wp2
   go_ret
   exact ⟨by rw [HQ.out];rfl,hb0⟩
  ·go_wp2_with fail
   refine (isWholeD false _ Gx.tr (by omega) hS1 (by simp [hd])).mono ?_
   rintro e w4 ⟨rfl,hx⟩
   clear vxc0 vxc1 vxc2 vxc3 vxc4 vxc5
   replace Gx:=Gx.below hx
   replace Vx:=Vx.below hx
   replace hb0:=bel_tr hb0 hx
   replace hsz:=Nat.le_trans hsz (Below.size hx)
   clear hx
   obtain ⟨vxc0,vxc1,vxc2,vxc3,vxc4,vxc5⟩:=id Vx
   have HQ:Hid (txtQ r = T1 ++ ⟨#[47]⟩ ++ txt r.den):=by show _ = _;unfold txtQ;rw [if_neg hd,HI.out]
   clear HI hd
   go_wp2_with fail
   refine (rtextV _ Gx.2.num (by omega)).mono ?_
   rintro e w5 ⟨rfl,hx⟩
   clear vxc0 vxc1 vxc2 vxc3 vxc4 vxc5
   replace Gx:=Gx.below hx
   replace Vx:=Vx.below hx
   replace hb0:=bel_tr hb0 hx
   replace hsz:=Nat.le_trans hsz (Below.size hx)
   clear hx
   clear Gx Vx
   generalize txt r.den = T2 at *
   go_wp2
   go_ret
   exact ⟨by rw [HQ.out];rfl,hb0⟩
theorem ratI:(Tryz.prog.info? 27).map (·.size) = some 3:=by kernel_rfl
theorem Rw.tri {t:TypeId} {w:World} {R:Nat} {a0 a1 a2:Value} (h:Rw t w R #[a0,a1,a2]) (b0 b1 b2:Value):Rw t (((w.setCell ⟨R,0,none⟩ b0).setCell ⟨R,1,none⟩ b1).setCell ⟨R,2,none⟩ b2) R #[b0,b1,b2]∧Off R w (((w.setCell ⟨R,0,none⟩ b0).setCell ⟨R,1,none⟩ b1).setCell ⟨R,2,none⟩ b2):=by
 refine ⟨?_,(((Off.refl _ _).set 0 b0).set 1 b1).set 2 b2⟩
 have:=(((h.setK 0 b0).1.setK 1 b1).1.setK 2 b2).1
 simpa using this
theorem Kb.offN {F g:Nat} {L:List TypeId} {w0 w w':World} (h:Kb F L w0 w) (o:Off g w w') (hg:w0.heap.size≤g) (hF:F≤w0.heap.size):Kb F L w0 w' :=
 ⟨o.os.trans h.os,o.tape.trans h.tape,o.output.trans h.output,by have:=h.size;have:=o.size;omega,fun k hk=>(o.block k (by omega)).trans (h.low k hk),fun k cur T f h1 h2=>(o.block k (by have:=(Array.getElem?_eq_some_iff.1 h1).1;omega)).trans (h.high k cur T f h1 h2)⟩
theorem Kb.drew {F:Nat} {L:List TypeId} {w0 w:World} (h:Kb F L w0 w):Kb F L w0 w.drew:=⟨h.os,h.tape,h.output,h.size,h.low,h.high⟩
theorem Kb.bel {F:Nat} {L:List TypeId} {w0 w w':World} (h:Kb F L w0 w) (hb:Below w.heap.size w w') (hF:F≤w0.heap.size):Kb F L w0 w':=h.trans (kb_bel L hb (by have:=h.size;omega))
def NumbR (s:ByteArray) (a:Nat) (ok:Bool) (e:UInt8) (Q F:Nat) (w:World) (en:Ending) (w':World):Prop :=
 Kb F [58] w w'∧((∃ (r:Rat) (m:List UInt8) (f:Bool) (c:Option Addr) (n k:Nat) (c':Option Addr) (n' k':Nat) (b:Nat),s.data.toList.drop a = tq r ++ e :: m∧en = .returned (.agg #[.bool f,.slice c n k,.slice c' n' k'])∧GR w' F f c n k c' n' k' r 5000000∧Rdr w' Q s b ok∧b≤s.size∧s.data.toList.drop b = m) ∨
 ((∀ r m,¬ s.data.toList.drop a = tq r ++ e :: m)∧en = .returned (.agg #[.bool false,.slice none 0 0,.slice none 0 0])∧∃ b,b≤s.size∧Rdr w' Q s b false))
theorem str_neq {t u:ByteArray} (h:¬ t = u):(t.toList == u.toList) = false:=by
 rw [beq_eq_false_iff_ne]
 intro e
 rw [ByteArray.toList_eq,ByteArray.toList_eq] at e
 exact h (ba_eq e)
theorem tq_nob (r:Rat):NoB (tq r):=fun b hb=>by
 have:=tq_nb r b hb
 exact ⟨fun e=>by rw [e] at this;exact absurd this (by decide),fun e=>by rw [e] at this;exact absurd this (by decide)⟩
theorem drop_cat {l x m:List UInt8} {a:Nat} (h:l.drop a = x ++ m):l.drop (a + x.length) = m:=by rw [← List.drop_drop,h,List.drop_left]
theorem drop_le {l x m:List UInt8} {a:Nat} (h:l.drop a = x ++ m) (hx:0 < x.length):a + x.length≤l.length:=by
 have:=congrArg List.length h
 rw [List.length_drop,List.length_append] at this
 omega
set_option maxRecDepth 100000 in
set_option maxHeartbeats 8000000 in
theorem rnumD {s:ByteArray} {a:Nat} {ok:Bool} {e:UInt8} {Q F:Nat} (w:World) (hq:Rdr w Q s a ok) (hF:F≤Q) (ha:a≤s.size) (hs:s.size≤1048576) (he:e = 32∨e = 10) (HN:∀ t:ByteArray,t.size≤1048576→NumA t) :
  Calls Tryz.prog 14 #[.pointer (some ⟨Q,0,none⟩),.int .u8 (e.toNat:Int)] w fun en w'=>NumbR s a ok e Q F w en w':=by
 have R0:Rw 27 (w.alloc (.cells #[.bool false,.slice none 0 0,.slice none 0 0] 27)) w.heap.size #[.bool false,.slice none 0 0,.slice none 0 0]:=Rw.new _ _ _
 have hb0:=bel_d0 w (.cells #[.bool false,.slice none 0 0,.slice none 0 0] 27)
 have hQl:=Rw.lt hq
 have k0:Kb F [58] w (w.alloc (.cells #[.bool false,.slice none 0 0,.slice none 0 0] 27)):=kb_bel _ hb0 (by omega)
 have HE:Hid (e = 32∨e = 10):=he
 go_enter Tryz.func14,Tryz.ntmps14
 go_wp2_with fail
 generalize w.alloc (.cells #[.bool false,.slice none 0 0,.slice none 0 0] 27) = W0 at *
 refine (rwordD W0 (hq.below hb0) hF ha (by omega) he).mono ?_
 rintro en w1 ⟨k1,h⟩
 replace R0:=R0.kb k1 (by decide)
 replace k1:=k0.trans k1
 clear hb0 k0 hq he
 have hz1:=k1.size
 have hR0:=R0.lt
 have hFs:F≤w.heap.size:=by omega
 obtain ⟨b,t,ok',hbs,hq1,rfl,HT⟩:∃ (b:Nat) (t:ByteArray) (ok':Bool),b≤s.size∧Rdr w1 Q s b ok'∧en = .returned (.string t)∧Hid (t.size≤1048576∧((ok' = ok∧∃ m,s.data.toList.drop a = t.data.toList ++ e :: m∧NoB t.data.toList∧s.data.toList.drop b = m)∨(t = ⟨#[]⟩∧ok' = false∧∀ x m,s.data.toList.drop a = x ++ e :: m→¬ NoB x))):=by
  rcases h with ⟨t,m,h1,h2,rfl,h3⟩ | ⟨h1,rfl,h2⟩
  ·have e1:s.data.toList.drop (a + (t.data.toList ++ [e]).length) = m:=drop_cat (by rw [h1];simp)
   have e2:=drop_le (a:=a) (x:=t.data.toList ++ [e]) (m:=m) (by rw [h1];simp) (by simp)
   rw [List.length_append,len_list,List.length_singleton,← Nat.add_assoc] at e1 e2
   rw [len_list] at e2
   exact ⟨_,t,ok,by omega,h3,rfl,by omega,.inl ⟨rfl,m,h1,h2,e1⟩⟩
  ·exact ⟨a,⟨#[]⟩,false,ha,h2,rfl,by decide,.inr ⟨rfl,rfl,h1⟩⟩
 clear h
 have hQs:=Rw.lt hq1
 have hnQ:¬ w.heap.size = Q:=by omega
 rcases HN t HT.out.1 with ⟨r,S,R,hS,hR,_,hD,hone⟩ | ⟨_,code,_,_,hc,hD,hone⟩
 ·go_wp2_with fail
  refine (hD w1).mono ?_
  rintro e' w2 ⟨f,c,n,kk,c',n',k',rfl,G,hx⟩
  replace R0:=R0.below hx
  replace hq1:=hq1.below hx
  have hz2:=hx.size
  replace k1:=k1.bel hx hFs
  replace G:=(G.le hR).mono (B':=F) (by omega)
  clear hx
  have V1:Rw 27 (w2.alloc (.cells #[.bool f,.slice c n kk,.slice c' n' k'] 27)) w2.heap.size #[.bool f,.slice c n kk,.slice c' n' k']:=Rw.new _ _ _
  have hx:=bel_d0 w2 (.cells #[.bool f,.slice c n kk,.slice c' n' k'] 27)
  have v0:=V1.cell 0
  have v1:=V1.cell 1
  have v2:=V1.cell 2
  replace R0:=R0.below hx
  replace hq1:=hq1.below hx
  replace G:=G.below hx
  replace k1:=k1.bel hx hFs
  have hne0:¬ w2.heap.size = w.heap.size:=by omega
  clear hx
  go_wp2_with fail
  generalize w2.heap.size = vb at *
  generalize w2.alloc (.cells #[.bool f,.slice c n kk,.slice c' n' k'] 27) = w3 at *
  refine (textD w3 (G.le (S':=5000000) (by omega)).tr (by omega) (by omega)).mono ?_
  rintro e' w4 ⟨rfl,hx⟩
  replace R0:=R0.below hx
  replace hq1:=hq1.below hx
  replace G:=G.below hx
  replace V1:=V1.below hx
  replace k1:=k1.bel hx hFs
  clear hx v0 v1 v2
  have r0:=R0.cell 0
  have r1:=R0.cell 1
  have r2:=R0.cell 2
  have rf0:=R0.frozen 0
  have rf1:=R0.frozen 1
  have rf2:=R0.frozen 2
  by_cases ht:txtQ r = t
  ·have v0:=V1.cell 0
   have v1:=V1.cell 1
   have v2:=V1.cell 2
   have HTT:Hid (txtQ r = t):=ht
   rw [ht]
   clear ht
   go_wp2
   obtain ⟨R1,O1⟩:=R0.tri (.bool f) (.slice c n kk) (.slice c' n' k')
   have k2:=k1.offN O1 (by omega) hFs
   have KO:Kb F [27] w4 _:=kb_off R0 (by omega) O1
   have hq2:=hq1.kb KO (by decide)
   have G2:=G.kb KO (by decide)
   refine bodyPost_ret (R1.ret1 Tryz.results14 _ rfl Tryz.underlying27 ratI) rfl ?_
   refine ⟨k2,?_⟩
   rcases HT.out.2 with ⟨rfl,m,h1,h2,h3⟩ | ⟨h1,_,_⟩
   ·exact .inl ⟨r,m,f,c,n,kk,c',n',k',b,by rw [h1];unfold tq;rw [HTT.out],rfl,G2,hq2,hbs,h3⟩
   ·exfalso
    have:=txtQ_pos r
    rw [HTT.out,h1] at this
    exact absurd this (by decide)
  ·have htb:((txtQ r).toList == t.toList) = false:=str_neq ht
   have htc:((txtQ r).toList != t.toList) = true:=by rw [bne,htb];rfl
   have q2:w4.cell? ⟨Q,2,none⟩ = some (.bool ok'):=Rw.cell hq1 2
   have f2:w4.frozen? ⟨Q,2,none⟩ = false:=Rw.frozen hq1 2
   have HBAD:Hid (∀ r m,¬ s.data.toList.drop a = tq r ++ e :: m):=by
    intro r' m' h'
    rcases HT.out.2 with ⟨_,m,h1,h2,_⟩ | ⟨_,_,h1⟩
    ·rw [h'] at h1
     obtain ⟨e1,_⟩:=nob_split HE.out (tq_nob r') h2 (fun b t hbt=>by simp only [List.cons.injEq] at hbt;rw [← hbt.1];exact HE.out) h1
     have e2:t = txtQ r':=(ba_eq e1).symm
     exact ht (by rw [e2];rw [hone r' e2])
    ·exact h1 _ _ h' (tq_nob r')
   clear ht hone HN
   generalize txtQ r = T at *
   go_wp2
   have S1:=Rw.setK hq1 2 (.bool false)
   have kS:=kb_off (F:=F) hq1 hF S1.2
   have R1:=R0.kb kS (by decide)
   obtain ⟨R2,O2⟩:=R1.tri (.bool false) (.slice none 0 0) (.slice none 0 0)
   have k2:=(k1.trans kS).offN O2 (by omega) hFs
   have KO:Kb F [27] _ _:=kb_off R1 (by omega) O2
   have hq2:Rdr _ Q s b false:=Rdr.kb (w:=w4.setCell ⟨Q,2,none⟩ (.bool false)) S1.1 KO (by decide)
   refine bodyPost_ret (R2.ret1 Tryz.results14 _ rfl Tryz.underlying27 ratI) rfl ?_
   exact ⟨k2,.inr ⟨HBAD.out,rfl,b,hbs,hq2⟩⟩
 ·go_wp2_with fail
  refine (hD w1).mono ?_
  rintro e' w2 ⟨rfl,hx⟩
  replace R0:=R0.below hx
  replace hq1:=hq1.below hx
  have hz2:=hx.size
  replace k1:=k1.bel hx hFs
  clear hx
  have hx:=bel_d0 w2 (.cells #[.bool false,.slice none 0 0,.slice none 0 0] 27)
  replace R0:=R0.below hx
  replace hq1:=hq1.below hx
  replace k1:=k1.bel hx hFs
  clear hx
  have hcb:(code != 0) = true:=by simp [hc]
  have HBAD:Hid (∀ r m,¬ s.data.toList.drop a = tq r ++ e :: m):=by
   intro r' m' h'
   rcases HT.out.2 with ⟨_,m,h1,h2,_⟩ | ⟨_,_,h1⟩
   ·rw [h'] at h1
    obtain ⟨e1,_⟩:=nob_split HE.out (tq_nob r') h2 (fun b t hbt=>by simp only [List.cons.injEq] at hbt;rw [← hbt.1];exact HE.out) h1
    exact hone r' (ba_eq e1).symm
   ·exact h1 _ _ h' (tq_nob r')
  clear hone HN
  have r0:=R0.cell 0
  have r1:=R0.cell 1
  have r2:=R0.cell 2
  have rf0:=R0.frozen 0
  have rf1:=R0.frozen 1
  have rf2:=R0.frozen 2
  have q2:=Rw.cell hq1 2
  have f2:=Rw.frozen hq1 2
  go_wp2
  have S1:=Rw.setK hq1 2 (.bool false)
  have kS:=kb_off (F:=F) hq1 hF S1.2
  have R1:=R0.kb kS (by decide)
  obtain ⟨R2,O2⟩:=R1.tri (.bool false) (.slice none 0 0) (.slice none 0 0)
  have k2:=(k1.trans kS).offN O2 (by omega) hFs
  have KO:Kb F [27] _ _:=kb_off R1 (by omega) O2
  have hq2:Rdr _ Q s b false:=Rdr.kb (w:=(w2.alloc (.cells #[.bool false,.slice none 0 0,.slice none 0 0] 27)).setCell ⟨Q,2,none⟩ (.bool false)) S1.1 KO (by decide)
  refine bodyPost_ret (R2.ret1 Tryz.results14 _ rfl Tryz.underlying27 ratI) rfl ?_
  exact ⟨k2,.inr ⟨HBAD.out,rfl,b,hbs,hq2⟩⟩
end Go.Proofs.YtnkpbjmfdfjeiaaGreatDoor

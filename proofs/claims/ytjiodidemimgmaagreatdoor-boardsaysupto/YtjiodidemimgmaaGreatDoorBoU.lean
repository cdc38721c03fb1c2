import Derived.Test.YtjiodidemimgmaaGreatDoorBoSAll
import Derived.Test.YtjiodidemimgmaaGreatDoorPqEAll
namespace Go.Proofs.YtjiodidemimgmaaGreatDoor
open Go.RowKit
def lstep (X:Nat→RoD) (j:Int) (s:Int × Rat) (q:Nat):Int × Rat:=if (X q).bas = -1∨(latI (X q).l j).num.sign≤0 then s else if s.1 = -1∨cs ((X q).r / latI (X q).l j) s.2 < 0∨cs ((X q).r / latI (X q).l j) s.2 = 0∧(X q).bas < (X s.1.toNat).bas then ((q:Int),(X q).r / latI (X q).l j) else s
def lvf (X:Nat→RoD) (j:Int):Nat→Int × Rat
 | 0=>(-1,0)
 | q + 1=>lstep X j (lvf X j q) q
theorem lvf_lt (X:Nat→RoD) (j:Int):∀ q:Nat,-1≤(lvf X j q).1∧(lvf X j q).1 < (q:Int)
 | 0=>⟨by show (-1:Int)≤-1;omega,by show (-1:Int) < 0;omega⟩
 | q + 1=>by
  have ih:=lvf_lt X j q
  show -1≤(lstep X j (lvf X j q) q).1∧(lstep X j (lvf X j q) q).1 < ((q + 1:Nat):Int)
  unfold lstep
  split
  ·omega
  ·split
   ·show -1≤(q:Int)∧(q:Int) < ((q + 1:Nat):Int)
    omega
   ·omega
theorem num_ne {r:Rat} (h:¬ r.num.sign≤0):r ≠ 0:=fun e=>h (by rw [e];decide)
def LvP (w:World) (X:Nat→RoD) (m:Nat) (j:Int) (e:Ending) (w':World):Prop:=e = .returned (.int .i64 (lvf X j m).1)∧Below w.heap.size w w'
set_option maxRecDepth 100000 in
set_option maxHeartbeats 8000000 in
theorem leaveB {F:Nat} {f:Bf} {n:Nat} {X:Nat→RoD} {lc:List (Nat × Rat)} {S Sc:Nat} (j:Int) (w:World) (h:BD w F f n X lc S Sc) (hS:1≤S∧S + S + (S + S)≤6000000) (hN:n + f.m≤3000000) (hT:TB w):Calls Tryz.prog 22 #[.pointer (some ⟨f.b,0,none⟩),.int .i64 j] w fun e w'=>LvP w X f.m j e w':=by
 obtain ⟨ra,rc,erv,_⟩:=h.rlen
 obtain ⟨m,em⟩:∃ m,m = f.m:=⟨_,rfl⟩
 have HM:Hid (m = f.m):=em
 have hmN:m≤3000000:=by omega
 have LR0:=Rw.new 29 w #[.bool false,.slice none 0 0,.slice none 0 0]
 have hb0:=bel_d0 w (.cells #[.bool false,.slice none 0 0,.slice none 0 0] 29)
 have hs0:(w.alloc (.cells #[.bool false,.slice none 0 0,.slice none 0 0] 29)).heap.size = w.heap.size + 1:=by simp
 have x1:=kept_c hb0 ((h.rw.cell 1).trans (show _ = some f.rv from rfl))
 rw [erv,← em] at x1
 rw [← em]
 clear em
 go_enter Tryz.func22,Tryz.ntmps22
 go_wp2
 generalize w.alloc (.cells #[.bool false,.slice none 0 0,.slice none 0 0] 29) = W0 at *
 go_loopw [18,5] (fun sq sf wr=>∃ (q:Nat) (fnd:Int) (lp:Bool) (la:Option Addr) (ln lcc:Nat) (ld:Option Addr) (lm le:Nat),q≤m∧sq = .int .i64 q∧sf = .int .i64 fnd∧Rw 29 wr w.heap.size #[.bool lp,.slice la ln lcc,.slice ld lm le]∧NZ wr lp la ln lcc ld lm le (lvf X j q).2 (S + S)∧Hid (fnd = (lvf X j q).1)∧Below w.heap.size w wr∧w.heap.size < wr.heap.size) (fun x _ _=>m - (intOf x).toNat)
 case atStart=>exact ⟨0,-1,_,_,_,_,_,_,_,Nat.zero_le _,rfl,rfl,LR0,NZ.zero _ _,rfl,hb0,by omega⟩
 case round =>
  clear LR0 hb0 x1 hs0
  obtain ⟨q,fnd,lp,la,ln,lcc,ld,lm,le,hq,rfl,rfl,LR,LZ0,HF,hbw,hsw⟩:=hrel
  by_cases hlt:q < m
  ·have hqI:(q:Int) < (m:Int):=by omega
   have hq0:¬ (q:Int) < 0:=by omega
   have hq6:(q:Int) * 6 = ((q * 6:Nat):Int):=by omega
   have hqf:q < f.m:=by rw [← HM.out];exact hlt
   have BQ:=h.below hbw
   obtain ⟨rg,rc',p,a,na,ca,d,nd,cd,erv',y0,y1,y2,y3,y4,y5,GR0⟩:=BQ.get hqf
   obtain ⟨hra,hrc⟩:ra = some ⟨rg,0,none⟩∧rc = rc':=by
    rw [erv] at erv'
    simp only [Value.slice.injEq,true_and] at erv'
    exact erv'
   subst hrc
   have LK:=BQ.t q hqf
   have hkk:=BQ.k q hqf
   have hlen:=hkk.1.len _ hkk.2.1
   obtain ⟨va,vc,eva,_⟩:=LK.form
   obtain ⟨vn,evn⟩:∃ vn,vn = (X q).l.length:=⟨_,rfl⟩
   have HVN:Hid (vn = (X q).l.length):=evn
   rw [← evn] at eva hlen
   rw [eva] at y0 LK
   obtain ⟨bas,ebas⟩:∃ bas,bas = (X q).bas:=⟨_,rfl⟩
   obtain ⟨tu,etu⟩:∃ tu,tu = (X q).tu:=⟨_,rfl⟩
   rw [← ebas] at y4
   rw [← etu] at y5
   have HBS:Hid (bas = (X q).bas):=ebas
   replace y2:wr.cell? ⟨rg,q * 6 + 2,none⟩ = some (.slice a na ca):=y2
   replace y3:wr.cell? ⟨rg,q * 6 + 3,none⟩ = some (.slice d nd cd):=y3
   have xb:=(BQ.rw.cell 1).trans (show _ = some f.rv from rfl)
   rw [erv,hra,← HM.out] at xb
   have BX:=box_new wr #[.slice va vn vc,.bool p,.slice a na ca,.slice d nd cd,.int .i64 bas,.bool tu] 67
   have hz:=bel_d0 wr (.cells #[.slice va vn vc,.bool p,.slice a na ca,.slice d nd cd,.int .i64 bas,.bool tu] 67)
   have hsz:(wr.alloc (.cells #[.slice va vn vc,.bool p,.slice a na ca,.slice d nd cd,.int .i64 bas,.bool tu] 67)).heap.size = wr.heap.size + 1:=by simp
   have x0:=BX 0 _ rfl
   have HLV:Hid (lvf X j (q + 1) = lstep X j (lvf X j q) q):=rfl
   obtain ⟨at_,eat⟩:∃ at_,at_ = latI (X q).l j:=⟨_,rfl⟩
   have HAT:Hid (at_ = latI (X q).l j):=eat
   clear erv' eva evn ebas etu eat
   subst hra
   go_wp2_with fail
   clear y0 y1 y2 y3 y4 y5 x0
   have LK1:=LK.below hz
   have hbx:=bel_tr hbw hz
   generalize wr.alloc (.cells #[.slice va vn vc,.bool p,.slice a na ca,.slice d nd cd,.int .i64 bas,.bool tu] 67) = W1 at *
   refine (atB j W1 LK1 hkk.1 (by rw [← HVN.out];omega)).mono ?_
   rintro e w2 ⟨ap,aa,an,ac,ad,am,ae,rfl,ZA,h2⟩
   rw [← HAT.out] at ZA
   have hz2:=bel_d0 w2 (.cells #[.bool ap,.slice aa an ac,.slice ad am ae] 29)
   have AB:=box_new w2 #[.bool ap,.slice aa an ac,.slice ad am ae] 29
   have hs2:(w2.alloc (.cells #[.bool ap,.slice aa an ac,.slice ad am ae] 29)).heap.size = w2.heap.size + 1:=by simp
   have h2s:=h2.size
   have h12:=bel_tr h2 hz2
   replace hbx:=bel_tr hbx h12
   replace BX:=BX.below h12
   have hw2:=bel_tr hz h12
   have x4:=BX 4 _ rfl
   replace ZA:=ZA.below hz2
   clear h2 hz2 LK LK1 h12 hz
   go_wp2_with fail
   generalize w2.alloc (.cells #[.bool ap,.slice aa an ac,.slice ad am ae] 29) = W2 at *
   refine (goneB wr.heap.size 0 bas W2 x4).mono ?_
   rintro e w' ⟨rfl,rfl⟩
   clear x4
   obtain ⟨sg,esg⟩:∃ sg,sg = at_.num.sign:=⟨_,rfl⟩
   have ESG:Hid (sg = at_.num.sign):=esg
   clear esg
   by_cases hgn:bas = -1
   ·rw [decide_eq_true hgn]
    have HE2:Hid (fnd = (lvf X j (q + 1)).1):=by show _ = _;rw [HLV.out,HF.out];unfold lstep;rw [if_pos (.inl (by rw [← HBS.out];exact hgn))]
    have LZ2:NZ w' lp la ln lcc ld lm le (lvf X j (q + 1)).2 (S + S):=by rw [HLV.out];unfold lstep;rw [if_pos (.inl (by rw [← HBS.out];exact hgn))];exact LZ0.below hw2
    have LR2:=LR.below hw2
    have hs9:w.heap.size < w'.heap.size:=by have:=hw2.size;omega
    clear BX AB ZA LR LZ0 BQ GR0 xb hgn hbw
    go_wp2
    go_roundw
    case rel=>first | exact ⟨q + 1,fnd,_,_,_,_,_,_,_,by omega,by go_num,rfl,LR2,LZ2,HE2,hbx,hs9⟩ | ((repeat apply Exists.intro);refine ⟨?_,rfl⟩;exact ⟨q + 1,fnd,_,_,_,_,_,_,_,by omega,by go_num,rfl,LR2,LZ2,HE2,hbx,hs9⟩)
    case measure=>simp [intOf];omega
   ·rw [decide_eq_false hgn]
    have HGN:Hid (¬ bas = -1):=hgn
    clear hgn
    have k0:=AB 0 _ rfl
    have k1:=AB 1 _ rfl
    have k2:=AB 2 _ rfl
    go_wp2_with fail
    clear k0 k1 k2
    refine (rsignB sg w' ZA.tr (by omega) hS.1 ESG.out).mono ?_
    rintro e W3 ⟨rfl,h3⟩
    replace hbx:=bel_tr hbx h3
    replace BX:=BX.below h3
    replace AB:=AB.below h3
    replace ZA:=ZA.below h3
    have hw3:=bel_tr hw2 h3
    have h3s:=h3.size
    clear hw2 h3
    by_cases hsg:sg≤0
    ·have HE2:Hid (fnd = (lvf X j (q + 1)).1):=by show _ = _;rw [HLV.out,HF.out];unfold lstep;rw [if_pos (.inr (by rw [← HAT.out,← ESG.out];exact hsg))]
     have LZ2:NZ W3 lp la ln lcc ld lm le (lvf X j (q + 1)).2 (S + S):=by rw [HLV.out];unfold lstep;rw [if_pos (.inr (by rw [← HAT.out,← ESG.out];exact hsg))];exact LZ0.below hw3
     have LR2:=LR.below hw3
     have hs9:w.heap.size < W3.heap.size:=by have:=hw3.size;omega
     clear BX AB ZA LR LZ0 BQ GR0 xb hbw
     go_wp2
     go_roundw
     case rel=>first | exact ⟨q + 1,fnd,_,_,_,_,_,_,_,by omega,by go_num,rfl,LR2,LZ2,HE2,hbx,hs9⟩ | ((repeat apply Exists.intro);refine ⟨?_,rfl⟩;exact ⟨q + 1,fnd,_,_,_,_,_,_,_,by omega,by go_num,rfl,LR2,LZ2,HE2,hbx,hs9⟩)
     case measure=>simp [intOf];omega
    ·have hsgI:0 < sg:=by omega
     have hne:at_ ≠ 0:=num_ne (by rw [← ESG.out];exact hsg)
     have HST:Hid (lvf X j (q + 1) = if (lvf X j q).1 = -1∨cs ((X q).r / at_) (lvf X j q).2 < 0∨cs ((X q).r / at_) (lvf X j q).2 = 0∧bas < (X (lvf X j q).1.toNat).bas then ((q:Int),(X q).r / at_) else lvf X j q):=by
      show _ = _
      rw [HLV.out]
      unfold lstep
      rw [if_neg (by rw [← HBS.out,← HAT.out,← ESG.out];exact fun h=>h.elim HGN.out hsg),← HBS.out,← HAT.out]
     have k0:=AB 0 _ rfl
     have k1:=AB 1 _ rfl
     have k2:=AB 2 _ rfl
     have b1:=BX 1 _ rfl
     have b2:W3.cell? ⟨wr.heap.size,1 + 1,none⟩ = some (.slice a na ca):=BX 2 _ rfl
     have b3:W3.cell? ⟨wr.heap.size,1 + 2,none⟩ = some (.slice d nd cd):=BX 3 _ rfl
     go_wp2_with fail
     clear k0 k1 k2 b1 b2 b3
     refine (quoQ W3 (GR0.tr.below hw3) ZA.tr (by omega) hS.1 hS.1 hne (hT.below hbx)).mono ?_
     rintro e w4 ⟨qp,qa,qn,qc,qd,qm,qe,rfl,GQ,h4⟩
     have hz4:=bel_d0 w4 (.cells #[.bool qp,.slice qa qn qc,.slice qd qm qe] 29)
     have QB:=box_new w4 #[.bool qp,.slice qa qn qc,.slice qd qm qe] 29
     have hs4:(w4.alloc (.cells #[.bool qp,.slice qa qn qc,.slice qd qm qe] 29)).heap.size = w4.heap.size + 1:=by simp
     have h34:=bel_tr h4 hz4
     replace hbx:=bel_tr hbx h34
     replace BX:=BX.below h34
     have hw4:=bel_tr hw3 h34
     replace GQ:=(GQ.mono (Nat.zero_le _)).below hz4
     have LR4:=LR.below hw4
     have LZ4:=LZ0.below hw4
     have h4s:=h4.size
     have k0:=(QB 0 _ rfl)
     have k1:=(QB 1 _ rfl)
     have k2:=(QB 2 _ rfl)
     have l0:=(LR4.cell 0).trans (show _ = some (.bool lp) from rfl)
     have l1:=(LR4.cell 1).trans (show _ = some (.slice la ln lcc) from rfl)
     have l2:=(LR4.cell 2).trans (show _ = some (.slice ld lm le) from rfl)
     obtain ⟨rt,ert⟩:∃ rt,rt = (X q).r / at_:=⟨_,rfl⟩
     rw [← ert] at GQ
     have HRT:Hid (rt = (X q).r / at_):=ert
     obtain ⟨od,eod⟩:∃ od,od = cs rt (lvf X j q).2:=⟨_,rfl⟩
     have HOD:Hid (od = cs rt (lvf X j q).2):=eod
     clear h4 hz4 h34 hw3 AB ZA ert eod
     go_wp2_with fail
     clear k0 k1 k2 l0 l1 l2
     generalize w4.alloc (.cells #[.bool qp,.slice qa qn qc,.slice qd qm qe] 29) = W4 at *
     refine (cmpB od W4 GQ.tr LZ4.tr (by omega) (by omega) (by omega) HOD.out).mono ?_
     rintro e W5 ⟨rfl,h5⟩
     replace hbx:=bel_tr hbx h5
     replace BX:=BX.below h5
     replace QB:=QB.below h5
     replace GQ:=GQ.below h5
     have LR5:=LR4.below h5
     have LZ5:=LZ4.below h5
     have hw5:=bel_tr hw4 h5
     have h5s:=h5.size
     have xb5:=kept_c hw5 xb
     have B5:=BQ.below hw5
     clear h5 hw4 LR4 LZ4 LR LZ0 BQ xb
     rw [← HRT.out] at HST
     have hfl:=lvf_lt X j q
     rw [← HF.out] at hfl
     by_cases hf1:fnd = -1
     ·subst hf1
      have HBX:∀ w',Below W5.heap.size W5 w'→(w'.cell? ⟨wr.heap.size,4,none⟩ = some (.int .i64 bas)∧w'.cell? ⟨f.b,1,none⟩ = some (.slice (some ⟨rg,0,none⟩) m rc)):=fun w' h=>⟨kept_c h (BX 4 _ rfl),kept_c h xb5⟩
      go_wp2_with fail
      refine wp_region_noPanic (wp_region_guardB HBX (by as_aux_lemma=>kernel_rfl) ?_)
      have hc0:Below W5.heap.size W5 W5.drew:=bel_d1 _
      generalize W5.drew = z0 at *
      refine wpAnyG.tA 0 (v:=.int .i64 (-1)) (by decide) 1 (by as_aux_lemma=>kernel_rfl) (by rfl) ?y0 (HBX _ hc0) ?_
      case y0 =>
       rintro w' ⟨q0,q1⟩
       simp only [lgA,lgZ]
       go_simp
      simp only [lgA,lgZ,Act.put,lsA,lsZ,lsS]
      refine wpAnyG.tA 1 (v:=.bool true) (by decide) 2 (by as_aux_lemma=>kernel_rfl) (by rfl) ?y1 (HBX _ hc0) ?_
      case y1 =>
       rintro w' ⟨q0,q1⟩
       simp only [lgA,lgZ,lgS]
       go_simp
      simp only [lgA,lgZ,lgS,Act.put,lsA,lsZ,lsS]
      refine wpAnyG.tA 2 (v:=.bool true) (by decide) 6 (by as_aux_lemma=>kernel_rfl) (by rfl) ?y2 (HBX _ hc0) ?_
      case y2 =>
       rintro w' ⟨q0,q1⟩
       simp only [lgA,lgZ,lgS]
       go_simp
      simp only [lgA,lgZ,lgS,Act.put,lsA,lsZ,lsS]
      refine wpAnyG.skip 3 (by decide) (by as_aux_lemma=>kernel_rfl) (fun _ _ _ h=>h) 4 (by rfl) (fun _ _=>Iff.rfl) (by as_aux_lemma=>kernel_rfl) (by as_aux_lemma=>kernel_rfl) (by as_aux_lemma=>kernel_rfl) (by rfl) (HBX _ hc0) (by rfl) ?_
      simp only [lgA,lgZ,lgS,Act.put,lsA,lsZ,lsS]
      refine wpAnyG.skip 4 (by decide) (by as_aux_lemma=>kernel_rfl) (fun _ _ _ h=>h) 5 (by rfl) (fun _ _=>Iff.rfl) (by as_aux_lemma=>kernel_rfl) (by as_aux_lemma=>kernel_rfl) (by as_aux_lemma=>kernel_rfl) (by rfl) (HBX _ hc0) (by rfl) ?_
      simp only [lgA,lgZ,lgS,Act.put,lsA,lsZ,lsS]
      refine wpAnyG.tA 5 (v:=.bool true) (by decide) 6 (by as_aux_lemma=>kernel_rfl) (by rfl) ?y5 (HBX _ hc0) ?_
      case y5 =>
       rintro w' ⟨q0,q1⟩
       simp only [lgA,lgZ,lgS]
       go_simp
      simp only [lgA,lgZ,lgS,Act.put,lsA,lsZ,lsS]
      refine wpAnyG.tA 6 (v:=.bool true) (by decide) 22 (by as_aux_lemma=>kernel_rfl) (by rfl) ?y6 (HBX _ hc0) ?_
      case y6 =>
       rintro w' ⟨q0,q1⟩
       simp only [lgA,lgZ,lgS]
       go_simp
      simp only [lgA,lgZ,lgS,Act.put,lsA,lsZ,lsS]
      refine wpAnyG.skip 7 (by decide) (by as_aux_lemma=>kernel_rfl) (fun _ _ _ h=>h) 8 (by rfl) (fun _ _=>Iff.rfl) (by as_aux_lemma=>kernel_rfl) (by as_aux_lemma=>kernel_rfl) (by as_aux_lemma=>kernel_rfl) (by rfl) (HBX _ hc0) (by rfl) ?_
      simp only [lgA,lgZ,lgS,Act.put,lsA,lsZ,lsS]
      refine wpAnyG.skip 8 (by decide) (by as_aux_lemma=>kernel_rfl) (fun _ _ _ h=>h) 9 (by rfl) (fun _ _=>Iff.rfl) (by as_aux_lemma=>kernel_rfl) (by as_aux_lemma=>kernel_rfl) (by as_aux_lemma=>kernel_rfl) (by rfl) (HBX _ hc0) (by rfl) ?_
      simp only [lgA,lgZ,lgS,Act.put,lsA,lsZ,lsS]
      refine wpAnyG.skip 9 (by decide) (by as_aux_lemma=>kernel_rfl) (fun _ _ _ h=>h) 21 (by rfl) (fun _ _=>Iff.rfl) (by as_aux_lemma=>kernel_rfl) (by as_aux_lemma=>kernel_rfl) (by as_aux_lemma=>kernel_rfl) (by rfl) (HBX _ hc0) (by rfl) ?_
      simp only [lgA,lgZ,lgS,Act.put,lsA,lsZ,lsS]
      refine wpAnyG.skip 10 (by decide) (by as_aux_lemma=>kernel_rfl) (fun _ _ _ h=>h) 11 (by rfl) (fun _ _=>Iff.rfl) (by as_aux_lemma=>kernel_rfl) (by as_aux_lemma=>kernel_rfl) (by as_aux_lemma=>kernel_rfl) (by rfl) (HBX _ hc0) (by rfl) ?_
      simp only [lgA,lgZ,lgS,Act.put,lsA,lsZ,lsS]
      refine wpAnyG.skip 11 (by decide) (by as_aux_lemma=>kernel_rfl) (fun _ _ _ h=>h) 20 (by rfl) (fun _ _=>Iff.rfl) (by as_aux_lemma=>kernel_rfl) (by as_aux_lemma=>kernel_rfl) (by as_aux_lemma=>kernel_rfl) (by rfl) (HBX _ hc0) (by rfl) ?_
      simp only [lgA,lgZ,lgS,Act.put,lsA,lsZ,lsS]
      refine wpAnyG.skip 12 (by decide) (by as_aux_lemma=>kernel_rfl) (fun _ _ _ h=>h) 13 (by rfl) (fun _ _=>Iff.rfl) (by as_aux_lemma=>kernel_rfl) (by as_aux_lemma=>kernel_rfl) (by as_aux_lemma=>kernel_rfl) (by rfl) (HBX _ hc0) (by rfl) ?_
      simp only [lgA,lgZ,lgS,Act.put,lsA,lsZ,lsS]
      refine wpAnyG.skip 13 (by decide) (by as_aux_lemma=>kernel_rfl) (fun _ _ _ h=>h) 14 (by rfl) (fun _ _=>Iff.rfl) (by as_aux_lemma=>kernel_rfl) (by as_aux_lemma=>kernel_rfl) (by as_aux_lemma=>kernel_rfl) (by rfl) (HBX _ hc0) (by rfl) ?_
      simp only [lgA,lgZ,lgS,Act.put,lsA,lsZ,lsS]
      refine wpAnyG.skip 14 (by decide) (by as_aux_lemma=>kernel_rfl) (fun _ _ _ h=>h) 15 (by rfl) (fun _ _=>Iff.rfl) (by as_aux_lemma=>kernel_rfl) (by as_aux_lemma=>kernel_rfl) (by as_aux_lemma=>kernel_rfl) (by rfl) (HBX _ hc0) (by rfl) ?_
      simp only [lgA,lgZ,lgS,Act.put,lsA,lsZ,lsS]
      refine wpAnyG.skip 15 (by decide) (by as_aux_lemma=>kernel_rfl) (fun _ _ _ h=>h) 17 (by rfl) (fun _ _=>Iff.rfl) (by as_aux_lemma=>kernel_rfl) (by as_aux_lemma=>kernel_rfl) (by as_aux_lemma=>kernel_rfl) (by rfl) (HBX _ hc0) (by rfl) ?_
      simp only [lgA,lgZ,lgS,Act.put,lsA,lsZ,lsS]
      refine wpAnyG.skip 16 (by decide) (by as_aux_lemma=>kernel_rfl) (fun _ _ _ h=>h) 17 (by rfl) (fun _ _=>Iff.rfl) (by as_aux_lemma=>kernel_rfl) (by as_aux_lemma=>kernel_rfl) (by as_aux_lemma=>kernel_rfl) (by rfl) (HBX _ hc0) (by rfl) ?_
      simp only [lgA,lgZ,lgS,Act.put,lsA,lsZ,lsS]
      refine wpAnyG.skip 17 (by decide) (by as_aux_lemma=>kernel_rfl) (fun _ _ _ h=>h) 18 (by rfl) (fun _ _=>Iff.rfl) (by as_aux_lemma=>kernel_rfl) (by as_aux_lemma=>kernel_rfl) (by as_aux_lemma=>kernel_rfl) (by rfl) (HBX _ hc0) (by rfl) ?_
      simp only [lgA,lgZ,lgS,Act.put,lsA,lsZ,lsS]
      refine wpAnyG.skip 18 (by decide) (by as_aux_lemma=>kernel_rfl) (fun _ _ _ h=>h) 19 (by rfl) (fun _ _=>Iff.rfl) (by as_aux_lemma=>kernel_rfl) (by as_aux_lemma=>kernel_rfl) (by as_aux_lemma=>kernel_rfl) (by rfl) (HBX _ hc0) (by rfl) ?_
      simp only [lgA,lgZ,lgS,Act.put,lsA,lsZ,lsS]
      refine wpAnyG.skip 19 (by decide) (by as_aux_lemma=>kernel_rfl) (fun _ _ _ h=>h) 20 (by rfl) (fun _ _=>Iff.rfl) (by as_aux_lemma=>kernel_rfl) (by as_aux_lemma=>kernel_rfl) (by as_aux_lemma=>kernel_rfl) (by rfl) (HBX _ hc0) (by rfl) ?_
      simp only [lgA,lgZ,lgS,Act.put,lsA,lsZ,lsS]
      refine wpAnyG.skip 20 (by decide) (by as_aux_lemma=>kernel_rfl) (fun _ _ _ h=>h) 21 (by rfl) (fun _ _=>Iff.rfl) (by as_aux_lemma=>kernel_rfl) (by as_aux_lemma=>kernel_rfl) (by as_aux_lemma=>kernel_rfl) (by rfl) (HBX _ hc0) (by rfl) ?_
      simp only [lgA,lgZ,lgS,Act.put,lsA,lsZ,lsS]
      refine wpAnyG.skip 21 (by decide) (by as_aux_lemma=>kernel_rfl) (fun _ _ _ h=>h) 22 (by rfl) (fun _ _=>Iff.rfl) (by as_aux_lemma=>kernel_rfl) (by as_aux_lemma=>kernel_rfl) (by as_aux_lemma=>kernel_rfl) (by rfl) (HBX _ hc0) (by rfl) ?_
      simp only [lgA,lgZ,lgS,Act.put,lsA,lsZ,lsS]
      refine wpAnyG.one 22 (by as_aux_lemma=>kernel_rfl) (by decide) (by rfl) (fun K hK=>?_)
      simp only [lgA,lgZ,lgS]
      go_simp
      refine hK _ _ (HBX _ hc0) ?_
      clear hK K
      refine wpAnyG.done (by as_aux_lemma=>kernel_rfl) (NoPanic.normal ?_)
      have HE2:Hid (((q:Nat):Int) = (lvf X j (q + 1)).1):=by show _ = _;rw [HST.out,if_pos (.inl HF.out.symm)]
      have LE2:(lvf X j (q + 1)).2 = rt:=by rw [HST.out,if_pos (.inl HF.out.symm)]
      have HB2:∀ w',Below z0.heap.size z0 w'→(w'.cell? ⟨w4.heap.size,0,none⟩ = some (.bool qp)∧w'.cell? ⟨w4.heap.size,1,none⟩ = some (.slice qa qn qc)∧w'.cell? ⟨w4.heap.size,2,none⟩ = some (.slice qd qm qe)):=fun w' h=>⟨kept_c h (kept_c hc0 (QB 0 _ rfl)),kept_c h (kept_c hc0 (QB 1 _ rfl)),kept_c h (kept_c hc0 (QB 2 _ rfl))⟩
      have LZ:=LR5.below hc0
      have hbz:=bel_tr hbx hc0
      have GZ:=GQ.below hc0
      have hz0s:=hc0.size
      clear HBX hc0
      go_wp2_with fail
      refine wp_region_noPanic (wp_region_guardT 3 HB2 (by as_aux_lemma=>kernel_rfl) ?_)
      have hd0:Below z0.heap.size z0 z0.drew:=bel_d1 _
      generalize z0.drew = y0 at *
      refine wpAnyG.tT 0 (v:=.int .i64 (q:Nat)) (by decide) 3 (by as_aux_lemma=>kernel_rfl) (by rfl) ?y0 (HB2 _ hd0) ?_
      case y0 =>
       rintro w' ⟨q0,q1,q2⟩
       simp only [lgA,lgZ]
       go_simp
      simp only [lgA,lgZ,Act.put,lsA,lsZ,lsS]
      refine wpAnyG.tT 1 (v:=.agg #[.bool qp,.slice qa qn qc,.slice qd qm qe]) (by decide) 3 (by as_aux_lemma=>kernel_rfl) (by rfl) ?y1 (HB2 _ hd0) ?_
      case y1 =>
       rintro w' ⟨q0,q1,q2⟩
       simp only [lgA,lgZ,lgS]
       go_simp
      simp only [lgA,lgZ,lgS,Act.put,lsA,lsZ,lsS]
      refine wpAnyG.tT 2 (v:=.int .i64 (q:Nat)) (by decide) 3 (by as_aux_lemma=>kernel_rfl) (by rfl) ?y2 (HB2 _ hd0) ?_
      case y2 =>
       rintro w' ⟨q0,q1,q2⟩
       simp only [lgA,lgZ,lgS]
       go_simp
      simp only [lgA,lgZ,lgS,Act.put,lsA,lsZ,lsS]
      refine wpAnyG.one 3 (by as_aux_lemma=>kernel_rfl) (by decide) (by rfl) (fun K hK=>?_)
      simp only [lgA,lgZ,lgS]
      have k0:=((LZ.below hd0).cell 0).trans (show _ = some (.bool lp) from rfl)
      have k1:=((LZ.below hd0).cell 1).trans (show _ = some (.slice la ln lcc) from rfl)
      have k2:=((LZ.below hd0).cell 2).trans (show _ = some (.slice ld lm le) from rfl)
      have f0:=(LZ.below hd0).frozen 0
      have f1:=(LZ.below hd0).frozen 1
      have f2:=(LZ.below hd0).frozen 2
      go_simp
      refine hK _ _ ⟨fun h=>absurd h (by decide),fun _=>trivial⟩ ?_
      clear hK K
      refine wpAnyG.done (by as_aux_lemma=>kernel_rfl) (NoPanic.normal ?_)
      have LZ':=LZ.below hd0
      obtain ⟨LN,O⟩:=LZ'.set3 (.bool qp) (.slice qa qn qc) (.slice qd qm qe)
      have hnw:NoW y0 (some w.heap.size):=LZ'.noW (by decide)
      have ZN:NZ (((y0.setCell ⟨w.heap.size,0,none⟩ (.bool qp)).setCell ⟨w.heap.size,1,none⟩ (.slice qa qn qc)).setCell ⟨w.heap.size,2,none⟩ (.slice qd qm qe)) qp qa qn qc qd qm qe (lvf X j (q + 1)).2 (S + S):=by rw [LE2];exact .inr ((GZ.below hd0).keep hnw O.grown)
      have hbn:=(bel_tr hbz hd0).trans (O.below (Nat.le_refl _))
      have hs9:w.heap.size < (((y0.setCell ⟨w.heap.size,0,none⟩ (.bool qp)).setCell ⟨w.heap.size,1,none⟩ (.slice qa qn qc)).setCell ⟨w.heap.size,2,none⟩ (.slice qd qm qe)).heap.size:=by have:=O.size;have:=hd0.size;omega
      clear LZ LZ' O hnw HB2 hd0 GZ hbz QB BX GQ LR5 LZ5 B5 xb5 hbx k0 k1 k2 f0 f1 f2
      go_wp2
      go_roundw
      case rel=>first | exact ⟨q + 1,((q:Nat):Int),_,_,_,_,_,_,_,by omega,by go_num,rfl,LN,ZN,HE2,hbn,hs9⟩ | ((repeat apply Exists.intro);refine ⟨?_,rfl⟩;exact ⟨q + 1,((q:Nat):Int),_,_,_,_,_,_,_,by omega,by go_num,rfl,LN,ZN,HE2,hbn,hs9⟩)
      case measure=>simp [intOf];omega
     ·obtain ⟨fk,rfl⟩:=Int.eq_ofNat_of_zero_le (show 0≤fnd by omega)
      have hfkm:fk < f.m:=by have:=HM.out;omega
      have hfkI:(fk:Int) < (m:Int):=by omega
      have hfk0:¬ (fk:Int) < 0:=by omega
      have hfkE:((fk:Int) == -1) = false:=by simp
      have hfk6:(fk:Int) * 6 = ((fk * 6:Nat):Int):=by omega
      have HFK:Hid ((lvf X j q).1.toNat = fk):=by show _ = _;rw [← HF.out];exact Int.toNat_natCast _
      have HF1:Hid (¬ (lvf X j q).1 = -1):=by show ¬ _;rw [← HF.out];exact hf1
      obtain ⟨rg',rc'',_,_,_,_,_,_,_,erv',_,_,_,_,yf,_,_⟩:=B5.get hfkm
      obtain ⟨fb,efb⟩:∃ fb,fb = (X fk).bas:=⟨_,rfl⟩
      rw [← efb] at yf
      have HFB:Hid (fb = (X fk).bas):=efb
      obtain rfl:rg = rg':=by
       rw [erv] at erv'
       simp only [Value.slice.injEq,Option.some.injEq,Addr.mk.injEq,and_true,true_and] at erv'
       exact erv'.1
      clear erv' efb hf1
      by_cases ho:od < 0
      ·skip
       have HBX:∀ w',Below W5.heap.size W5 w'→(w'.cell? ⟨wr.heap.size,4,none⟩ = some (.int .i64 bas)∧w'.cell? ⟨f.b,1,none⟩ = some (.slice (some ⟨rg,0,none⟩) m rc)∧w'.cell? ⟨rg,fk * 6 + 4,none⟩ = some (.int .i64 fb)):=fun w' h=>⟨kept_c h (BX 4 _ rfl),kept_c h xb5,kept_c h yf⟩
       go_wp2_with fail
       refine wp_region_noPanic (wp_region_guardB HBX (by as_aux_lemma=>kernel_rfl) ?_)
       have hc0:Below W5.heap.size W5 W5.drew:=bel_d1 _
       generalize W5.drew = z0 at *
       refine wpAnyG.tA 0 (v:=.int .i64 (fk:Nat)) (by decide) 1 (by as_aux_lemma=>kernel_rfl) (by rfl) ?y0 (HBX _ hc0) ?_
       case y0 =>
        rintro w' ⟨q0,q1,q2⟩
        simp only [lgA,lgZ]
        go_simp
       simp only [lgA,lgZ,Act.put,lsA,lsZ,lsS]
       refine wpAnyG.tA 1 (v:=.bool false) (by decide) 2 (by as_aux_lemma=>kernel_rfl) (by rfl) ?y1 (HBX _ hc0) ?_
       case y1 =>
        rintro w' ⟨q0,q1,q2⟩
        simp only [lgA,lgZ,lgS]
        go_simp
       simp only [lgA,lgZ,lgS,Act.put,lsA,lsZ,lsS]
       refine wpAnyG.tA 2 (v:=.bool false) (by decide) 6 (by as_aux_lemma=>kernel_rfl) (by rfl) ?y2 (HBX _ hc0) ?_
       case y2 =>
        rintro w' ⟨q0,q1,q2⟩
        simp only [lgA,lgZ,lgS]
        go_simp
       simp only [lgA,lgZ,lgS,Act.put,lsA,lsZ,lsS]
       refine wpAnyG.tA 3 (v:=.int .i64 od) (by decide) 4 (by as_aux_lemma=>kernel_rfl) (by rfl) ?y3 (HBX _ hc0) ?_
       case y3 =>
        rintro w' ⟨q0,q1,q2⟩
        simp only [lgA,lgZ,lgS]
        go_simp
       simp only [lgA,lgZ,lgS,Act.put,lsA,lsZ,lsS]
       refine wpAnyG.tA 4 (v:=.bool true) (by decide) 5 (by as_aux_lemma=>kernel_rfl) (by rfl) ?y4 (HBX _ hc0) ?_
       case y4 =>
        rintro w' ⟨q0,q1,q2⟩
        simp only [lgA,lgZ,lgS]
        go_simp
       simp only [lgA,lgZ,lgS,Act.put,lsA,lsZ,lsS]
       refine wpAnyG.tA 5 (v:=.bool true) (by decide) 6 (by as_aux_lemma=>kernel_rfl) (by rfl) ?y5 (HBX _ hc0) ?_
       case y5 =>
        rintro w' ⟨q0,q1,q2⟩
        simp only [lgA,lgZ,lgS]
        go_simp
       simp only [lgA,lgZ,lgS,Act.put,lsA,lsZ,lsS]
       refine wpAnyG.tA 6 (v:=.bool true) (by decide) 22 (by as_aux_lemma=>kernel_rfl) (by rfl) ?y6 (HBX _ hc0) ?_
       case y6 =>
        rintro w' ⟨q0,q1,q2⟩
        simp only [lgA,lgZ,lgS]
        go_simp
       simp only [lgA,lgZ,lgS,Act.put,lsA,lsZ,lsS]
       refine wpAnyG.skip 7 (by decide) (by as_aux_lemma=>kernel_rfl) (fun _ _ _ h=>h) 8 (by rfl) (fun _ _=>Iff.rfl) (by as_aux_lemma=>kernel_rfl) (by as_aux_lemma=>kernel_rfl) (by as_aux_lemma=>kernel_rfl) (by rfl) (HBX _ hc0) (by rfl) ?_
       simp only [lgA,lgZ,lgS,Act.put,lsA,lsZ,lsS]
       refine wpAnyG.skip 8 (by decide) (by as_aux_lemma=>kernel_rfl) (fun _ _ _ h=>h) 9 (by rfl) (fun _ _=>Iff.rfl) (by as_aux_lemma=>kernel_rfl) (by as_aux_lemma=>kernel_rfl) (by as_aux_lemma=>kernel_rfl) (by rfl) (HBX _ hc0) (by rfl) ?_
       simp only [lgA,lgZ,lgS,Act.put,lsA,lsZ,lsS]
       refine wpAnyG.skip 9 (by decide) (by as_aux_lemma=>kernel_rfl) (fun _ _ _ h=>h) 21 (by rfl) (fun _ _=>Iff.rfl) (by as_aux_lemma=>kernel_rfl) (by as_aux_lemma=>kernel_rfl) (by as_aux_lemma=>kernel_rfl) (by rfl) (HBX _ hc0) (by rfl) ?_
       simp only [lgA,lgZ,lgS,Act.put,lsA,lsZ,lsS]
       refine wpAnyG.skip 10 (by decide) (by as_aux_lemma=>kernel_rfl) (fun _ _ _ h=>h) 11 (by rfl) (fun _ _=>Iff.rfl) (by as_aux_lemma=>kernel_rfl) (by as_aux_lemma=>kernel_rfl) (by as_aux_lemma=>kernel_rfl) (by rfl) (HBX _ hc0) (by rfl) ?_
       simp only [lgA,lgZ,lgS,Act.put,lsA,lsZ,lsS]
       refine wpAnyG.skip 11 (by decide) (by as_aux_lemma=>kernel_rfl) (fun _ _ _ h=>h) 20 (by rfl) (fun _ _=>Iff.rfl) (by as_aux_lemma=>kernel_rfl) (by as_aux_lemma=>kernel_rfl) (by as_aux_lemma=>kernel_rfl) (by rfl) (HBX _ hc0) (by rfl) ?_
       simp only [lgA,lgZ,lgS,Act.put,lsA,lsZ,lsS]
       refine wpAnyG.skip 12 (by decide) (by as_aux_lemma=>kernel_rfl) (fun _ _ _ h=>h) 13 (by rfl) (fun _ _=>Iff.rfl) (by as_aux_lemma=>kernel_rfl) (by as_aux_lemma=>kernel_rfl) (by as_aux_lemma=>kernel_rfl) (by rfl) (HBX _ hc0) (by rfl) ?_
       simp only [lgA,lgZ,lgS,Act.put,lsA,lsZ,lsS]
       refine wpAnyG.skip 13 (by decide) (by as_aux_lemma=>kernel_rfl) (fun _ _ _ h=>h) 14 (by rfl) (fun _ _=>Iff.rfl) (by as_aux_lemma=>kernel_rfl) (by as_aux_lemma=>kernel_rfl) (by as_aux_lemma=>kernel_rfl) (by rfl) (HBX _ hc0) (by rfl) ?_
       simp only [lgA,lgZ,lgS,Act.put,lsA,lsZ,lsS]
       refine wpAnyG.skip 14 (by decide) (by as_aux_lemma=>kernel_rfl) (fun _ _ _ h=>h) 15 (by rfl) (fun _ _=>Iff.rfl) (by as_aux_lemma=>kernel_rfl) (by as_aux_lemma=>kernel_rfl) (by as_aux_lemma=>kernel_rfl) (by rfl) (HBX _ hc0) (by rfl) ?_
       simp only [lgA,lgZ,lgS,Act.put,lsA,lsZ,lsS]
       refine wpAnyG.skip 15 (by decide) (by as_aux_lemma=>kernel_rfl) (fun _ _ _ h=>h) 17 (by rfl) (fun _ _=>Iff.rfl) (by as_aux_lemma=>kernel_rfl) (by as_aux_lemma=>kernel_rfl) (by as_aux_lemma=>kernel_rfl) (by rfl) (HBX _ hc0) (by rfl) ?_
       simp only [lgA,lgZ,lgS,Act.put,lsA,lsZ,lsS]
       refine wpAnyG.skip 16 (by decide) (by as_aux_lemma=>kernel_rfl) (fun _ _ _ h=>h) 17 (by rfl) (fun _ _=>Iff.rfl) (by as_aux_lemma=>kernel_rfl) (by as_aux_lemma=>kernel_rfl) (by as_aux_lemma=>kernel_rfl) (by rfl) (HBX _ hc0) (by rfl) ?_
       simp only [lgA,lgZ,lgS,Act.put,lsA,lsZ,lsS]
       refine wpAnyG.skip 17 (by decide) (by as_aux_lemma=>kernel_rfl) (fun _ _ _ h=>h) 18 (by rfl) (fun _ _=>Iff.rfl) (by as_aux_lemma=>kernel_rfl) (by as_aux_lemma=>kernel_rfl) (by as_aux_lemma=>kernel_rfl) (by rfl) (HBX _ hc0) (by rfl) ?_
       simp only [lgA,lgZ,lgS,Act.put,lsA,lsZ,lsS]
       refine wpAnyG.skip 18 (by decide) (by as_aux_lemma=>kernel_rfl) (fun _ _ _ h=>h) 19 (by rfl) (fun _ _=>Iff.rfl) (by as_aux_lemma=>kernel_rfl) (by as_aux_lemma=>kernel_rfl) (by as_aux_lemma=>kernel_rfl) (by rfl) (HBX _ hc0) (by rfl) ?_
       simp only [lgA,lgZ,lgS,Act.put,lsA,lsZ,lsS]
       refine wpAnyG.skip 19 (by decide) (by as_aux_lemma=>kernel_rfl) (fun _ _ _ h=>h) 20 (by rfl) (fun _ _=>Iff.rfl) (by as_aux_lemma=>kernel_rfl) (by as_aux_lemma=>kernel_rfl) (by as_aux_lemma=>kernel_rfl) (by rfl) (HBX _ hc0) (by rfl) ?_
       simp only [lgA,lgZ,lgS,Act.put,lsA,lsZ,lsS]
       refine wpAnyG.skip 20 (by decide) (by as_aux_lemma=>kernel_rfl) (fun _ _ _ h=>h) 21 (by rfl) (fun _ _=>Iff.rfl) (by as_aux_lemma=>kernel_rfl) (by as_aux_lemma=>kernel_rfl) (by as_aux_lemma=>kernel_rfl) (by rfl) (HBX _ hc0) (by rfl) ?_
       simp only [lgA,lgZ,lgS,Act.put,lsA,lsZ,lsS]
       refine wpAnyG.skip 21 (by decide) (by as_aux_lemma=>kernel_rfl) (fun _ _ _ h=>h) 22 (by rfl) (fun _ _=>Iff.rfl) (by as_aux_lemma=>kernel_rfl) (by as_aux_lemma=>kernel_rfl) (by as_aux_lemma=>kernel_rfl) (by rfl) (HBX _ hc0) (by rfl) ?_
       simp only [lgA,lgZ,lgS,Act.put,lsA,lsZ,lsS]
       refine wpAnyG.one 22 (by as_aux_lemma=>kernel_rfl) (by decide) (by rfl) (fun K hK=>?_)
       simp only [lgA,lgZ,lgS]
       go_simp
       refine hK _ _ (HBX _ hc0) ?_
       clear hK K
       refine wpAnyG.done (by as_aux_lemma=>kernel_rfl) (NoPanic.normal ?_)
       have HE2:Hid (((q:Nat):Int) = (lvf X j (q + 1)).1):=by show _ = _;rw [HST.out,if_pos (.inr (.inl (by rw [← HOD.out];exact ho)))]
       have LE2:(lvf X j (q + 1)).2 = rt:=by rw [HST.out,if_pos (.inr (.inl (by rw [← HOD.out];exact ho)))]
       have HB2:∀ w',Below z0.heap.size z0 w'→(w'.cell? ⟨w4.heap.size,0,none⟩ = some (.bool qp)∧w'.cell? ⟨w4.heap.size,1,none⟩ = some (.slice qa qn qc)∧w'.cell? ⟨w4.heap.size,2,none⟩ = some (.slice qd qm qe)):=fun w' h=>⟨kept_c h (kept_c hc0 (QB 0 _ rfl)),kept_c h (kept_c hc0 (QB 1 _ rfl)),kept_c h (kept_c hc0 (QB 2 _ rfl))⟩
       have LZ:=LR5.below hc0
       have hbz:=bel_tr hbx hc0
       have GZ:=GQ.below hc0
       have hz0s:=hc0.size
       clear HBX hc0
       go_wp2_with fail
       refine wp_region_noPanic (wp_region_guardT 3 HB2 (by as_aux_lemma=>kernel_rfl) ?_)
       have hd0:Below z0.heap.size z0 z0.drew:=bel_d1 _
       generalize z0.drew = y0 at *
       refine wpAnyG.tT 0 (v:=.int .i64 (q:Nat)) (by decide) 3 (by as_aux_lemma=>kernel_rfl) (by rfl) ?y0 (HB2 _ hd0) ?_
       case y0 =>
        rintro w' ⟨q0,q1,q2⟩
        simp only [lgA,lgZ]
        go_simp
       simp only [lgA,lgZ,Act.put,lsA,lsZ,lsS]
       refine wpAnyG.tT 1 (v:=.agg #[.bool qp,.slice qa qn qc,.slice qd qm qe]) (by decide) 3 (by as_aux_lemma=>kernel_rfl) (by rfl) ?y1 (HB2 _ hd0) ?_
       case y1 =>
        rintro w' ⟨q0,q1,q2⟩
        simp only [lgA,lgZ,lgS]
        go_simp
       simp only [lgA,lgZ,lgS,Act.put,lsA,lsZ,lsS]
       refine wpAnyG.tT 2 (v:=.int .i64 (q:Nat)) (by decide) 3 (by as_aux_lemma=>kernel_rfl) (by rfl) ?y2 (HB2 _ hd0) ?_
       case y2 =>
        rintro w' ⟨q0,q1,q2⟩
        simp only [lgA,lgZ,lgS]
        go_simp
       simp only [lgA,lgZ,lgS,Act.put,lsA,lsZ,lsS]
       refine wpAnyG.one 3 (by as_aux_lemma=>kernel_rfl) (by decide) (by rfl) (fun K hK=>?_)
       simp only [lgA,lgZ,lgS]
       have k0:=((LZ.below hd0).cell 0).trans (show _ = some (.bool lp) from rfl)
       have k1:=((LZ.below hd0).cell 1).trans (show _ = some (.slice la ln lcc) from rfl)
       have k2:=((LZ.below hd0).cell 2).trans (show _ = some (.slice ld lm le) from rfl)
       have f0:=(LZ.below hd0).frozen 0
       have f1:=(LZ.below hd0).frozen 1
       have f2:=(LZ.below hd0).frozen 2
       go_simp
       refine hK _ _ ⟨fun h=>absurd h (by decide),fun _=>trivial⟩ ?_
       clear hK K
       refine wpAnyG.done (by as_aux_lemma=>kernel_rfl) (NoPanic.normal ?_)
       have LZ':=LZ.below hd0
       obtain ⟨LN,O⟩:=LZ'.set3 (.bool qp) (.slice qa qn qc) (.slice qd qm qe)
       have hnw:NoW y0 (some w.heap.size):=LZ'.noW (by decide)
       have ZN:NZ (((y0.setCell ⟨w.heap.size,0,none⟩ (.bool qp)).setCell ⟨w.heap.size,1,none⟩ (.slice qa qn qc)).setCell ⟨w.heap.size,2,none⟩ (.slice qd qm qe)) qp qa qn qc qd qm qe (lvf X j (q + 1)).2 (S + S):=by rw [LE2];exact .inr ((GZ.below hd0).keep hnw O.grown)
       have hbn:=(bel_tr hbz hd0).trans (O.below (Nat.le_refl _))
       have hs9:w.heap.size < (((y0.setCell ⟨w.heap.size,0,none⟩ (.bool qp)).setCell ⟨w.heap.size,1,none⟩ (.slice qa qn qc)).setCell ⟨w.heap.size,2,none⟩ (.slice qd qm qe)).heap.size:=by have:=O.size;have:=hd0.size;omega
       clear LZ LZ' O hnw HB2 hd0 GZ hbz QB BX GQ LR5 LZ5 B5 xb5 hbx k0 k1 k2 f0 f1 f2
       go_wp2
       go_roundw
       case rel=>first | exact ⟨q + 1,((q:Nat):Int),_,_,_,_,_,_,_,by omega,by go_num,rfl,LN,ZN,HE2,hbn,hs9⟩ | ((repeat apply Exists.intro);refine ⟨?_,rfl⟩;exact ⟨q + 1,((q:Nat):Int),_,_,_,_,_,_,_,by omega,by go_num,rfl,LN,ZN,HE2,hbn,hs9⟩)
       case measure=>simp [intOf];omega
      ·by_cases ho2:od = 0
       ·have ho':0≤od:=by omega
        have hoE:(od == 0) = true:=by simpa using ho2
        have HO2:Hid (od = 0):=ho2
        clear ho2
        by_cases hbb:bas < fb
        ·skip
         have HBX:∀ w',Below W5.heap.size W5 w'→(w'.cell? ⟨wr.heap.size,4,none⟩ = some (.int .i64 bas)∧w'.cell? ⟨f.b,1,none⟩ = some (.slice (some ⟨rg,0,none⟩) m rc)∧w'.cell? ⟨rg,fk * 6 + 4,none⟩ = some (.int .i64 fb)):=fun w' h=>⟨kept_c h (BX 4 _ rfl),kept_c h xb5,kept_c h yf⟩
         go_wp2_with fail
         refine wp_region_noPanic (wp_region_guardB HBX (by as_aux_lemma=>kernel_rfl) ?_)
         have hc0:Below W5.heap.size W5 W5.drew:=bel_d1 _
         generalize W5.drew = z0 at *
         refine wpAnyG.tA 0 (v:=.int .i64 (fk:Nat)) (by decide) 1 (by as_aux_lemma=>kernel_rfl) (by rfl) ?y0 (HBX _ hc0) ?_
         case y0 =>
          rintro w' ⟨q0,q1,q2⟩
          simp only [lgA,lgZ]
          go_simp
         simp only [lgA,lgZ,Act.put,lsA,lsZ,lsS]
         refine wpAnyG.tA 1 (v:=.bool false) (by decide) 2 (by as_aux_lemma=>kernel_rfl) (by rfl) ?y1 (HBX _ hc0) ?_
         case y1 =>
          rintro w' ⟨q0,q1,q2⟩
          simp only [lgA,lgZ,lgS]
          go_simp
         simp only [lgA,lgZ,lgS,Act.put,lsA,lsZ,lsS]
         refine wpAnyG.tA 2 (v:=.bool false) (by decide) 6 (by as_aux_lemma=>kernel_rfl) (by rfl) ?y2 (HBX _ hc0) ?_
         case y2 =>
          rintro w' ⟨q0,q1,q2⟩
          simp only [lgA,lgZ,lgS]
          go_simp
         simp only [lgA,lgZ,lgS,Act.put,lsA,lsZ,lsS]
         refine wpAnyG.tA 3 (v:=.int .i64 od) (by decide) 4 (by as_aux_lemma=>kernel_rfl) (by rfl) ?y3 (HBX _ hc0) ?_
         case y3 =>
          rintro w' ⟨q0,q1,q2⟩
          simp only [lgA,lgZ,lgS]
          go_simp
         simp only [lgA,lgZ,lgS,Act.put,lsA,lsZ,lsS]
         refine wpAnyG.tA 4 (v:=.bool false) (by decide) 5 (by as_aux_lemma=>kernel_rfl) (by rfl) ?y4 (HBX _ hc0) ?_
         case y4 =>
          rintro w' ⟨q0,q1,q2⟩
          simp only [lgA,lgZ,lgS]
          go_simp
         simp only [lgA,lgZ,lgS,Act.put,lsA,lsZ,lsS]
         refine wpAnyG.tA 5 (v:=.bool false) (by decide) 6 (by as_aux_lemma=>kernel_rfl) (by rfl) ?y5 (HBX _ hc0) ?_
         case y5 =>
          rintro w' ⟨q0,q1,q2⟩
          simp only [lgA,lgZ,lgS]
          go_simp
         simp only [lgA,lgZ,lgS,Act.put,lsA,lsZ,lsS]
         refine wpAnyG.tA 6 (v:=.bool false) (by decide) 22 (by as_aux_lemma=>kernel_rfl) (by rfl) ?y6 (HBX _ hc0) ?_
         case y6 =>
          rintro w' ⟨q0,q1,q2⟩
          simp only [lgA,lgZ,lgS]
          go_simp
         simp only [lgA,lgZ,lgS,Act.put,lsA,lsZ,lsS]
         refine wpAnyG.tA 7 (v:=.int .i64 od) (by decide) 8 (by as_aux_lemma=>kernel_rfl) (by rfl) ?y7 (HBX _ hc0) ?_
         case y7 =>
          rintro w' ⟨q0,q1,q2⟩
          simp only [lgA,lgZ,lgS]
          go_simp
         simp only [lgA,lgZ,lgS,Act.put,lsA,lsZ,lsS]
         refine wpAnyG.tA 8 (v:=.bool true) (by decide) 9 (by as_aux_lemma=>kernel_rfl) (by rfl) ?y8 (HBX _ hc0) ?_
         case y8 =>
          rintro w' ⟨q0,q1,q2⟩
          simp only [lgA,lgZ,lgS]
          go_simp
         simp only [lgA,lgZ,lgS,Act.put,lsA,lsZ,lsS]
         refine wpAnyG.tA 9 (v:=.bool true) (by decide) 21 (by as_aux_lemma=>kernel_rfl) (by rfl) ?y9 (HBX _ hc0) ?_
         case y9 =>
          rintro w' ⟨q0,q1,q2⟩
          simp only [lgA,lgZ,lgS]
          go_simp
         simp only [lgA,lgZ,lgS,Act.put,lsA,lsZ,lsS]
         refine wpAnyG.tA 10 (v:=.pointer (some ⟨wr.heap.size,4,none⟩)) (by decide) 11 (by as_aux_lemma=>kernel_rfl) (by rfl) ?y10 (HBX _ hc0) ?_
         case y10 =>
          rintro w' ⟨q0,q1,q2⟩
          simp only [lgA,lgZ,lgS]
          go_simp
         simp only [lgA,lgZ,lgS,Act.put,lsA,lsZ,lsS]
         refine wpAnyG.tA 11 (v:=.int .i64 bas) (by decide) 20 (by as_aux_lemma=>kernel_rfl) (by rfl) ?y11 (HBX _ hc0) ?_
         case y11 =>
          rintro w' ⟨q0,q1,q2⟩
          simp only [lgA,lgZ,lgS]
          go_simp
         simp only [lgA,lgZ,lgS,Act.put,lsA,lsZ,lsS]
         refine wpAnyG.tA 12 (v:=.pointer (some ⟨f.b,0,none⟩)) (by decide) 13 (by as_aux_lemma=>kernel_rfl) (by rfl) ?y12 (HBX _ hc0) ?_
         case y12 =>
          rintro w' ⟨q0,q1,q2⟩
          simp only [lgA,lgZ,lgS]
          go_simp
         simp only [lgA,lgZ,lgS,Act.put,lsA,lsZ,lsS]
         refine wpAnyG.tA 13 (v:=.pointer (some ⟨f.b,0,none⟩)) (by decide) 14 (by as_aux_lemma=>kernel_rfl) (by rfl) ?y13 (HBX _ hc0) ?_
         case y13 =>
          rintro w' ⟨q0,q1,q2⟩
          simp only [lgA,lgZ,lgS]
          go_simp
         simp only [lgA,lgZ,lgS,Act.put,lsA,lsZ,lsS]
         refine wpAnyG.tA 14 (v:=.pointer (some ⟨f.b,1,none⟩)) (by decide) 15 (by as_aux_lemma=>kernel_rfl) (by rfl) ?y14 (HBX _ hc0) ?_
         case y14 =>
          rintro w' ⟨q0,q1,q2⟩
          simp only [lgA,lgZ,lgS]
          go_simp
         simp only [lgA,lgZ,lgS,Act.put,lsA,lsZ,lsS]
         refine wpAnyG.tA 15 (v:=.slice (some ⟨rg,0,none⟩) m rc) (by decide) 17 (by as_aux_lemma=>kernel_rfl) (by rfl) ?y15 (HBX _ hc0) ?_
         case y15 =>
          rintro w' ⟨q0,q1,q2⟩
          simp only [lgA,lgZ,lgS]
          go_simp
         simp only [lgA,lgZ,lgS,Act.put,lsA,lsZ,lsS]
         refine wpAnyG.tA 16 (v:=.int .i64 (fk:Nat)) (by decide) 17 (by as_aux_lemma=>kernel_rfl) (by rfl) ?y16 (HBX _ hc0) ?_
         case y16 =>
          rintro w' ⟨q0,q1,q2⟩
          simp only [lgA,lgZ,lgS]
          go_simp
         simp only [lgA,lgZ,lgS,Act.put,lsA,lsZ,lsS]
         refine wpAnyG.tA 17 (v:=.pointer (some ⟨rg,fk * 6,none⟩)) (by decide) 18 (by as_aux_lemma=>kernel_rfl) (by rfl) ?y17 (HBX _ hc0) ?_
         case y17 =>
          rintro w' ⟨q0,q1,q2⟩
          simp only [lgA,lgZ,lgS]
          go_simp
         simp only [lgA,lgZ,lgS,Act.put,lsA,lsZ,lsS]
         refine wpAnyG.tA 18 (v:=.pointer (some ⟨rg,fk * 6 + 4,none⟩)) (by decide) 19 (by as_aux_lemma=>kernel_rfl) (by rfl) ?y18 (HBX _ hc0) ?_
         case y18 =>
          rintro w' ⟨q0,q1,q2⟩
          simp only [lgA,lgZ,lgS]
          go_simp
         simp only [lgA,lgZ,lgS,Act.put,lsA,lsZ,lsS]
         refine wpAnyG.tA 19 (v:=.int .i64 fb) (by decide) 20 (by as_aux_lemma=>kernel_rfl) (by rfl) ?y19 (HBX _ hc0) ?_
         case y19 =>
          rintro w' ⟨q0,q1,q2⟩
          simp only [lgA,lgZ,lgS]
          go_simp
         simp only [lgA,lgZ,lgS,Act.put,lsA,lsZ,lsS]
         refine wpAnyG.tA 20 (v:=.bool true) (by decide) 21 (by as_aux_lemma=>kernel_rfl) (by rfl) ?y20 (HBX _ hc0) ?_
         case y20 =>
          rintro w' ⟨q0,q1,q2⟩
          simp only [lgA,lgZ,lgS]
          go_simp
         simp only [lgA,lgZ,lgS,Act.put,lsA,lsZ,lsS]
         refine wpAnyG.tA 21 (v:=.bool true) (by decide) 22 (by as_aux_lemma=>kernel_rfl) (by rfl) ?y21 (HBX _ hc0) ?_
         case y21 =>
          rintro w' ⟨q0,q1,q2⟩
          simp only [lgA,lgZ,lgS]
          go_simp
         simp only [lgA,lgZ,lgS,Act.put,lsA,lsZ,lsS]
         refine wpAnyG.one 22 (by as_aux_lemma=>kernel_rfl) (by decide) (by rfl) (fun K hK=>?_)
         simp only [lgA,lgZ,lgS]
         go_simp
         refine hK _ _ (HBX _ hc0) ?_
         clear hK K
         refine wpAnyG.done (by as_aux_lemma=>kernel_rfl) (NoPanic.normal ?_)
         have HE2:Hid (((q:Nat):Int) = (lvf X j (q + 1)).1):=by show _ = _;rw [HST.out,if_pos (.inr (.inr ⟨by rw [← HOD.out];exact HO2.out,by rw [HFK.out,← HFB.out];exact hbb⟩))]
         have LE2:(lvf X j (q + 1)).2 = rt:=by rw [HST.out,if_pos (.inr (.inr ⟨by rw [← HOD.out];exact HO2.out,by rw [HFK.out,← HFB.out];exact hbb⟩))]
         have HB2:∀ w',Below z0.heap.size z0 w'→(w'.cell? ⟨w4.heap.size,0,none⟩ = some (.bool qp)∧w'.cell? ⟨w4.heap.size,1,none⟩ = some (.slice qa qn qc)∧w'.cell? ⟨w4.heap.size,2,none⟩ = some (.slice qd qm qe)):=fun w' h=>⟨kept_c h (kept_c hc0 (QB 0 _ rfl)),kept_c h (kept_c hc0 (QB 1 _ rfl)),kept_c h (kept_c hc0 (QB 2 _ rfl))⟩
         have LZ:=LR5.below hc0
         have hbz:=bel_tr hbx hc0
         have GZ:=GQ.below hc0
         have hz0s:=hc0.size
         clear HBX hc0
         go_wp2_with fail
         refine wp_region_noPanic (wp_region_guardT 3 HB2 (by as_aux_lemma=>kernel_rfl) ?_)
         have hd0:Below z0.heap.size z0 z0.drew:=bel_d1 _
         generalize z0.drew = y0 at *
         refine wpAnyG.tT 0 (v:=.int .i64 (q:Nat)) (by decide) 3 (by as_aux_lemma=>kernel_rfl) (by rfl) ?y0 (HB2 _ hd0) ?_
         case y0 =>
          rintro w' ⟨q0,q1,q2⟩
          simp only [lgA,lgZ]
          go_simp
         simp only [lgA,lgZ,Act.put,lsA,lsZ,lsS]
         refine wpAnyG.tT 1 (v:=.agg #[.bool qp,.slice qa qn qc,.slice qd qm qe]) (by decide) 3 (by as_aux_lemma=>kernel_rfl) (by rfl) ?y1 (HB2 _ hd0) ?_
         case y1 =>
          rintro w' ⟨q0,q1,q2⟩
          simp only [lgA,lgZ,lgS]
          go_simp
         simp only [lgA,lgZ,lgS,Act.put,lsA,lsZ,lsS]
         refine wpAnyG.tT 2 (v:=.int .i64 (q:Nat)) (by decide) 3 (by as_aux_lemma=>kernel_rfl) (by rfl) ?y2 (HB2 _ hd0) ?_
         case y2 =>
          rintro w' ⟨q0,q1,q2⟩
          simp only [lgA,lgZ,lgS]
          go_simp
         simp only [lgA,lgZ,lgS,Act.put,lsA,lsZ,lsS]
         refine wpAnyG.one 3 (by as_aux_lemma=>kernel_rfl) (by decide) (by rfl) (fun K hK=>?_)
         simp only [lgA,lgZ,lgS]
         have k0:=((LZ.below hd0).cell 0).trans (show _ = some (.bool lp) from rfl)
         have k1:=((LZ.below hd0).cell 1).trans (show _ = some (.slice la ln lcc) from rfl)
         have k2:=((LZ.below hd0).cell 2).trans (show _ = some (.slice ld lm le) from rfl)
         have f0:=(LZ.below hd0).frozen 0
         have f1:=(LZ.below hd0).frozen 1
         have f2:=(LZ.below hd0).frozen 2
         go_simp
         refine hK _ _ ⟨fun h=>absurd h (by decide),fun _=>trivial⟩ ?_
         clear hK K
         refine wpAnyG.done (by as_aux_lemma=>kernel_rfl) (NoPanic.normal ?_)
         have LZ':=LZ.below hd0
         obtain ⟨LN,O⟩:=LZ'.set3 (.bool qp) (.slice qa qn qc) (.slice qd qm qe)
         have hnw:NoW y0 (some w.heap.size):=LZ'.noW (by decide)
         have ZN:NZ (((y0.setCell ⟨w.heap.size,0,none⟩ (.bool qp)).setCell ⟨w.heap.size,1,none⟩ (.slice qa qn qc)).setCell ⟨w.heap.size,2,none⟩ (.slice qd qm qe)) qp qa qn qc qd qm qe (lvf X j (q + 1)).2 (S + S):=by rw [LE2];exact .inr ((GZ.below hd0).keep hnw O.grown)
         have hbn:=(bel_tr hbz hd0).trans (O.below (Nat.le_refl _))
         have hs9:w.heap.size < (((y0.setCell ⟨w.heap.size,0,none⟩ (.bool qp)).setCell ⟨w.heap.size,1,none⟩ (.slice qa qn qc)).setCell ⟨w.heap.size,2,none⟩ (.slice qd qm qe)).heap.size:=by have:=O.size;have:=hd0.size;omega
         clear LZ LZ' O hnw HB2 hd0 GZ hbz QB BX GQ LR5 LZ5 B5 xb5 hbx k0 k1 k2 f0 f1 f2
         go_wp2
         go_roundw
         case rel=>first | exact ⟨q + 1,((q:Nat):Int),_,_,_,_,_,_,_,by omega,by go_num,rfl,LN,ZN,HE2,hbn,hs9⟩ | ((repeat apply Exists.intro);refine ⟨?_,rfl⟩;exact ⟨q + 1,((q:Nat):Int),_,_,_,_,_,_,_,by omega,by go_num,rfl,LN,ZN,HE2,hbn,hs9⟩)
         case measure=>simp [intOf];omega
        ·have hbb':fb≤bas:=by omega
         have HBX:∀ w',Below W5.heap.size W5 w'→(w'.cell? ⟨wr.heap.size,4,none⟩ = some (.int .i64 bas)∧w'.cell? ⟨f.b,1,none⟩ = some (.slice (some ⟨rg,0,none⟩) m rc)∧w'.cell? ⟨rg,fk * 6 + 4,none⟩ = some (.int .i64 fb)):=fun w' h=>⟨kept_c h (BX 4 _ rfl),kept_c h xb5,kept_c h yf⟩
         go_wp2_with fail
         refine wp_region_noPanic (wp_region_guardB HBX (by as_aux_lemma=>kernel_rfl) ?_)
         have hc0:Below W5.heap.size W5 W5.drew:=bel_d1 _
         generalize W5.drew = z0 at *
         refine wpAnyG.tA 0 (v:=.int .i64 (fk:Nat)) (by decide) 1 (by as_aux_lemma=>kernel_rfl) (by rfl) ?y0 (HBX _ hc0) ?_
         case y0 =>
          rintro w' ⟨q0,q1,q2⟩
          simp only [lgA,lgZ]
          go_simp
         simp only [lgA,lgZ,Act.put,lsA,lsZ,lsS]
         refine wpAnyG.tA 1 (v:=.bool false) (by decide) 2 (by as_aux_lemma=>kernel_rfl) (by rfl) ?y1 (HBX _ hc0) ?_
         case y1 =>
          rintro w' ⟨q0,q1,q2⟩
          simp only [lgA,lgZ,lgS]
          go_simp
         simp only [lgA,lgZ,lgS,Act.put,lsA,lsZ,lsS]
         refine wpAnyG.tA 2 (v:=.bool false) (by decide) 6 (by as_aux_lemma=>kernel_rfl) (by rfl) ?y2 (HBX _ hc0) ?_
         case y2 =>
          rintro w' ⟨q0,q1,q2⟩
          simp only [lgA,lgZ,lgS]
          go_simp
         simp only [lgA,lgZ,lgS,Act.put,lsA,lsZ,lsS]
         refine wpAnyG.tA 3 (v:=.int .i64 od) (by decide) 4 (by as_aux_lemma=>kernel_rfl) (by rfl) ?y3 (HBX _ hc0) ?_
         case y3 =>
          rintro w' ⟨q0,q1,q2⟩
          simp only [lgA,lgZ,lgS]
          go_simp
         simp only [lgA,lgZ,lgS,Act.put,lsA,lsZ,lsS]
         refine wpAnyG.tA 4 (v:=.bool false) (by decide) 5 (by as_aux_lemma=>kernel_rfl) (by rfl) ?y4 (HBX _ hc0) ?_
         case y4 =>
          rintro w' ⟨q0,q1,q2⟩
          simp only [lgA,lgZ,lgS]
          go_simp
         simp only [lgA,lgZ,lgS,Act.put,lsA,lsZ,lsS]
         refine wpAnyG.tA 5 (v:=.bool false) (by decide) 6 (by as_aux_lemma=>kernel_rfl) (by rfl) ?y5 (HBX _ hc0) ?_
         case y5 =>
          rintro w' ⟨q0,q1,q2⟩
          simp only [lgA,lgZ,lgS]
          go_simp
         simp only [lgA,lgZ,lgS,Act.put,lsA,lsZ,lsS]
         refine wpAnyG.tA 6 (v:=.bool false) (by decide) 22 (by as_aux_lemma=>kernel_rfl) (by rfl) ?y6 (HBX _ hc0) ?_
         case y6 =>
          rintro w' ⟨q0,q1,q2⟩
          simp only [lgA,lgZ,lgS]
          go_simp
         simp only [lgA,lgZ,lgS,Act.put,lsA,lsZ,lsS]
         refine wpAnyG.tA 7 (v:=.int .i64 od) (by decide) 8 (by as_aux_lemma=>kernel_rfl) (by rfl) ?y7 (HBX _ hc0) ?_
         case y7 =>
          rintro w' ⟨q0,q1,q2⟩
          simp only [lgA,lgZ,lgS]
          go_simp
         simp only [lgA,lgZ,lgS,Act.put,lsA,lsZ,lsS]
         refine wpAnyG.tA 8 (v:=.bool true) (by decide) 9 (by as_aux_lemma=>kernel_rfl) (by rfl) ?y8 (HBX _ hc0) ?_
         case y8 =>
          rintro w' ⟨q0,q1,q2⟩
          simp only [lgA,lgZ,lgS]
          go_simp
         simp only [lgA,lgZ,lgS,Act.put,lsA,lsZ,lsS]
         refine wpAnyG.tA 9 (v:=.bool true) (by decide) 21 (by as_aux_lemma=>kernel_rfl) (by rfl) ?y9 (HBX _ hc0) ?_
         case y9 =>
          rintro w' ⟨q0,q1,q2⟩
          simp only [lgA,lgZ,lgS]
          go_simp
         simp only [lgA,lgZ,lgS,Act.put,lsA,lsZ,lsS]
         refine wpAnyG.tA 10 (v:=.pointer (some ⟨wr.heap.size,4,none⟩)) (by decide) 11 (by as_aux_lemma=>kernel_rfl) (by rfl) ?y10 (HBX _ hc0) ?_
         case y10 =>
          rintro w' ⟨q0,q1,q2⟩
          simp only [lgA,lgZ,lgS]
          go_simp
         simp only [lgA,lgZ,lgS,Act.put,lsA,lsZ,lsS]
         refine wpAnyG.tA 11 (v:=.int .i64 bas) (by decide) 20 (by as_aux_lemma=>kernel_rfl) (by rfl) ?y11 (HBX _ hc0) ?_
         case y11 =>
          rintro w' ⟨q0,q1,q2⟩
          simp only [lgA,lgZ,lgS]
          go_simp
         simp only [lgA,lgZ,lgS,Act.put,lsA,lsZ,lsS]
         refine wpAnyG.tA 12 (v:=.pointer (some ⟨f.b,0,none⟩)) (by decide) 13 (by as_aux_lemma=>kernel_rfl) (by rfl) ?y12 (HBX _ hc0) ?_
         case y12 =>
          rintro w' ⟨q0,q1,q2⟩
          simp only [lgA,lgZ,lgS]
          go_simp
         simp only [lgA,lgZ,lgS,Act.put,lsA,lsZ,lsS]
         refine wpAnyG.tA 13 (v:=.pointer (some ⟨f.b,0,none⟩)) (by decide) 14 (by as_aux_lemma=>kernel_rfl) (by rfl) ?y13 (HBX _ hc0) ?_
         case y13 =>
          rintro w' ⟨q0,q1,q2⟩
          simp only [lgA,lgZ,lgS]
          go_simp
         simp only [lgA,lgZ,lgS,Act.put,lsA,lsZ,lsS]
         refine wpAnyG.tA 14 (v:=.pointer (some ⟨f.b,1,none⟩)) (by decide) 15 (by as_aux_lemma=>kernel_rfl) (by rfl) ?y14 (HBX _ hc0) ?_
         case y14 =>
          rintro w' ⟨q0,q1,q2⟩
          simp only [lgA,lgZ,lgS]
          go_simp
         simp only [lgA,lgZ,lgS,Act.put,lsA,lsZ,lsS]
         refine wpAnyG.tA 15 (v:=.slice (some ⟨rg,0,none⟩) m rc) (by decide) 17 (by as_aux_lemma=>kernel_rfl) (by rfl) ?y15 (HBX _ hc0) ?_
         case y15 =>
          rintro w' ⟨q0,q1,q2⟩
          simp only [lgA,lgZ,lgS]
          go_simp
         simp only [lgA,lgZ,lgS,Act.put,lsA,lsZ,lsS]
         refine wpAnyG.tA 16 (v:=.int .i64 (fk:Nat)) (by decide) 17 (by as_aux_lemma=>kernel_rfl) (by rfl) ?y16 (HBX _ hc0) ?_
         case y16 =>
          rintro w' ⟨q0,q1,q2⟩
          simp only [lgA,lgZ,lgS]
          go_simp
         simp only [lgA,lgZ,lgS,Act.put,lsA,lsZ,lsS]
         refine wpAnyG.tA 17 (v:=.pointer (some ⟨rg,fk * 6,none⟩)) (by decide) 18 (by as_aux_lemma=>kernel_rfl) (by rfl) ?y17 (HBX _ hc0) ?_
         case y17 =>
          rintro w' ⟨q0,q1,q2⟩
          simp only [lgA,lgZ,lgS]
          go_simp
         simp only [lgA,lgZ,lgS,Act.put,lsA,lsZ,lsS]
         refine wpAnyG.tA 18 (v:=.pointer (some ⟨rg,fk * 6 + 4,none⟩)) (by decide) 19 (by as_aux_lemma=>kernel_rfl) (by rfl) ?y18 (HBX _ hc0) ?_
         case y18 =>
          rintro w' ⟨q0,q1,q2⟩
          simp only [lgA,lgZ,lgS]
          go_simp
         simp only [lgA,lgZ,lgS,Act.put,lsA,lsZ,lsS]
         refine wpAnyG.tA 19 (v:=.int .i64 fb) (by decide) 20 (by as_aux_lemma=>kernel_rfl) (by rfl) ?y19 (HBX _ hc0) ?_
         case y19 =>
          rintro w' ⟨q0,q1,q2⟩
          simp only [lgA,lgZ,lgS]
          go_simp
         simp only [lgA,lgZ,lgS,Act.put,lsA,lsZ,lsS]
         refine wpAnyG.tA 20 (v:=.bool false) (by decide) 21 (by as_aux_lemma=>kernel_rfl) (by rfl) ?y20 (HBX _ hc0) ?_
         case y20 =>
          rintro w' ⟨q0,q1,q2⟩
          simp only [lgA,lgZ,lgS]
          go_simp
         simp only [lgA,lgZ,lgS,Act.put,lsA,lsZ,lsS]
         refine wpAnyG.tA 21 (v:=.bool false) (by decide) 22 (by as_aux_lemma=>kernel_rfl) (by rfl) ?y21 (HBX _ hc0) ?_
         case y21 =>
          rintro w' ⟨q0,q1,q2⟩
          simp only [lgA,lgZ,lgS]
          go_simp
         simp only [lgA,lgZ,lgS,Act.put,lsA,lsZ,lsS]
         refine wpAnyG.one 22 (by as_aux_lemma=>kernel_rfl) (by decide) (by rfl) (fun K hK=>?_)
         simp only [lgA,lgZ,lgS]
         go_simp
         refine hK _ _ (HBX _ hc0) ?_
         clear hK K
         refine wpAnyG.done (by as_aux_lemma=>kernel_rfl) (NoPanic.normal ?_)
         have HE2:Hid (((fk:Nat):Int) = (lvf X j (q + 1)).1):=by show _ = _;rw [HST.out,if_neg (fun h=>h.elim HF1.out fun h=>h.elim (fun h=>by rw [← HOD.out] at h;omega) fun h=>by have:=h.2;rw [HFK.out,← HFB.out] at this;omega)];exact HF.out
         have ZN:NZ z0 lp la ln lcc ld lm le (lvf X j (q + 1)).2 (S + S):=by rw [HST.out,if_neg (fun h=>h.elim HF1.out fun h=>h.elim (fun h=>by rw [← HOD.out] at h;omega) fun h=>by have:=h.2;rw [HFK.out,← HFB.out] at this;omega)];exact LZ5.below hc0
         have LN:=LR5.below hc0
         have hbn:=bel_tr hbx hc0
         have hs9:w.heap.size < z0.heap.size:=by have:=hc0.size;omega
         clear HBX hc0 QB BX GQ LR5 LZ5 B5 xb5 hbx
         go_wp2
         go_roundw
         case rel=>first | exact ⟨q + 1,((fk:Nat):Int),_,_,_,_,_,_,_,by omega,by go_num,rfl,LN,ZN,HE2,hbn,hs9⟩ | ((repeat apply Exists.intro);refine ⟨?_,rfl⟩;exact ⟨q + 1,((fk:Nat):Int),_,_,_,_,_,_,_,by omega,by go_num,rfl,LN,ZN,HE2,hbn,hs9⟩)
         case measure=>simp [intOf];omega
       ·have ho':0≤od:=by omega
        have hoE:(od == 0) = false:=by simpa using ho2
        have HO3:Hid (¬ od = 0):=ho2
        have HBX:∀ w',Below W5.heap.size W5 w'→(w'.cell? ⟨wr.heap.size,4,none⟩ = some (.int .i64 bas)∧w'.cell? ⟨f.b,1,none⟩ = some (.slice (some ⟨rg,0,none⟩) m rc)∧w'.cell? ⟨rg,fk * 6 + 4,none⟩ = some (.int .i64 fb)):=fun w' h=>⟨kept_c h (BX 4 _ rfl),kept_c h xb5,kept_c h yf⟩
        go_wp2_with fail
        refine wp_region_noPanic (wp_region_guardB HBX (by as_aux_lemma=>kernel_rfl) ?_)
        have hc0:Below W5.heap.size W5 W5.drew:=bel_d1 _
        generalize W5.drew = z0 at *
        refine wpAnyG.tA 0 (v:=.int .i64 (fk:Nat)) (by decide) 1 (by as_aux_lemma=>kernel_rfl) (by rfl) ?y0 (HBX _ hc0) ?_
        case y0 =>
         rintro w' ⟨q0,q1,q2⟩
         simp only [lgA,lgZ]
         go_simp
        simp only [lgA,lgZ,Act.put,lsA,lsZ,lsS]
        refine wpAnyG.tA 1 (v:=.bool false) (by decide) 2 (by as_aux_lemma=>kernel_rfl) (by rfl) ?y1 (HBX _ hc0) ?_
        case y1 =>
         rintro w' ⟨q0,q1,q2⟩
         simp only [lgA,lgZ,lgS]
         go_simp
        simp only [lgA,lgZ,lgS,Act.put,lsA,lsZ,lsS]
        refine wpAnyG.tA 2 (v:=.bool false) (by decide) 6 (by as_aux_lemma=>kernel_rfl) (by rfl) ?y2 (HBX _ hc0) ?_
        case y2 =>
         rintro w' ⟨q0,q1,q2⟩
         simp only [lgA,lgZ,lgS]
         go_simp
        simp only [lgA,lgZ,lgS,Act.put,lsA,lsZ,lsS]
        refine wpAnyG.tA 3 (v:=.int .i64 od) (by decide) 4 (by as_aux_lemma=>kernel_rfl) (by rfl) ?y3 (HBX _ hc0) ?_
        case y3 =>
         rintro w' ⟨q0,q1,q2⟩
         simp only [lgA,lgZ,lgS]
         go_simp
        simp only [lgA,lgZ,lgS,Act.put,lsA,lsZ,lsS]
        refine wpAnyG.tA 4 (v:=.bool false) (by decide) 5 (by as_aux_lemma=>kernel_rfl) (by rfl) ?y4 (HBX _ hc0) ?_
        case y4 =>
         rintro w' ⟨q0,q1,q2⟩
         simp only [lgA,lgZ,lgS]
         go_simp
        simp only [lgA,lgZ,lgS,Act.put,lsA,lsZ,lsS]
        refine wpAnyG.tA 5 (v:=.bool false) (by decide) 6 (by as_aux_lemma=>kernel_rfl) (by rfl) ?y5 (HBX _ hc0) ?_
        case y5 =>
         rintro w' ⟨q0,q1,q2⟩
         simp only [lgA,lgZ,lgS]
         go_simp
        simp only [lgA,lgZ,lgS,Act.put,lsA,lsZ,lsS]
        refine wpAnyG.tA 6 (v:=.bool false) (by decide) 22 (by as_aux_lemma=>kernel_rfl) (by rfl) ?y6 (HBX _ hc0) ?_
        case y6 =>
         rintro w' ⟨q0,q1,q2⟩
         simp only [lgA,lgZ,lgS]
         go_simp
        simp only [lgA,lgZ,lgS,Act.put,lsA,lsZ,lsS]
        refine wpAnyG.tA 7 (v:=.int .i64 od) (by decide) 8 (by as_aux_lemma=>kernel_rfl) (by rfl) ?y7 (HBX _ hc0) ?_
        case y7 =>
         rintro w' ⟨q0,q1,q2⟩
         simp only [lgA,lgZ,lgS]
         go_simp
        simp only [lgA,lgZ,lgS,Act.put,lsA,lsZ,lsS]
        refine wpAnyG.tA 8 (v:=.bool false) (by decide) 9 (by as_aux_lemma=>kernel_rfl) (by rfl) ?y8 (HBX _ hc0) ?_
        case y8 =>
         rintro w' ⟨q0,q1,q2⟩
         simp only [lgA,lgZ,lgS]
         go_simp
        simp only [lgA,lgZ,lgS,Act.put,lsA,lsZ,lsS]
        refine wpAnyG.tA 9 (v:=.bool false) (by decide) 21 (by as_aux_lemma=>kernel_rfl) (by rfl) ?y9 (HBX _ hc0) ?_
        case y9 =>
         rintro w' ⟨q0,q1,q2⟩
         simp only [lgA,lgZ,lgS]
         go_simp
        simp only [lgA,lgZ,lgS,Act.put,lsA,lsZ,lsS]
        refine wpAnyG.skip 10 (by decide) (by as_aux_lemma=>kernel_rfl) (fun _ _ _ h=>h) 11 (by rfl) (fun _ _=>Iff.rfl) (by as_aux_lemma=>kernel_rfl) (by as_aux_lemma=>kernel_rfl) (by as_aux_lemma=>kernel_rfl) (by rfl) (HBX _ hc0) (by rfl) ?_
        simp only [lgA,lgZ,lgS,Act.put,lsA,lsZ,lsS]
        refine wpAnyG.skip 11 (by decide) (by as_aux_lemma=>kernel_rfl) (fun _ _ _ h=>h) 20 (by rfl) (fun _ _=>Iff.rfl) (by as_aux_lemma=>kernel_rfl) (by as_aux_lemma=>kernel_rfl) (by as_aux_lemma=>kernel_rfl) (by rfl) (HBX _ hc0) (by rfl) ?_
        simp only [lgA,lgZ,lgS,Act.put,lsA,lsZ,lsS]
        refine wpAnyG.skip 12 (by decide) (by as_aux_lemma=>kernel_rfl) (fun _ _ _ h=>h) 13 (by rfl) (fun _ _=>Iff.rfl) (by as_aux_lemma=>kernel_rfl) (by as_aux_lemma=>kernel_rfl) (by as_aux_lemma=>kernel_rfl) (by rfl) (HBX _ hc0) (by rfl) ?_
        simp only [lgA,lgZ,lgS,Act.put,lsA,lsZ,lsS]
        refine wpAnyG.skip 13 (by decide) (by as_aux_lemma=>kernel_rfl) (fun _ _ _ h=>h) 14 (by rfl) (fun _ _=>Iff.rfl) (by as_aux_lemma=>kernel_rfl) (by as_aux_lemma=>kernel_rfl) (by as_aux_lemma=>kernel_rfl) (by rfl) (HBX _ hc0) (by rfl) ?_
        simp only [lgA,lgZ,lgS,Act.put,lsA,lsZ,lsS]
        refine wpAnyG.skip 14 (by decide) (by as_aux_lemma=>kernel_rfl) (fun _ _ _ h=>h) 15 (by rfl) (fun _ _=>Iff.rfl) (by as_aux_lemma=>kernel_rfl) (by as_aux_lemma=>kernel_rfl) (by as_aux_lemma=>kernel_rfl) (by rfl) (HBX _ hc0) (by rfl) ?_
        simp only [lgA,lgZ,lgS,Act.put,lsA,lsZ,lsS]
        refine wpAnyG.skip 15 (by decide) (by as_aux_lemma=>kernel_rfl) (fun _ _ _ h=>h) 17 (by rfl) (fun _ _=>Iff.rfl) (by as_aux_lemma=>kernel_rfl) (by as_aux_lemma=>kernel_rfl) (by as_aux_lemma=>kernel_rfl) (by rfl) (HBX _ hc0) (by rfl) ?_
        simp only [lgA,lgZ,lgS,Act.put,lsA,lsZ,lsS]
        refine wpAnyG.skip 16 (by decide) (by as_aux_lemma=>kernel_rfl) (fun _ _ _ h=>h) 17 (by rfl) (fun _ _=>Iff.rfl) (by as_aux_lemma=>kernel_rfl) (by as_aux_lemma=>kernel_rfl) (by as_aux_lemma=>kernel_rfl) (by rfl) (HBX _ hc0) (by rfl) ?_
        simp only [lgA,lgZ,lgS,Act.put,lsA,lsZ,lsS]
        refine wpAnyG.skip 17 (by decide) (by as_aux_lemma=>kernel_rfl) (fun _ _ _ h=>h) 18 (by rfl) (fun _ _=>Iff.rfl) (by as_aux_lemma=>kernel_rfl) (by as_aux_lemma=>kernel_rfl) (by as_aux_lemma=>kernel_rfl) (by rfl) (HBX _ hc0) (by rfl) ?_
        simp only [lgA,lgZ,lgS,Act.put,lsA,lsZ,lsS]
        refine wpAnyG.skip 18 (by decide) (by as_aux_lemma=>kernel_rfl) (fun _ _ _ h=>h) 19 (by rfl) (fun _ _=>Iff.rfl) (by as_aux_lemma=>kernel_rfl) (by as_aux_lemma=>kernel_rfl) (by as_aux_lemma=>kernel_rfl) (by rfl) (HBX _ hc0) (by rfl) ?_
        simp only [lgA,lgZ,lgS,Act.put,lsA,lsZ,lsS]
        refine wpAnyG.skip 19 (by decide) (by as_aux_lemma=>kernel_rfl) (fun _ _ _ h=>h) 20 (by rfl) (fun _ _=>Iff.rfl) (by as_aux_lemma=>kernel_rfl) (by as_aux_lemma=>kernel_rfl) (by as_aux_lemma=>kernel_rfl) (by rfl) (HBX _ hc0) (by rfl) ?_
        simp only [lgA,lgZ,lgS,Act.put,lsA,lsZ,lsS]
        refine wpAnyG.skip 20 (by decide) (by as_aux_lemma=>kernel_rfl) (fun _ _ _ h=>h) 21 (by rfl) (fun _ _=>Iff.rfl) (by as_aux_lemma=>kernel_rfl) (by as_aux_lemma=>kernel_rfl) (by as_aux_lemma=>kernel_rfl) (by rfl) (HBX _ hc0) (by rfl) ?_
        simp only [lgA,lgZ,lgS,Act.put,lsA,lsZ,lsS]
        refine wpAnyG.tA 21 (v:=.bool false) (by decide) 22 (by as_aux_lemma=>kernel_rfl) (by rfl) ?y21 (HBX _ hc0) ?_
        case y21 =>
         rintro w' ⟨q0,q1,q2⟩
         simp only [lgA,lgZ,lgS]
         go_simp
        simp only [lgA,lgZ,lgS,Act.put,lsA,lsZ,lsS]
        refine wpAnyG.one 22 (by as_aux_lemma=>kernel_rfl) (by decide) (by rfl) (fun K hK=>?_)
        simp only [lgA,lgZ,lgS]
        go_simp
        refine hK _ _ (HBX _ hc0) ?_
        clear hK K
        refine wpAnyG.done (by as_aux_lemma=>kernel_rfl) (NoPanic.normal ?_)
        have HE2:Hid (((fk:Nat):Int) = (lvf X j (q + 1)).1):=by show _ = _;rw [HST.out,if_neg (fun h=>h.elim HF1.out fun h=>h.elim (fun h=>by rw [← HOD.out] at h;omega) fun h=>HO3.out (by rw [HOD.out];exact h.1))];exact HF.out
        have ZN:NZ z0 lp la ln lcc ld lm le (lvf X j (q + 1)).2 (S + S):=by rw [HST.out,if_neg (fun h=>h.elim HF1.out fun h=>h.elim (fun h=>by rw [← HOD.out] at h;omega) fun h=>HO3.out (by rw [HOD.out];exact h.1))];exact LZ5.below hc0
        have LN:=LR5.below hc0
        have hbn:=bel_tr hbx hc0
        have hs9:w.heap.size < z0.heap.size:=by have:=hc0.size;omega
        clear HBX hc0 QB BX GQ LR5 LZ5 B5 xb5 hbx
        go_wp2
        go_roundw
        case rel=>first | exact ⟨q + 1,((fk:Nat):Int),_,_,_,_,_,_,_,by omega,by go_num,rfl,LN,ZN,HE2,hbn,hs9⟩ | ((repeat apply Exists.intro);refine ⟨?_,rfl⟩;exact ⟨q + 1,((fk:Nat):Int),_,_,_,_,_,_,_,by omega,by go_num,rfl,LN,ZN,HE2,hbn,hs9⟩)
        case measure=>simp [intOf];omega
  ·have hqI:¬ (q:Int) < (m:Int):=by omega
   obtain rfl:q = m:=by omega
   have HP:LvP w X q j (.returned (.int .i64 fnd)) wr:=⟨by rw [← HF.out],hbw⟩
   clear LR LZ0 hbw
   go_wp2
   go_ret
   exact HP
end Go.Proofs.YtjiodidemimgmaaGreatDoor

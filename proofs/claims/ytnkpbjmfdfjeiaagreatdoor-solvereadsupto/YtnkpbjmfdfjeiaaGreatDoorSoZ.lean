import Derived.Test.YtnkpbjmfdfjeiaaGreatDoorSoY3All
namespace Go.Proofs.YtnkpbjmfdfjeiaaGreatDoor
open Go.RowKit
theorem lnsK_le (v vn rn t:Nat):lnsK v vn rn t≤1000:=by
 unfold lnsK
 by_cases a:t = 0
 ·rw [if_pos a];omega
 rw [if_neg a]
 by_cases b:t < hdV v
 ·rw [if_pos b];omega
 rw [if_neg b]
 by_cases c:t < hdV v + nvV v vn
 ·rw [if_pos c];split <;> omega
 rw [if_neg c]
 split <;> omega
theorem mall_blk {v vn rn C gx gy gz g o n:Nat} (h:Mall n (lnsK v vn rn) (dst v vn C gx gy gz) g o):g = C∨g = gx∨g = gy∨g = gz:=by
 obtain ⟨t,_,k,_,e1,_,_⟩:=h
 unfold dst at e1
 by_cases a1:t < hdV v
 ·rw [if_pos a1] at e1;exact .inl e1
 rw [if_neg a1] at e1
 by_cases a2:t < hdV v + nvV v vn
 ·rw [if_pos a2] at e1
  by_cases a3:k = 0
  ·rw [if_pos a3] at e1;exact .inr (.inl e1)
  ·rw [if_neg a3] at e1;exact .inr (.inr (.inr e1))
 ·rw [if_neg a2] at e1;exact .inr (.inr (.inl e1))
theorem Rw.fm {t:TypeId} {w w':World} {R F:Nat} {M:Nat→Nat→Prop} {cs:Array Value} (h:Rw t w R cs) (f:Fm F M w w') (hn:∀ o,¬ M R o):Rw t w' R cs:=by
 obtain ⟨c',h1,h2⟩:=f.typ R cs t h
 have:c' = cs:=by
  refine Array.ext_getElem? fun i=>?_
  have e:=f.same R h.lt i (hn i)
  rw [cell_of_row w' R i c' _ (0,0) h1,cell_of_row w R i cs _ (0,0) h] at e
  exact e
 rw [this] at h1
 exact h1
set_option maxRecDepth 100000 in
set_option maxHeartbeats 16000000 in
theorem readQ (P:Prob) (s:ByteArray) {gL cL:Nat} {ev:Value} (w:World) (hP:PQ w P) (hK0:P.K≤1048576) (hs:s.size≤1048576) (hcv:∀ u,Below w.heap.size w u→(convert 38 9 (.slice (some ⟨gL,0,none⟩) s.size cL)).run Tryz.prog u = .ok (.string s) u) (hT:TB w) (hE:E3 w) (hEv:Errs w 0 ev) (HN:∀ t:ByteArray,t.size≤1048576→NumA t) :
  Calls Tryz.prog 7 #[P.val,.slice (some ⟨gL,0,none⟩) s.size cL] w fun en w'=>ReadP P s ev w en w':=by
 have hvn:P.vn≤1048576:=by have:=hP.all;have:=tot_len P.ZV P.vn;omega
 have hrn:P.rn≤1048576:=by have:=hP.all;have:=tot_len P.ZR P.rn;omega
 have HPW:Hid (PQ w P):=hP
 have HNN:Hid (∀ t:ByteArray,t.size≤1048576→NumA t):=HN
 have HEV:Hid (Errs w 0 ev):=hEv
 have b0:=bel_d0 w (.cells #[.bool P.mx,.string P.nm,.bool P.p,.slice P.a P.na P.ca,.slice P.d P.nd P.cd,.slice P.va P.vn P.vc,.slice P.ra P.rn P.rc] 31)
 have b1:=bel_d0 (w.alloc (.cells #[.bool P.mx,.string P.nm,.bool P.p,.slice P.a P.na P.ca,.slice P.d P.nd P.cd,.slice P.va P.vn P.vc,.slice P.ra P.rn P.rc] 31)) (.cells #[.int .i64 0,.bool false,.slice none 0 0,.slice none 0 0,.slice none 0 0,.slice none 0 0,.slice none 0 0] 35)
 have RP:=(Rw.new 31 w #[.bool P.mx,.string P.nm,.bool P.p,.slice P.a P.na P.ca,.slice P.d P.nd P.cd,.slice P.va P.vn P.vc,.slice P.ra P.rn P.rc]).below b1
 have R4:=Rw.new 35 (w.alloc (.cells #[.bool P.mx,.string P.nm,.bool P.p,.slice P.a P.na P.ca,.slice P.d P.nd P.cd,.slice P.va P.vn P.vc,.slice P.ra P.rn P.rc] 31)) #[.int .i64 0,.bool false,.slice none 0 0,.slice none 0 0,.slice none 0 0,.slice none 0 0,.slice none 0 0]
 rw [show (w.alloc (.cells #[.bool P.mx,.string P.nm,.bool P.p,.slice P.a P.na P.ca,.slice P.d P.nd P.cd,.slice P.va P.vn P.vc,.slice P.ra P.rn P.rc] 31)).heap.size = w.heap.size + 1 by simp] at R4
 have hb2:=bel_tr b0 b1
 have hcv2:=hcv _ hb2
 have HS2:Hid (((w.alloc (.cells #[.bool P.mx,.string P.nm,.bool P.p,.slice P.a P.na P.ca,.slice P.d P.nd P.cd,.slice P.va P.vn P.vc,.slice P.ra P.rn P.rc] 31)).alloc (.cells #[.int .i64 0,.bool false,.slice none 0 0,.slice none 0 0,.slice none 0 0,.slice none 0 0,.slice none 0 0] 35)).heap.size = w.heap.size + 2):=by show _ = _;simp
 obtain ⟨F,hFw⟩:∃ F,w.heap.size = F:=⟨_,rfl⟩
 have HFW:Hid (w.heap.size = F):=hFw
 have HEF:Hid (0 < F):=by rw [← hFw];exact World.block_lt_of_cell? _ _ hEv.1
 have HGG:Hid (∀ g,g = 9∨g = 2∨g = 4∨g = 3→g < F):=by
  rw [← hFw]
  rintro g (rfl | rfl | rfl | rfl)
  ·exact hT.2
  ·obtain ⟨_,h⟩:=hE.e5;exact World.block_lt_of_cell? _ _ h.1
  ·obtain ⟨_,h⟩:=hE.e8;exact World.block_lt_of_cell? _ _ h.1
  ·obtain ⟨_,h⟩:=hE.e3;exact World.block_lt_of_cell? _ _ h.1
 rw [hFw] at RP R4 hb2 HS2
 clear hP HN hEv b0 b1 hcv
 go_enter Tryz.func7,Tryz.ntmps7
 go_wp2_with fail
 clear hFw hcv2
 generalize (w.alloc (.cells #[.bool P.mx,.string P.nm,.bool P.p,.slice P.a P.na P.ca,.slice P.d P.nd P.cd,.slice P.va P.vn P.vc,.slice P.ra P.rn P.rc] 31)).alloc (.cells #[.int .i64 0,.bool false,.slice none 0 0,.slice none 0 0,.slice none 0 0,.slice none 0 0,.slice none 0 0] 35) = W2 at *
 refine (verdictQ s W2 hs).mono ?_
 rintro e w1 ⟨v,rfl,hv3,hvd,hx⟩
 have HVD:Hid (∀ u m,1≤u→u≤3→s.data.toList = wdV u ++ 10 :: m→v = u):=hvd
 replace RP:=RP.below hx
 replace R4:=R4.below hx
 have hs1:=hx.size
 have hb1:Below F w w1:=hb2.trans (hx.mono (by have:=HS2.out;omega))
 have hs2:=HS2.out
 clear hx hb2 hvd
 rcases (by omega:v = 0∨v = 1∨v = 2∨v = 3) with rfl | rfl | rfl | rfl
 ·have HXA:Hid (NoAns P.vn (vnm P) P.rn (unm P) s.data.toList):=fun v' R h1 h2 h3=>by
   obtain ⟨m',e'⟩:=h3.head
   have:=HVD.out v' m' h1 h2 e'
   omega
  have hb1w:Below w.heap.size w w1:=by rw [HFW.out];exact hb1
  have EF1:=HEV.out.below hb1w
  go_wp2_with fail
  have hEl:=World.block_lt_of_cell? _ _ EF1.1
  have HEX:∀ w',Off (F + 1) w1 w'→w'.cell? ⟨0,0,none⟩ = some (ev):=fun w' k=>(k.cell (p:=⟨0,0,none⟩) (by show 0 ≠ F + 1;have:=HEF.out;omega)).trans EF1.1
  have HEG:∀ w',Off (F + 1) w1 w'→w'.cell? ⟨0,0,none⟩ = some (ev):=HEX
  refine wp_region_noPanic (wp_region_guard (Till 3 3 (fun w'=>w'.cell? ⟨0,0,none⟩ = some (ev)) (fun _=>True)) (by as_aux_lemma=>kernel_rfl) ?_)
  have hc0:Off (F + 1) w1 w1.drew:=(Off.refl _ _).drew
  have R4d:Rw 35 w1.drew (F + 1) #[.int .i64 0,.bool false,.slice none 0 0,.slice none 0 0,.slice none 0 0,.slice none 0 0,.slice none 0 0]:=R4
  have hbd:Below F w w1.drew:=hb1.drew
  generalize w1.drew = z0 at *
  have z0_:=(R4d.cell 0).trans (show _ = some (Value.int .i64 0) from rfl)
  have zf0:=R4d.frozen 0
  have z1_:=(R4d.cell 1).trans (show _ = some (Value.bool false) from rfl)
  have zf1:=R4d.frozen 1
  have z2_:=(R4d.cell 2).trans (show _ = some (Value.slice none 0 0) from rfl)
  have zf2:=R4d.frozen 2
  have z3_:=(R4d.cell 3).trans (show _ = some (Value.slice none 0 0) from rfl)
  have zf3:=R4d.frozen 3
  have z4_:=(R4d.cell 4).trans (show _ = some (Value.slice none 0 0) from rfl)
  have zf4:=R4d.frozen 4
  have z5_:=(R4d.cell 5).trans (show _ = some (Value.slice none 0 0) from rfl)
  have zf5:=R4d.frozen 5
  have z6_:=(R4d.cell 6).trans (show _ = some (Value.slice none 0 0) from rfl)
  have zf6:=R4d.frozen 6
  obtain ⟨R9,O9'⟩:=Rw.sevK (b0:=.int .i64 0) (b1:=.bool false) (b2:=.slice none 0 0) (b3:=.slice none 0 0) (b4:=.slice none 0 0) (b5:=.slice none 0 0) (b6:=.slice none 0 0) R4d
  have O9:=hc0.trans O9'
  clear R4
  refine wpAnyG.tT 0 (v:=.agg #[.int .i64 0,.bool false,.slice none 0 0,.slice none 0 0,.slice none 0 0,.slice none 0 0,.slice none 0 0]) (by decide) 3 (by as_aux_lemma=>kernel_rfl) (by rfl) ?y0 (HEX _ hc0) ?_
  case y0 =>
   rintro w' q0
   simp only [lgA,lgZ]
   go_simp
  simp only [lgA,lgZ,Act.put,lsA,lsZ,lsS]
  refine wpAnyG.tT 1 (v:=ev) (by decide) 3 (by as_aux_lemma=>kernel_rfl) (by rfl) ?y1 (HEX _ hc0) ?_
  case y1 =>
   rintro w' q0
   simp only [lgA,lgZ,lgS]
   go_simp
  simp only [lgA,lgZ,lgS,Act.put,lsA,lsZ,lsS]
  refine wpAnyG.one 2 (by as_aux_lemma=>kernel_rfl) (by decide) (by rfl) (fun K hK=>?_)
  simp only [lgA,lgZ,lgS]
  go_simp
  refine hK _ _ ⟨fun _=>HEG _ O9,fun _=>trivial⟩ ?_
  clear hK K
  refine wpAnyG.one 3 (by as_aux_lemma=>kernel_rfl) (by decide) (by rfl) (fun K hK=>?_)
  simp only [lgA,lgZ,lgS]
  go_simp
  refine hK _ _ ⟨fun h=>absurd h (by decide),fun _=>trivial⟩ ?_
  clear hK K
  refine wpAnyG.done (by as_aux_lemma=>kernel_rfl) (NoPanic.normal ?_)
  clear HEX HEG
  go_wp2
  exact bodyPost_ret (R9.ret2 Tryz.results7 _ rfl Tryz.underlying35 certI2) rfl ⟨by rw [HFW.out];exact hbd.trans (O9'.below (by omega)),.inr ⟨.inr HXA.out,rfl⟩⟩
 ·have hb1w:Below w.heap.size w w1:=by rw [HFW.out];exact hb1
  have q0:=(RP.cell 0).trans (show _ = some (Value.bool P.mx) from rfl)
  have q1:=(RP.cell 1).trans (show _ = some (Value.string P.nm) from rfl)
  have q2:=(RP.cell 2).trans (show _ = some (Value.bool P.p) from rfl)
  have q3:=(RP.cell 3).trans (show _ = some (Value.slice P.a P.na P.ca) from rfl)
  have q4:=(RP.cell 4).trans (show _ = some (Value.slice P.d P.nd P.cd) from rfl)
  have q5:=(RP.cell 5).trans (show _ = some (Value.slice P.va P.vn P.vc) from rfl)
  have q6:=(RP.cell 6).trans (show _ = some (Value.slice P.ra P.rn P.rc) from rfl)
  go_wp2_with fail
  clear q0 q1 q2 q3 q4 q5 q6
  refine (hasWhlQ P w1 (HPW.out.below hb1w) hK0).mono ?_
  rintro e w3 ⟨b,rfl,hbw,hx⟩
  have HBW:Hid (b = true↔Whl19 P):=hbw
  replace RP:=RP.below hx
  replace R4:=R4.below hx
  have hs3:=hx.size
  have hb3:Below F w w3:=hb1.trans (hx.mono (by omega))
  have hb3w:Below w.heap.size w w3:=by rw [HFW.out];exact hb3
  clear hx hb1 hb1w hbw
  cases b
  ·have HNW:Hid (¬ Whl19 P):=fun h=>by have:=HBW.out.2 h;cases this
   have q0:=(RP.cell 0).trans (show _ = some (Value.bool P.mx) from rfl)
   have q1:=(RP.cell 1).trans (show _ = some (Value.string P.nm) from rfl)
   have q2:=(RP.cell 2).trans (show _ = some (Value.bool P.p) from rfl)
   have q3:=(RP.cell 3).trans (show _ = some (Value.slice P.a P.na P.ca) from rfl)
   have q4:=(RP.cell 4).trans (show _ = some (Value.slice P.d P.nd P.cd) from rfl)
   have q5:=(RP.cell 5).trans (show _ = some (Value.slice P.va P.vn P.vc) from rfl)
   have q6:=(RP.cell 6).trans (show _ = some (Value.slice P.ra P.rn P.rc) from rfl)
   go_wp2_with fail
   clear q0 q1 q2 q3 q4 q5 q6
   refine (blank1 P w3 (HPW.out.below hb3w) hK0).mono ?_
   rintro e w4 ⟨gx,gy,_,hX,hY,hZ,hxy,hxz,hb4,rfl⟩
   have Mx:=hX.resolve_left (by decide)
   have My:=hY.resolve_left (by decide)
   have hne:=hxy rfl
   have R4a:=R4.below hb4
   have RPa:=RP.below hb4
   have hs4:=hb4.size
   have hb4w:Below F w w4:=hb3.trans (hb4.mono (by omega))
   have hlx:=Mx.lt
   have hgx:=Mx.1
   have hly:=My.lt
   have hgy:=My.1
   clear R4 RP hX hY hZ hb4 hxy hxz
   have hx5:=bel_d0 w4 (.cells #[.int .i64 1,.bool false,.slice none 0 0,.slice none 0 0,.slice (some ⟨gx,0,none⟩) P.vn P.vn,.slice (some ⟨gy,0,none⟩) P.rn P.rn,.slice none 0 0] 35)
   have R8:=Rw.new 35 w4 #[.int .i64 1,.bool false,.slice none 0 0,.slice none 0 0,.slice (some ⟨gx,0,none⟩) P.vn P.vn,.slice (some ⟨gy,0,none⟩) P.rn P.rn,.slice none 0 0]
   replace Mx:=(Mx.below hx5).lo (F':=F) (by omega)
   replace My:=(My.below hx5).lo (F':=F) (by omega)
   replace R4a:=R4a.below hx5
   replace RPa:=RPa.below hx5
   have hb5:Below F w (w4.alloc (.cells #[.int .i64 1,.bool false,.slice none 0 0,.slice none 0 0,.slice (some ⟨gx,0,none⟩) P.vn P.vn,.slice (some ⟨gy,0,none⟩) P.rn P.rn,.slice none 0 0] 35)):=hb4w.trans (hx5.mono (by omega))
   have HS5:Hid ((w4.alloc (.cells #[.int .i64 1,.bool false,.slice none 0 0,.slice none 0 0,.slice (some ⟨gx,0,none⟩) P.vn P.vn,.slice (some ⟨gy,0,none⟩) P.rn P.rn,.slice none 0 0] 35)).heap.size = w4.heap.size + 1):=by show _ = _;simp
   clear hx5 hb4w
   have q0:=(RPa.cell 0).trans (show _ = some (Value.bool P.mx) from rfl)
   have q1:=(RPa.cell 1).trans (show _ = some (Value.string P.nm) from rfl)
   have q2:=(RPa.cell 2).trans (show _ = some (Value.bool P.p) from rfl)
   have q3:=(RPa.cell 3).trans (show _ = some (Value.slice P.a P.na P.ca) from rfl)
   have q4:=(RPa.cell 4).trans (show _ = some (Value.slice P.d P.nd P.cd) from rfl)
   have q5:=(RPa.cell 5).trans (show _ = some (Value.slice P.va P.vn P.vc) from rfl)
   have q6:=(RPa.cell 6).trans (show _ = some (Value.slice P.ra P.rn P.rc) from rfl)
   simp only [if_false,show ¬ (1 = 2) by decide,show ¬ (1 = 3) by decide,show ((1:Nat):Int) = 1 from rfl]
   go_wp2_with fail
   clear q0 q1 q2 q3 q4 q5 q6
   obtain ⟨C,hC⟩:∃ C,w4.heap.size = C:=⟨_,rfl⟩
   rw [hC] at R8 HS5 hs4 hlx hly ⊢
   clear hC
   generalize w4.alloc (.cells #[.int .i64 1,.bool false,.slice none 0 0,.slice none 0 0,.slice (some ⟨gx,0,none⟩) P.vn P.vn,.slice (some ⟨gy,0,none⟩) P.rn P.rn,.slice none 0 0] 35) = w5 at *
   have hb5w:Below w.heap.size w w5:=by rw [HFW.out];exact hb5
   have hF5:F≤w5.heap.size:=by have:=HS5.out;omega
   refine (certL1 P (C:=C) (gx:=gx) (gy:=gy) (gz:=C + 1) w5 (HPW.out.below hb5w) hK0 R8).mono ?_
   rintro e w6 ⟨la,lc,rfl,hLS,hb6⟩
   have hs6:=hb6.size
   have HLS:Hid (LsQ w6 F (.slice la (lnsN 1 P.vn P.rn) lc) (lnsN 1 P.vn P.rn) (lnsW 1 P.vn (vnm P) P.rn (unm P)) (lnsK 1 P.vn P.rn) (dst 1 P.vn C gx gy (C + 1))):=hLS.mono hF5
   replace R4a:=R4a.below hb6
   replace R8:=R8.below hb6
   replace Mx:=Mx.below hb6
   replace My:=My.below hb6
   have hb6F:Below F w w6:=hb5.trans (hb6.mono hF5)
   clear hLS hb6 hb5 RPa
   obtain ⟨nn,hnn⟩:∃ nn,lnsN 1 P.vn P.rn = nn:=⟨_,rfl⟩
   have HNN2:Hid (lnsN 1 P.vn P.rn = nn):=hnn
   have hnb:nn≤10000000:=by rw [← hnn];unfold lnsN hdV nvV nrV;simp;omega
   rw [hnn] at HLS ⊢
   clear hnn
   go_wp2_with fail
   have hb6w:Below w.heap.size w w6:=by rw [HFW.out];exact hb6F
   have hF6:F≤w6.heap.size:=by omega
   have HWR:Hid (∀ t,t < nn→∀ k,k < lnsK 1 P.vn P.rn t→Wr w6 F ((dst 1 P.vn C gx gy (C + 1)) t k)):=by
    show ∀ t,t < nn→_
    rw [← HNN2.out]
    exact wr_all R8 rfl (by omega) (.inr Mx) (.inr My) (.inl (by decide)) (by decide)
   refine (fillQ (F:=F) (n:=nn) (s:=s) w6 HLS.out HWR.out (fun t k t' k' o h1 h2 h3=>dst_apart (by omega) (by omega) (by omega) (by omega) (by omega) (by omega) h1 h2 h3) (lnsK_le _ _ _) hnb hs hF6 (hT.below hb6w) (hE.below hb6w) HGG.out HNN.out).mono ?_
   rintro e w7 ⟨ok,rfl,f7,h7⟩
   have hb7F:Below F w w7:=hb6F.trans f7.kb.below
   have R4c:=R4a.fm f7 (fun o h=>by
    have:=mall_blk h
    omega)
   clear HLS HWR R4a
   cases ok
   ·have HX:Hid (∀ R,¬ Ans 1 P.vn (vnm P) P.rn (unm P) s.data.toList R):=fun R h=>by
     rcases h7 with ⟨x,_⟩ | ⟨_,h7⟩
     ·cases x
     ·exact h7 R (by rw [← HNN2.out];exact h)
    have HXA:Hid (NoAns P.vn (vnm P) P.rn (unm P) s.data.toList):=fun v' R h1 h2 h3=>by
     obtain ⟨m',e'⟩:=h3.head
     have e1:=HVD.out v' m' h1 h2 e'
     subst e1
     exact HX.out R h3
    have EF7:Errs w7 0 ev:=Errs.kb (HEV.out.below hb6w) f7.kb HEF.out
    clear h7 f7 R8 Mx My
    go_wp2_with fail
    have hEl:=World.block_lt_of_cell? _ _ EF7.1
    have HEX:∀ w',Off (F + 1) w7 w'→w'.cell? ⟨0,0,none⟩ = some (ev):=fun w' k=>(k.cell (p:=⟨0,0,none⟩) (by show 0 ≠ F + 1;have:=HEF.out;omega)).trans EF7.1
    have HEG:∀ w',Off (F + 1) w7 w'→w'.cell? ⟨0,0,none⟩ = some (ev):=HEX
    refine wp_region_noPanic (wp_region_guard (Till 3 3 (fun w'=>w'.cell? ⟨0,0,none⟩ = some (ev)) (fun _=>True)) (by as_aux_lemma=>kernel_rfl) ?_)
    have hc0:Off (F + 1) w7 w7.drew:=(Off.refl _ _).drew
    have R4d:Rw 35 w7.drew (F + 1) #[.int .i64 0,.bool false,.slice none 0 0,.slice none 0 0,.slice none 0 0,.slice none 0 0,.slice none 0 0]:=R4c
    have hbd:Below F w w7.drew:=hb7F.drew
    generalize w7.drew = z0 at *
    have z0_:=(R4d.cell 0).trans (show _ = some (Value.int .i64 0) from rfl)
    have zf0:=R4d.frozen 0
    have z1_:=(R4d.cell 1).trans (show _ = some (Value.bool false) from rfl)
    have zf1:=R4d.frozen 1
    have z2_:=(R4d.cell 2).trans (show _ = some (Value.slice none 0 0) from rfl)
    have zf2:=R4d.frozen 2
    have z3_:=(R4d.cell 3).trans (show _ = some (Value.slice none 0 0) from rfl)
    have zf3:=R4d.frozen 3
    have z4_:=(R4d.cell 4).trans (show _ = some (Value.slice none 0 0) from rfl)
    have zf4:=R4d.frozen 4
    have z5_:=(R4d.cell 5).trans (show _ = some (Value.slice none 0 0) from rfl)
    have zf5:=R4d.frozen 5
    have z6_:=(R4d.cell 6).trans (show _ = some (Value.slice none 0 0) from rfl)
    have zf6:=R4d.frozen 6
    obtain ⟨R9,O9'⟩:=Rw.sevK (b0:=.int .i64 0) (b1:=.bool false) (b2:=.slice none 0 0) (b3:=.slice none 0 0) (b4:=.slice none 0 0) (b5:=.slice none 0 0) (b6:=.slice none 0 0) R4d
    have O9:=hc0.trans O9'
    clear R4c
    refine wpAnyG.tT 0 (v:=.agg #[.int .i64 0,.bool false,.slice none 0 0,.slice none 0 0,.slice none 0 0,.slice none 0 0,.slice none 0 0]) (by decide) 3 (by as_aux_lemma=>kernel_rfl) (by rfl) ?y0 (HEX _ hc0) ?_
    case y0 =>
     rintro w' q0
     simp only [lgA,lgZ]
     go_simp
    simp only [lgA,lgZ,Act.put,lsA,lsZ,lsS]
    refine wpAnyG.tT 1 (v:=ev) (by decide) 3 (by as_aux_lemma=>kernel_rfl) (by rfl) ?y1 (HEX _ hc0) ?_
    case y1 =>
     rintro w' q0
     simp only [lgA,lgZ,lgS]
     go_simp
    simp only [lgA,lgZ,lgS,Act.put,lsA,lsZ,lsS]
    refine wpAnyG.one 2 (by as_aux_lemma=>kernel_rfl) (by decide) (by rfl) (fun K hK=>?_)
    simp only [lgA,lgZ,lgS]
    go_simp
    refine hK _ _ ⟨fun _=>HEG _ O9,fun _=>trivial⟩ ?_
    clear hK K
    refine wpAnyG.one 3 (by as_aux_lemma=>kernel_rfl) (by decide) (by rfl) (fun K hK=>?_)
    simp only [lgA,lgZ,lgS]
    go_simp
    refine hK _ _ ⟨fun h=>absurd h (by decide),fun _=>trivial⟩ ?_
    clear hK K
    refine wpAnyG.done (by as_aux_lemma=>kernel_rfl) (NoPanic.normal ?_)
    clear HEX HEG
    go_wp2
    exact bodyPost_ret (R9.ret2 Tryz.results7 _ rfl Tryz.underlying35 certI2) rfl ⟨by rw [HFW.out];exact hbd.trans (O9'.below (by omega)),.inr ⟨.inr HXA.out,rfl⟩⟩
   ·obtain ⟨R,hR,hN⟩:∃ R,Lns (lnsW 1 P.vn (vnm P) P.rn (unm P)) (lnsK 1 P.vn P.rn) s.data.toList R nn []∧∀ t,t < nn→∀ k,k < lnsK 1 P.vn P.rn t→Num3 w7 F ((dst 1 P.vn C gx gy (C + 1)) t k).1 ((dst 1 P.vn C gx gy (C + 1)) t k).2 ((R t).getD k 0):=by
     rcases h7 with ⟨_,h⟩ | ⟨x,_⟩
     ·exact h
     ·cases x
    rw [← HNN2.out] at hR hN
    have HA:Hid (Ans 1 P.vn (vnm P) P.rn (unm P) s.data.toList R):=hR
    have HNx:Hid (NL w7 F (.slice (some ⟨gx,0,none⟩) P.vn P.vn) P.vn (xR 1 R)):=by
     obtain ⟨m1,cur,m2,m3⟩:=Mx
     obtain ⟨c7,m4,m5⟩:=f7.typ _ _ _ m2
     refine nl_of m1 (by omega) m4 (m5.trans m3) fun j hj=>?_
     have h1:=hN (hdV 1 + j) (var_lt (v:=1) hj) 0 (by rw [(var_W (v:=1) (vn:=P.vn) (rn:=P.rn) (V:=vnm P) (U:=unm P) (j:=j) hj).2];decide)
     rw [dst_var (v:=1) hj] at h1
     exact h1
    have HNy:Hid (NL w7 F (.slice (some ⟨gy,0,none⟩) P.rn P.rn) P.rn (yR 1 P.vn R)):=by
     obtain ⟨m1,cur,m2,m3⟩:=My
     obtain ⟨c7,m4,m5⟩:=f7.typ _ _ _ m2
     refine nl_of m1 (by omega) m4 (m5.trans m3) fun j hj=>?_
     have h1:=hN (hdV 1 + nvV 1 P.vn + j) (row_lt (v:=1) hj) 0 (by rw [(row_W (v:=1) (vn:=P.vn) (rn:=P.rn) (V:=vnm P) (U:=unm P) (i:=j) hj).2];decide)
     rw [dst_row (v:=1)] at h1
     exact h1
    obtain ⟨vf,va,vn1,vk,vd,vm,vl,e1,e2,e3,GV⟩:=(by
     have h1:=hN 1 (by show 1 < 2 + _ + _ + 1;omega) 0 (by show 0 < 1;decide)
     exact h1.gr:∃ f c n k c' n' k',w7.cell? ⟨C,1,none⟩ = some (.bool f)∧w7.cell? ⟨C,1 + 1,none⟩ = some (.slice c n k)∧w7.cell? ⟨C,1 + 2,none⟩ = some (.slice c' n' k')∧GR w7 F f c n k c' n' k' ((R 1).getD 0 0) 5000000)
    have hsm:∀ o,o = 0∨4≤o→w7.cell? ⟨C,o,none⟩ = w6.cell? ⟨C,o,none⟩:=fun o ho=>f7.same C R8.lt o (fun h=>by
     have:=mall_at h (by omega) (by omega) (by omega)
     omega)
    have y0:=(hsm 0 (by decide)).trans ((R8.cell 0).trans (show _ = some (Value.int .i64 1) from rfl))
    have y1:=e1
    have y2:=e2
    have y3:=e3
    have y4:=(hsm 4 (by decide)).trans ((R8.cell 4).trans (show _ = some (Value.slice (some ⟨gx,0,none⟩) P.vn P.vn) from rfl))
    have y5:=(hsm 5 (by decide)).trans ((R8.cell 5).trans (show _ = some (Value.slice (some ⟨gy,0,none⟩) P.rn P.rn) from rfl))
    have y6:=(hsm 6 (by decide)).trans ((R8.cell 6).trans (show _ = some (Value.slice none 0 0) from rfl))
    have z0_:=(R4c.cell 0).trans (show _ = some (Value.int .i64 0) from rfl)
    have zf0:=R4c.frozen 0
    have z1_:=(R4c.cell 1).trans (show _ = some (Value.bool false) from rfl)
    have zf1:=R4c.frozen 1
    have z2_:=(R4c.cell 2).trans (show _ = some (Value.slice none 0 0) from rfl)
    have zf2:=R4c.frozen 2
    have z3_:=(R4c.cell 3).trans (show _ = some (Value.slice none 0 0) from rfl)
    have zf3:=R4c.frozen 3
    have z4_:=(R4c.cell 4).trans (show _ = some (Value.slice none 0 0) from rfl)
    have zf4:=R4c.frozen 4
    have z5_:=(R4c.cell 5).trans (show _ = some (Value.slice none 0 0) from rfl)
    have zf5:=R4c.frozen 5
    have z6_:=(R4c.cell 6).trans (show _ = some (Value.slice none 0 0) from rfl)
    have zf6:=R4c.frozen 6
    obtain ⟨R9,O9⟩:=Rw.sevK (b0:=.int .i64 1) (b1:=.bool vf) (b2:=.slice va vn1 vk) (b3:=.slice vd vm vl) (b4:=.slice (some ⟨gx,0,none⟩) P.vn P.vn) (b5:=.slice (some ⟨gy,0,none⟩) P.rn P.rn) (b6:=.slice none 0 0) R4c
    have kk:Kb F [35] w7 _:=kb_off R4c (by omega) O9
    have HCT:Hid (CtQ w7 F 1 P.vn P.rn R #[.int .i64 1,.bool vf,.slice va vn1 vk,.slice vd vm vl,.slice (some ⟨gx,0,none⟩) P.vn P.vn,.slice (some ⟨gy,0,none⟩) P.rn P.rn,.slice none 0 0]):=⟨_,_,_,_,_,_,_,_,_,_,_,_,_,rfl,.inl ⟨rfl,GV⟩,HNx.out,HNy.out,NL.nil _ _ _⟩
    have HC9:=ctQ_kb HCT.out kk (by decide) (by decide)
    clear h7 hN hR hsm f7 R8 HCT HNx Mx HNy My
    go_wp2
    exact bodyPost_ret (R9.ret2 Tryz.results7 _ rfl Tryz.underlying35 certI2) rfl ⟨by rw [HFW.out];exact hb7F.trans (O9.below (by omega)),.inl ⟨1,R,_,by decide,by decide,HNW.out,HA.out,by rw [HFW.out];exact HC9,rfl⟩⟩
  ·have HWH:Hid (Whl19 P):=HBW.out.1 rfl
   have EF3:=HEV.out.below hb3w
   go_wp2_with fail
   have hEl:=World.block_lt_of_cell? _ _ EF3.1
   have HEX:∀ w',Off (F + 1) w3 w'→w'.cell? ⟨0,0,none⟩ = some (ev):=fun w' k=>(k.cell (p:=⟨0,0,none⟩) (by show 0 ≠ F + 1;have:=HEF.out;omega)).trans EF3.1
   have HEG:∀ w',Off (F + 1) w3 w'→w'.cell? ⟨0,0,none⟩ = some (ev):=HEX
   refine wp_region_noPanic (wp_region_guard (Till 3 3 (fun w'=>w'.cell? ⟨0,0,none⟩ = some (ev)) (fun _=>True)) (by as_aux_lemma=>kernel_rfl) ?_)
   have hc0:Off (F + 1) w3 w3.drew:=(Off.refl _ _).drew
   have R4d:Rw 35 w3.drew (F + 1) #[.int .i64 0,.bool false,.slice none 0 0,.slice none 0 0,.slice none 0 0,.slice none 0 0,.slice none 0 0]:=R4
   have hbd:Below F w w3.drew:=hb3.drew
   generalize w3.drew = z0 at *
   have z0_:=(R4d.cell 0).trans (show _ = some (Value.int .i64 0) from rfl)
   have zf0:=R4d.frozen 0
   have z1_:=(R4d.cell 1).trans (show _ = some (Value.bool false) from rfl)
   have zf1:=R4d.frozen 1
   have z2_:=(R4d.cell 2).trans (show _ = some (Value.slice none 0 0) from rfl)
   have zf2:=R4d.frozen 2
   have z3_:=(R4d.cell 3).trans (show _ = some (Value.slice none 0 0) from rfl)
   have zf3:=R4d.frozen 3
   have z4_:=(R4d.cell 4).trans (show _ = some (Value.slice none 0 0) from rfl)
   have zf4:=R4d.frozen 4
   have z5_:=(R4d.cell 5).trans (show _ = some (Value.slice none 0 0) from rfl)
   have zf5:=R4d.frozen 5
   have z6_:=(R4d.cell 6).trans (show _ = some (Value.slice none 0 0) from rfl)
   have zf6:=R4d.frozen 6
   obtain ⟨R9,O9'⟩:=Rw.sevK (b0:=.int .i64 0) (b1:=.bool false) (b2:=.slice none 0 0) (b3:=.slice none 0 0) (b4:=.slice none 0 0) (b5:=.slice none 0 0) (b6:=.slice none 0 0) R4d
   have O9:=hc0.trans O9'
   clear R4
   refine wpAnyG.tT 0 (v:=.agg #[.int .i64 0,.bool false,.slice none 0 0,.slice none 0 0,.slice none 0 0,.slice none 0 0,.slice none 0 0]) (by decide) 3 (by as_aux_lemma=>kernel_rfl) (by rfl) ?y0 (HEX _ hc0) ?_
   case y0 =>
    rintro w' q0
    simp only [lgA,lgZ]
    go_simp
   simp only [lgA,lgZ,Act.put,lsA,lsZ,lsS]
   refine wpAnyG.tT 1 (v:=ev) (by decide) 3 (by as_aux_lemma=>kernel_rfl) (by rfl) ?y1 (HEX _ hc0) ?_
   case y1 =>
    rintro w' q0
    simp only [lgA,lgZ,lgS]
    go_simp
   simp only [lgA,lgZ,lgS,Act.put,lsA,lsZ,lsS]
   refine wpAnyG.one 2 (by as_aux_lemma=>kernel_rfl) (by decide) (by rfl) (fun K hK=>?_)
   simp only [lgA,lgZ,lgS]
   go_simp
   refine hK _ _ ⟨fun _=>HEG _ O9,fun _=>trivial⟩ ?_
   clear hK K
   refine wpAnyG.one 3 (by as_aux_lemma=>kernel_rfl) (by decide) (by rfl) (fun K hK=>?_)
   simp only [lgA,lgZ,lgS]
   go_simp
   refine hK _ _ ⟨fun h=>absurd h (by decide),fun _=>trivial⟩ ?_
   clear hK K
   refine wpAnyG.done (by as_aux_lemma=>kernel_rfl) (NoPanic.normal ?_)
   clear HEX HEG
   go_wp2
   exact bodyPost_ret (R9.ret2 Tryz.results7 _ rfl Tryz.underlying35 certI2) rfl ⟨by rw [HFW.out];exact hbd.trans (O9'.below (by omega)),.inr ⟨.inl HWH.out,rfl⟩⟩
 ·have hb1w:Below w.heap.size w w1:=by rw [HFW.out];exact hb1
  have q0:=(RP.cell 0).trans (show _ = some (Value.bool P.mx) from rfl)
  have q1:=(RP.cell 1).trans (show _ = some (Value.string P.nm) from rfl)
  have q2:=(RP.cell 2).trans (show _ = some (Value.bool P.p) from rfl)
  have q3:=(RP.cell 3).trans (show _ = some (Value.slice P.a P.na P.ca) from rfl)
  have q4:=(RP.cell 4).trans (show _ = some (Value.slice P.d P.nd P.cd) from rfl)
  have q5:=(RP.cell 5).trans (show _ = some (Value.slice P.va P.vn P.vc) from rfl)
  have q6:=(RP.cell 6).trans (show _ = some (Value.slice P.ra P.rn P.rc) from rfl)
  go_wp2_with fail
  clear q0 q1 q2 q3 q4 q5 q6
  refine (hasWhlQ P w1 (HPW.out.below hb1w) hK0).mono ?_
  rintro e w3 ⟨b,rfl,hbw,hx⟩
  have HBW:Hid (b = true↔Whl19 P):=hbw
  replace RP:=RP.below hx
  replace R4:=R4.below hx
  have hs3:=hx.size
  have hb3:Below F w w3:=hb1.trans (hx.mono (by omega))
  have hb3w:Below w.heap.size w w3:=by rw [HFW.out];exact hb3
  clear hx hb1 hb1w hbw
  cases b
  ·have HNW:Hid (¬ Whl19 P):=fun h=>by have:=HBW.out.2 h;cases this
   have q0:=(RP.cell 0).trans (show _ = some (Value.bool P.mx) from rfl)
   have q1:=(RP.cell 1).trans (show _ = some (Value.string P.nm) from rfl)
   have q2:=(RP.cell 2).trans (show _ = some (Value.bool P.p) from rfl)
   have q3:=(RP.cell 3).trans (show _ = some (Value.slice P.a P.na P.ca) from rfl)
   have q4:=(RP.cell 4).trans (show _ = some (Value.slice P.d P.nd P.cd) from rfl)
   have q5:=(RP.cell 5).trans (show _ = some (Value.slice P.va P.vn P.vc) from rfl)
   have q6:=(RP.cell 6).trans (show _ = some (Value.slice P.ra P.rn P.rc) from rfl)
   go_wp2_with fail
   clear q0 q1 q2 q3 q4 q5 q6
   refine (blank2 P w3 (HPW.out.below hb3w) hK0).mono ?_
   rintro e w4 ⟨_,gy,_,hX,hY,hZ,hxy,hxz,hb4,rfl⟩
   have My:=hY.resolve_left (by decide)
   have R4a:=R4.below hb4
   have RPa:=RP.below hb4
   have hs4:=hb4.size
   have hb4w:Below F w w4:=hb3.trans (hb4.mono (by omega))
   have hly:=My.lt
   have hgy:=My.1
   clear R4 RP hX hY hZ hb4 hxy hxz
   have hx5:=bel_d0 w4 (.cells #[.int .i64 2,.bool false,.slice none 0 0,.slice none 0 0,.slice none 0 0,.slice (some ⟨gy,0,none⟩) P.rn P.rn,.slice none 0 0] 35)
   have R8:=Rw.new 35 w4 #[.int .i64 2,.bool false,.slice none 0 0,.slice none 0 0,.slice none 0 0,.slice (some ⟨gy,0,none⟩) P.rn P.rn,.slice none 0 0]
   replace My:=(My.below hx5).lo (F':=F) (by omega)
   replace R4a:=R4a.below hx5
   replace RPa:=RPa.below hx5
   have hb5:Below F w (w4.alloc (.cells #[.int .i64 2,.bool false,.slice none 0 0,.slice none 0 0,.slice none 0 0,.slice (some ⟨gy,0,none⟩) P.rn P.rn,.slice none 0 0] 35)):=hb4w.trans (hx5.mono (by omega))
   have HS5:Hid ((w4.alloc (.cells #[.int .i64 2,.bool false,.slice none 0 0,.slice none 0 0,.slice none 0 0,.slice (some ⟨gy,0,none⟩) P.rn P.rn,.slice none 0 0] 35)).heap.size = w4.heap.size + 1):=by show _ = _;simp
   clear hx5 hb4w
   have q0:=(RPa.cell 0).trans (show _ = some (Value.bool P.mx) from rfl)
   have q1:=(RPa.cell 1).trans (show _ = some (Value.string P.nm) from rfl)
   have q2:=(RPa.cell 2).trans (show _ = some (Value.bool P.p) from rfl)
   have q3:=(RPa.cell 3).trans (show _ = some (Value.slice P.a P.na P.ca) from rfl)
   have q4:=(RPa.cell 4).trans (show _ = some (Value.slice P.d P.nd P.cd) from rfl)
   have q5:=(RPa.cell 5).trans (show _ = some (Value.slice P.va P.vn P.vc) from rfl)
   have q6:=(RPa.cell 6).trans (show _ = some (Value.slice P.ra P.rn P.rc) from rfl)
   simp only [if_true,if_false,show ¬ (2 = 3) by decide,show ((2:Nat):Int) = 2 from rfl]
   go_wp2_with fail
   clear q0 q1 q2 q3 q4 q5 q6
   obtain ⟨C,hC⟩:∃ C,w4.heap.size = C:=⟨_,rfl⟩
   rw [hC] at R8 HS5 hs4 hly ⊢
   clear hC
   generalize w4.alloc (.cells #[.int .i64 2,.bool false,.slice none 0 0,.slice none 0 0,.slice none 0 0,.slice (some ⟨gy,0,none⟩) P.rn P.rn,.slice none 0 0] 35) = w5 at *
   have hb5w:Below w.heap.size w w5:=by rw [HFW.out];exact hb5
   have hF5:F≤w5.heap.size:=by have:=HS5.out;omega
   refine (certL2 P (C:=C) (gx:=C + 1) (gy:=gy) (gz:=C + 2) w5 (HPW.out.below hb5w) hK0 R8).mono ?_
   rintro e w6 ⟨la,lc,rfl,hLS,hb6⟩
   have hs6:=hb6.size
   have HLS:Hid (LsQ w6 F (.slice la (lnsN 2 P.vn P.rn) lc) (lnsN 2 P.vn P.rn) (lnsW 2 P.vn (vnm P) P.rn (unm P)) (lnsK 2 P.vn P.rn) (dst 2 P.vn C (C + 1) gy (C + 2))):=hLS.mono hF5
   replace R4a:=R4a.below hb6
   replace R8:=R8.below hb6
   replace My:=My.below hb6
   have hb6F:Below F w w6:=hb5.trans (hb6.mono hF5)
   clear hLS hb6 hb5 RPa
   obtain ⟨nn,hnn⟩:∃ nn,lnsN 2 P.vn P.rn = nn:=⟨_,rfl⟩
   have HNN2:Hid (lnsN 2 P.vn P.rn = nn):=hnn
   have hnb:nn≤10000000:=by rw [← hnn];unfold lnsN hdV nvV nrV;simp;omega
   rw [hnn] at HLS ⊢
   clear hnn
   go_wp2_with fail
   have hb6w:Below w.heap.size w w6:=by rw [HFW.out];exact hb6F
   have hF6:F≤w6.heap.size:=by omega
   have HWR:Hid (∀ t,t < nn→∀ k,k < lnsK 2 P.vn P.rn t→Wr w6 F ((dst 2 P.vn C (C + 1) gy (C + 2)) t k)):=by
    show ∀ t,t < nn→_
    rw [← HNN2.out]
    exact wr_all R8 rfl (by omega) (.inl rfl) (.inr My) (.inl (by decide)) (by decide)
   refine (fillQ (F:=F) (n:=nn) (s:=s) w6 HLS.out HWR.out (fun t k t' k' o h1 h2 h3=>dst_apart (by omega) (by omega) (by omega) (by omega) (by omega) (by omega) h1 h2 h3) (lnsK_le _ _ _) hnb hs hF6 (hT.below hb6w) (hE.below hb6w) HGG.out HNN.out).mono ?_
   rintro e w7 ⟨ok,rfl,f7,h7⟩
   have hb7F:Below F w w7:=hb6F.trans f7.kb.below
   have R4c:=R4a.fm f7 (fun o h=>by
    have:=mall_blk h
    omega)
   clear HLS HWR R4a
   cases ok
   ·have HX:Hid (∀ R,¬ Ans 2 P.vn (vnm P) P.rn (unm P) s.data.toList R):=fun R h=>by
     rcases h7 with ⟨x,_⟩ | ⟨_,h7⟩
     ·cases x
     ·exact h7 R (by rw [← HNN2.out];exact h)
    have HXA:Hid (NoAns P.vn (vnm P) P.rn (unm P) s.data.toList):=fun v' R h1 h2 h3=>by
     obtain ⟨m',e'⟩:=h3.head
     have e1:=HVD.out v' m' h1 h2 e'
     subst e1
     exact HX.out R h3
    have EF7:Errs w7 0 ev:=Errs.kb (HEV.out.below hb6w) f7.kb HEF.out
    clear h7 f7 R8 My
    go_wp2_with fail
    have hEl:=World.block_lt_of_cell? _ _ EF7.1
    have HEX:∀ w',Off (F + 1) w7 w'→w'.cell? ⟨0,0,none⟩ = some (ev):=fun w' k=>(k.cell (p:=⟨0,0,none⟩) (by show 0 ≠ F + 1;have:=HEF.out;omega)).trans EF7.1
    have HEG:∀ w',Off (F + 1) w7 w'→w'.cell? ⟨0,0,none⟩ = some (ev):=HEX
    refine wp_region_noPanic (wp_region_guard (Till 3 3 (fun w'=>w'.cell? ⟨0,0,none⟩ = some (ev)) (fun _=>True)) (by as_aux_lemma=>kernel_rfl) ?_)
    have hc0:Off (F + 1) w7 w7.drew:=(Off.refl _ _).drew
    have R4d:Rw 35 w7.drew (F + 1) #[.int .i64 0,.bool false,.slice none 0 0,.slice none 0 0,.slice none 0 0,.slice none 0 0,.slice none 0 0]:=R4c
    have hbd:Below F w w7.drew:=hb7F.drew
    generalize w7.drew = z0 at *
    have z0_:=(R4d.cell 0).trans (show _ = some (Value.int .i64 0) from rfl)
    have zf0:=R4d.frozen 0
    have z1_:=(R4d.cell 1).trans (show _ = some (Value.bool false) from rfl)
    have zf1:=R4d.frozen 1
    have z2_:=(R4d.cell 2).trans (show _ = some (Value.slice none 0 0) from rfl)
    have zf2:=R4d.frozen 2
    have z3_:=(R4d.cell 3).trans (show _ = some (Value.slice none 0 0) from rfl)
    have zf3:=R4d.frozen 3
    have z4_:=(R4d.cell 4).trans (show _ = some (Value.slice none 0 0) from rfl)
    have zf4:=R4d.frozen 4
    have z5_:=(R4d.cell 5).trans (show _ = some (Value.slice none 0 0) from rfl)
    have zf5:=R4d.frozen 5
    have z6_:=(R4d.cell 6).trans (show _ = some (Value.slice none 0 0) from rfl)
    have zf6:=R4d.frozen 6
    obtain ⟨R9,O9'⟩:=Rw.sevK (b0:=.int .i64 0) (b1:=.bool false) (b2:=.slice none 0 0) (b3:=.slice none 0 0) (b4:=.slice none 0 0) (b5:=.slice none 0 0) (b6:=.slice none 0 0) R4d
    have O9:=hc0.trans O9'
    clear R4c
    refine wpAnyG.tT 0 (v:=.agg #[.int .i64 0,.bool false,.slice none 0 0,.slice none 0 0,.slice none 0 0,.slice none 0 0,.slice none 0 0]) (by decide) 3 (by as_aux_lemma=>kernel_rfl) (by rfl) ?y0 (HEX _ hc0) ?_
    case y0 =>
     rintro w' q0
     simp only [lgA,lgZ]
     go_simp
    simp only [lgA,lgZ,Act.put,lsA,lsZ,lsS]
    refine wpAnyG.tT 1 (v:=ev) (by decide) 3 (by as_aux_lemma=>kernel_rfl) (by rfl) ?y1 (HEX _ hc0) ?_
    case y1 =>
     rintro w' q0
     simp only [lgA,lgZ,lgS]
     go_simp
    simp only [lgA,lgZ,lgS,Act.put,lsA,lsZ,lsS]
    refine wpAnyG.one 2 (by as_aux_lemma=>kernel_rfl) (by decide) (by rfl) (fun K hK=>?_)
    simp only [lgA,lgZ,lgS]
    go_simp
    refine hK _ _ ⟨fun _=>HEG _ O9,fun _=>trivial⟩ ?_
    clear hK K
    refine wpAnyG.one 3 (by as_aux_lemma=>kernel_rfl) (by decide) (by rfl) (fun K hK=>?_)
    simp only [lgA,lgZ,lgS]
    go_simp
    refine hK _ _ ⟨fun h=>absurd h (by decide),fun _=>trivial⟩ ?_
    clear hK K
    refine wpAnyG.done (by as_aux_lemma=>kernel_rfl) (NoPanic.normal ?_)
    clear HEX HEG
    go_wp2
    exact bodyPost_ret (R9.ret2 Tryz.results7 _ rfl Tryz.underlying35 certI2) rfl ⟨by rw [HFW.out];exact hbd.trans (O9'.below (by omega)),.inr ⟨.inr HXA.out,rfl⟩⟩
   ·obtain ⟨R,hR,hN⟩:∃ R,Lns (lnsW 2 P.vn (vnm P) P.rn (unm P)) (lnsK 2 P.vn P.rn) s.data.toList R nn []∧∀ t,t < nn→∀ k,k < lnsK 2 P.vn P.rn t→Num3 w7 F ((dst 2 P.vn C (C + 1) gy (C + 2)) t k).1 ((dst 2 P.vn C (C + 1) gy (C + 2)) t k).2 ((R t).getD k 0):=by
     rcases h7 with ⟨_,h⟩ | ⟨x,_⟩
     ·exact h
     ·cases x
    rw [← HNN2.out] at hR hN
    have HA:Hid (Ans 2 P.vn (vnm P) P.rn (unm P) s.data.toList R):=hR
    have HNy:Hid (NL w7 F (.slice (some ⟨gy,0,none⟩) P.rn P.rn) P.rn (yR 2 P.vn R)):=by
     obtain ⟨m1,cur,m2,m3⟩:=My
     obtain ⟨c7,m4,m5⟩:=f7.typ _ _ _ m2
     refine nl_of m1 (by omega) m4 (m5.trans m3) fun j hj=>?_
     have h1:=hN (hdV 2 + nvV 2 P.vn + j) (row_lt (v:=2) hj) 0 (by rw [(row_W (v:=2) (vn:=P.vn) (rn:=P.rn) (V:=vnm P) (U:=unm P) (i:=j) hj).2];decide)
     rw [dst_row (v:=2)] at h1
     exact h1
    have hsm:∀ o,True→w7.cell? ⟨C,o,none⟩ = w6.cell? ⟨C,o,none⟩:=fun o _=>f7.same C R8.lt o (fun h=>absurd (mall_at h (by omega) (by omega) (by omega)).1 (by decide))
    have y0:=(hsm 0 trivial).trans ((R8.cell 0).trans (show _ = some (Value.int .i64 2) from rfl))
    have y1:=(hsm 1 trivial).trans ((R8.cell 1).trans (show _ = some (Value.bool false) from rfl))
    have y2:=(hsm 2 trivial).trans ((R8.cell 2).trans (show _ = some (Value.slice none 0 0) from rfl))
    have y3:=(hsm 3 trivial).trans ((R8.cell 3).trans (show _ = some (Value.slice none 0 0) from rfl))
    have y4:=(hsm 4 trivial).trans ((R8.cell 4).trans (show _ = some (Value.slice none 0 0) from rfl))
    have y5:=(hsm 5 trivial).trans ((R8.cell 5).trans (show _ = some (Value.slice (some ⟨gy,0,none⟩) P.rn P.rn) from rfl))
    have y6:=(hsm 6 trivial).trans ((R8.cell 6).trans (show _ = some (Value.slice none 0 0) from rfl))
    have z0_:=(R4c.cell 0).trans (show _ = some (Value.int .i64 0) from rfl)
    have zf0:=R4c.frozen 0
    have z1_:=(R4c.cell 1).trans (show _ = some (Value.bool false) from rfl)
    have zf1:=R4c.frozen 1
    have z2_:=(R4c.cell 2).trans (show _ = some (Value.slice none 0 0) from rfl)
    have zf2:=R4c.frozen 2
    have z3_:=(R4c.cell 3).trans (show _ = some (Value.slice none 0 0) from rfl)
    have zf3:=R4c.frozen 3
    have z4_:=(R4c.cell 4).trans (show _ = some (Value.slice none 0 0) from rfl)
    have zf4:=R4c.frozen 4
    have z5_:=(R4c.cell 5).trans (show _ = some (Value.slice none 0 0) from rfl)
    have zf5:=R4c.frozen 5
    have z6_:=(R4c.cell 6).trans (show _ = some (Value.slice none 0 0) from rfl)
    have zf6:=R4c.frozen 6
    obtain ⟨R9,O9⟩:=Rw.sevK (b0:=.int .i64 2) (b1:=.bool false) (b2:=.slice none 0 0) (b3:=.slice none 0 0) (b4:=.slice none 0 0) (b5:=.slice (some ⟨gy,0,none⟩) P.rn P.rn) (b6:=.slice none 0 0) R4c
    have kk:Kb F [35] w7 _:=kb_off R4c (by omega) O9
    have HCT:Hid (CtQ w7 F 2 P.vn P.rn R #[.int .i64 2,.bool false,.slice none 0 0,.slice none 0 0,.slice none 0 0,.slice (some ⟨gy,0,none⟩) P.rn P.rn,.slice none 0 0]):=⟨_,_,_,_,_,_,_,_,_,_,_,_,_,rfl,.inr ⟨by decide,rfl,rfl,rfl,rfl,rfl,rfl,rfl⟩,NL.nil _ _ _,HNy.out,NL.nil _ _ _⟩
    have HC9:=ctQ_kb HCT.out kk (by decide) (by decide)
    clear h7 hN hR hsm f7 R8 HCT HNy My
    go_wp2
    exact bodyPost_ret (R9.ret2 Tryz.results7 _ rfl Tryz.underlying35 certI2) rfl ⟨by rw [HFW.out];exact hb7F.trans (O9.below (by omega)),.inl ⟨2,R,_,by decide,by decide,HNW.out,HA.out,by rw [HFW.out];exact HC9,rfl⟩⟩
  ·have HWH:Hid (Whl19 P):=HBW.out.1 rfl
   have EF3:=HEV.out.below hb3w
   go_wp2_with fail
   have hEl:=World.block_lt_of_cell? _ _ EF3.1
   have HEX:∀ w',Off (F + 1) w3 w'→w'.cell? ⟨0,0,none⟩ = some (ev):=fun w' k=>(k.cell (p:=⟨0,0,none⟩) (by show 0 ≠ F + 1;have:=HEF.out;omega)).trans EF3.1
   have HEG:∀ w',Off (F + 1) w3 w'→w'.cell? ⟨0,0,none⟩ = some (ev):=HEX
   refine wp_region_noPanic (wp_region_guard (Till 3 3 (fun w'=>w'.cell? ⟨0,0,none⟩ = some (ev)) (fun _=>True)) (by as_aux_lemma=>kernel_rfl) ?_)
   have hc0:Off (F + 1) w3 w3.drew:=(Off.refl _ _).drew
   have R4d:Rw 35 w3.drew (F + 1) #[.int .i64 0,.bool false,.slice none 0 0,.slice none 0 0,.slice none 0 0,.slice none 0 0,.slice none 0 0]:=R4
   have hbd:Below F w w3.drew:=hb3.drew
   generalize w3.drew = z0 at *
   have z0_:=(R4d.cell 0).trans (show _ = some (Value.int .i64 0) from rfl)
   have zf0:=R4d.frozen 0
   have z1_:=(R4d.cell 1).trans (show _ = some (Value.bool false) from rfl)
   have zf1:=R4d.frozen 1
   have z2_:=(R4d.cell 2).trans (show _ = some (Value.slice none 0 0) from rfl)
   have zf2:=R4d.frozen 2
   have z3_:=(R4d.cell 3).trans (show _ = some (Value.slice none 0 0) from rfl)
   have zf3:=R4d.frozen 3
   have z4_:=(R4d.cell 4).trans (show _ = some (Value.slice none 0 0) from rfl)
   have zf4:=R4d.frozen 4
   have z5_:=(R4d.cell 5).trans (show _ = some (Value.slice none 0 0) from rfl)
   have zf5:=R4d.frozen 5
   have z6_:=(R4d.cell 6).trans (show _ = some (Value.slice none 0 0) from rfl)
   have zf6:=R4d.frozen 6
   obtain ⟨R9,O9'⟩:=Rw.sevK (b0:=.int .i64 0) (b1:=.bool false) (b2:=.slice none 0 0) (b3:=.slice none 0 0) (b4:=.slice none 0 0) (b5:=.slice none 0 0) (b6:=.slice none 0 0) R4d
   have O9:=hc0.trans O9'
   clear R4
   refine wpAnyG.tT 0 (v:=.agg #[.int .i64 0,.bool false,.slice none 0 0,.slice none 0 0,.slice none 0 0,.slice none 0 0,.slice none 0 0]) (by decide) 3 (by as_aux_lemma=>kernel_rfl) (by rfl) ?y0 (HEX _ hc0) ?_
   case y0 =>
    rintro w' q0
    simp only [lgA,lgZ]
    go_simp
   simp only [lgA,lgZ,Act.put,lsA,lsZ,lsS]
   refine wpAnyG.tT 1 (v:=ev) (by decide) 3 (by as_aux_lemma=>kernel_rfl) (by rfl) ?y1 (HEX _ hc0) ?_
   case y1 =>
    rintro w' q0
    simp only [lgA,lgZ,lgS]
    go_simp
   simp only [lgA,lgZ,lgS,Act.put,lsA,lsZ,lsS]
   refine wpAnyG.one 2 (by as_aux_lemma=>kernel_rfl) (by decide) (by rfl) (fun K hK=>?_)
   simp only [lgA,lgZ,lgS]
   go_simp
   refine hK _ _ ⟨fun _=>HEG _ O9,fun _=>trivial⟩ ?_
   clear hK K
   refine wpAnyG.one 3 (by as_aux_lemma=>kernel_rfl) (by decide) (by rfl) (fun K hK=>?_)
   simp only [lgA,lgZ,lgS]
   go_simp
   refine hK _ _ ⟨fun h=>absurd h (by decide),fun _=>trivial⟩ ?_
   clear hK K
   refine wpAnyG.done (by as_aux_lemma=>kernel_rfl) (NoPanic.normal ?_)
   clear HEX HEG
   go_wp2
   exact bodyPost_ret (R9.ret2 Tryz.results7 _ rfl Tryz.underlying35 certI2) rfl ⟨by rw [HFW.out];exact hbd.trans (O9'.below (by omega)),.inr ⟨.inl HWH.out,rfl⟩⟩
 ·have hb1w:Below w.heap.size w w1:=by rw [HFW.out];exact hb1
  have q0:=(RP.cell 0).trans (show _ = some (Value.bool P.mx) from rfl)
  have q1:=(RP.cell 1).trans (show _ = some (Value.string P.nm) from rfl)
  have q2:=(RP.cell 2).trans (show _ = some (Value.bool P.p) from rfl)
  have q3:=(RP.cell 3).trans (show _ = some (Value.slice P.a P.na P.ca) from rfl)
  have q4:=(RP.cell 4).trans (show _ = some (Value.slice P.d P.nd P.cd) from rfl)
  have q5:=(RP.cell 5).trans (show _ = some (Value.slice P.va P.vn P.vc) from rfl)
  have q6:=(RP.cell 6).trans (show _ = some (Value.slice P.ra P.rn P.rc) from rfl)
  go_wp2_with fail
  clear q0 q1 q2 q3 q4 q5 q6
  refine (hasWhlQ P w1 (HPW.out.below hb1w) hK0).mono ?_
  rintro e w3 ⟨b,rfl,hbw,hx⟩
  have HBW:Hid (b = true↔Whl19 P):=hbw
  replace RP:=RP.below hx
  replace R4:=R4.below hx
  have hs3:=hx.size
  have hb3:Below F w w3:=hb1.trans (hx.mono (by omega))
  have hb3w:Below w.heap.size w w3:=by rw [HFW.out];exact hb3
  clear hx hb1 hb1w hbw
  cases b
  ·have HNW:Hid (¬ Whl19 P):=fun h=>by have:=HBW.out.2 h;cases this
   have q0:=(RP.cell 0).trans (show _ = some (Value.bool P.mx) from rfl)
   have q1:=(RP.cell 1).trans (show _ = some (Value.string P.nm) from rfl)
   have q2:=(RP.cell 2).trans (show _ = some (Value.bool P.p) from rfl)
   have q3:=(RP.cell 3).trans (show _ = some (Value.slice P.a P.na P.ca) from rfl)
   have q4:=(RP.cell 4).trans (show _ = some (Value.slice P.d P.nd P.cd) from rfl)
   have q5:=(RP.cell 5).trans (show _ = some (Value.slice P.va P.vn P.vc) from rfl)
   have q6:=(RP.cell 6).trans (show _ = some (Value.slice P.ra P.rn P.rc) from rfl)
   go_wp2_with fail
   clear q0 q1 q2 q3 q4 q5 q6
   refine (blank3 P w3 (HPW.out.below hb3w) hK0).mono ?_
   rintro e w4 ⟨gx,_,gz,hX,hY,hZ,hxy,hxz,hb4,rfl⟩
   have Mx:=hX.resolve_left (by decide)
   have Mz:=hZ.resolve_left (fun h=>h rfl)
   have hne:=hxz rfl
   have R4a:=R4.below hb4
   have RPa:=RP.below hb4
   have hs4:=hb4.size
   have hb4w:Below F w w4:=hb3.trans (hb4.mono (by omega))
   have hlx:=Mx.lt
   have hgx:=Mx.1
   have hlz:=Mz.lt
   have hgz:=Mz.1
   clear R4 RP hX hY hZ hb4 hxy hxz
   have hx5:=bel_d0 w4 (.cells #[.int .i64 3,.bool false,.slice none 0 0,.slice none 0 0,.slice (some ⟨gx,0,none⟩) P.vn P.vn,.slice none 0 0,.slice (some ⟨gz,0,none⟩) P.vn P.vn] 35)
   have R8:=Rw.new 35 w4 #[.int .i64 3,.bool false,.slice none 0 0,.slice none 0 0,.slice (some ⟨gx,0,none⟩) P.vn P.vn,.slice none 0 0,.slice (some ⟨gz,0,none⟩) P.vn P.vn]
   replace Mx:=(Mx.below hx5).lo (F':=F) (by omega)
   replace Mz:=(Mz.below hx5).lo (F':=F) (by omega)
   replace R4a:=R4a.below hx5
   replace RPa:=RPa.below hx5
   have hb5:Below F w (w4.alloc (.cells #[.int .i64 3,.bool false,.slice none 0 0,.slice none 0 0,.slice (some ⟨gx,0,none⟩) P.vn P.vn,.slice none 0 0,.slice (some ⟨gz,0,none⟩) P.vn P.vn] 35)):=hb4w.trans (hx5.mono (by omega))
   have HS5:Hid ((w4.alloc (.cells #[.int .i64 3,.bool false,.slice none 0 0,.slice none 0 0,.slice (some ⟨gx,0,none⟩) P.vn P.vn,.slice none 0 0,.slice (some ⟨gz,0,none⟩) P.vn P.vn] 35)).heap.size = w4.heap.size + 1):=by show _ = _;simp
   clear hx5 hb4w
   have q0:=(RPa.cell 0).trans (show _ = some (Value.bool P.mx) from rfl)
   have q1:=(RPa.cell 1).trans (show _ = some (Value.string P.nm) from rfl)
   have q2:=(RPa.cell 2).trans (show _ = some (Value.bool P.p) from rfl)
   have q3:=(RPa.cell 3).trans (show _ = some (Value.slice P.a P.na P.ca) from rfl)
   have q4:=(RPa.cell 4).trans (show _ = some (Value.slice P.d P.nd P.cd) from rfl)
   have q5:=(RPa.cell 5).trans (show _ = some (Value.slice P.va P.vn P.vc) from rfl)
   have q6:=(RPa.cell 6).trans (show _ = some (Value.slice P.ra P.rn P.rc) from rfl)
   simp only [if_true,if_false,show ¬ (3 = 2) by decide,show ((3:Nat):Int) = 3 from rfl]
   go_wp2_with fail
   clear q0 q1 q2 q3 q4 q5 q6
   obtain ⟨C,hC⟩:∃ C,w4.heap.size = C:=⟨_,rfl⟩
   rw [hC] at R8 HS5 hs4 hlx hlz ⊢
   clear hC
   generalize w4.alloc (.cells #[.int .i64 3,.bool false,.slice none 0 0,.slice none 0 0,.slice (some ⟨gx,0,none⟩) P.vn P.vn,.slice none 0 0,.slice (some ⟨gz,0,none⟩) P.vn P.vn] 35) = w5 at *
   have hb5w:Below w.heap.size w w5:=by rw [HFW.out];exact hb5
   have hF5:F≤w5.heap.size:=by have:=HS5.out;omega
   refine (certL3 P (C:=C) (gx:=gx) (gy:=C + 1) (gz:=gz) w5 (HPW.out.below hb5w) hK0 R8).mono ?_
   rintro e w6 ⟨la,lc,rfl,hLS,hb6⟩
   have hs6:=hb6.size
   have HLS:Hid (LsQ w6 F (.slice la (lnsN 3 P.vn P.rn) lc) (lnsN 3 P.vn P.rn) (lnsW 3 P.vn (vnm P) P.rn (unm P)) (lnsK 3 P.vn P.rn) (dst 3 P.vn C gx (C + 1) gz)):=hLS.mono hF5
   replace R4a:=R4a.below hb6
   replace R8:=R8.below hb6
   replace Mx:=Mx.below hb6
   replace Mz:=Mz.below hb6
   have hb6F:Below F w w6:=hb5.trans (hb6.mono hF5)
   clear hLS hb6 hb5 RPa
   obtain ⟨nn,hnn⟩:∃ nn,lnsN 3 P.vn P.rn = nn:=⟨_,rfl⟩
   have HNN2:Hid (lnsN 3 P.vn P.rn = nn):=hnn
   have hnb:nn≤10000000:=by rw [← hnn];unfold lnsN hdV nvV nrV;simp;omega
   rw [hnn] at HLS ⊢
   clear hnn
   go_wp2_with fail
   have hb6w:Below w.heap.size w w6:=by rw [HFW.out];exact hb6F
   have hF6:F≤w6.heap.size:=by omega
   have HWR:Hid (∀ t,t < nn→∀ k,k < lnsK 3 P.vn P.rn t→Wr w6 F ((dst 3 P.vn C gx (C + 1) gz) t k)):=by
    show ∀ t,t < nn→_
    rw [← HNN2.out]
    exact wr_all R8 rfl (by omega) (.inr Mx) (.inl rfl) (.inr Mz) (by decide)
   refine (fillQ (F:=F) (n:=nn) (s:=s) w6 HLS.out HWR.out (fun t k t' k' o h1 h2 h3=>dst_apart (by omega) (by omega) (by omega) (by omega) (by omega) (by omega) h1 h2 h3) (lnsK_le _ _ _) hnb hs hF6 (hT.below hb6w) (hE.below hb6w) HGG.out HNN.out).mono ?_
   rintro e w7 ⟨ok,rfl,f7,h7⟩
   have hb7F:Below F w w7:=hb6F.trans f7.kb.below
   have R4c:=R4a.fm f7 (fun o h=>by
    have:=mall_blk h
    omega)
   clear HLS HWR R4a
   cases ok
   ·have HX:Hid (∀ R,¬ Ans 3 P.vn (vnm P) P.rn (unm P) s.data.toList R):=fun R h=>by
     rcases h7 with ⟨x,_⟩ | ⟨_,h7⟩
     ·cases x
     ·exact h7 R (by rw [← HNN2.out];exact h)
    have HXA:Hid (NoAns P.vn (vnm P) P.rn (unm P) s.data.toList):=fun v' R h1 h2 h3=>by
     obtain ⟨m',e'⟩:=h3.head
     have e1:=HVD.out v' m' h1 h2 e'
     subst e1
     exact HX.out R h3
    have EF7:Errs w7 0 ev:=Errs.kb (HEV.out.below hb6w) f7.kb HEF.out
    clear h7 f7 R8 Mx Mz
    go_wp2_with fail
    have hEl:=World.block_lt_of_cell? _ _ EF7.1
    have HEX:∀ w',Off (F + 1) w7 w'→w'.cell? ⟨0,0,none⟩ = some (ev):=fun w' k=>(k.cell (p:=⟨0,0,none⟩) (by show 0 ≠ F + 1;have:=HEF.out;omega)).trans EF7.1
    have HEG:∀ w',Off (F + 1) w7 w'→w'.cell? ⟨0,0,none⟩ = some (ev):=HEX
    refine wp_region_noPanic (wp_region_guard (Till 3 3 (fun w'=>w'.cell? ⟨0,0,none⟩ = some (ev)) (fun _=>True)) (by as_aux_lemma=>kernel_rfl) ?_)
    have hc0:Off (F + 1) w7 w7.drew:=(Off.refl _ _).drew
    have R4d:Rw 35 w7.drew (F + 1) #[.int .i64 0,.bool false,.slice none 0 0,.slice none 0 0,.slice none 0 0,.slice none 0 0,.slice none 0 0]:=R4c
    have hbd:Below F w w7.drew:=hb7F.drew
    generalize w7.drew = z0 at *
    have z0_:=(R4d.cell 0).trans (show _ = some (Value.int .i64 0) from rfl)
    have zf0:=R4d.frozen 0
    have z1_:=(R4d.cell 1).trans (show _ = some (Value.bool false) from rfl)
    have zf1:=R4d.frozen 1
    have z2_:=(R4d.cell 2).trans (show _ = some (Value.slice none 0 0) from rfl)
    have zf2:=R4d.frozen 2
    have z3_:=(R4d.cell 3).trans (show _ = some (Value.slice none 0 0) from rfl)
    have zf3:=R4d.frozen 3
    have z4_:=(R4d.cell 4).trans (show _ = some (Value.slice none 0 0) from rfl)
    have zf4:=R4d.frozen 4
    have z5_:=(R4d.cell 5).trans (show _ = some (Value.slice none 0 0) from rfl)
    have zf5:=R4d.frozen 5
    have z6_:=(R4d.cell 6).trans (show _ = some (Value.slice none 0 0) from rfl)
    have zf6:=R4d.frozen 6
    obtain ⟨R9,O9'⟩:=Rw.sevK (b0:=.int .i64 0) (b1:=.bool false) (b2:=.slice none 0 0) (b3:=.slice none 0 0) (b4:=.slice none 0 0) (b5:=.slice none 0 0) (b6:=.slice none 0 0) R4d
    have O9:=hc0.trans O9'
    clear R4c
    refine wpAnyG.tT 0 (v:=.agg #[.int .i64 0,.bool false,.slice none 0 0,.slice none 0 0,.slice none 0 0,.slice none 0 0,.slice none 0 0]) (by decide) 3 (by as_aux_lemma=>kernel_rfl) (by rfl) ?y0 (HEX _ hc0) ?_
    case y0 =>
     rintro w' q0
     simp only [lgA,lgZ]
     go_simp
    simp only [lgA,lgZ,Act.put,lsA,lsZ,lsS]
    refine wpAnyG.tT 1 (v:=ev) (by decide) 3 (by as_aux_lemma=>kernel_rfl) (by rfl) ?y1 (HEX _ hc0) ?_
    case y1 =>
     rintro w' q0
     simp only [lgA,lgZ,lgS]
     go_simp
    simp only [lgA,lgZ,lgS,Act.put,lsA,lsZ,lsS]
    refine wpAnyG.one 2 (by as_aux_lemma=>kernel_rfl) (by decide) (by rfl) (fun K hK=>?_)
    simp only [lgA,lgZ,lgS]
    go_simp
    refine hK _ _ ⟨fun _=>HEG _ O9,fun _=>trivial⟩ ?_
    clear hK K
    refine wpAnyG.one 3 (by as_aux_lemma=>kernel_rfl) (by decide) (by rfl) (fun K hK=>?_)
    simp only [lgA,lgZ,lgS]
    go_simp
    refine hK _ _ ⟨fun h=>absurd h (by decide),fun _=>trivial⟩ ?_
    clear hK K
    refine wpAnyG.done (by as_aux_lemma=>kernel_rfl) (NoPanic.normal ?_)
    clear HEX HEG
    go_wp2
    exact bodyPost_ret (R9.ret2 Tryz.results7 _ rfl Tryz.underlying35 certI2) rfl ⟨by rw [HFW.out];exact hbd.trans (O9'.below (by omega)),.inr ⟨.inr HXA.out,rfl⟩⟩
   ·obtain ⟨R,hR,hN⟩:∃ R,Lns (lnsW 3 P.vn (vnm P) P.rn (unm P)) (lnsK 3 P.vn P.rn) s.data.toList R nn []∧∀ t,t < nn→∀ k,k < lnsK 3 P.vn P.rn t→Num3 w7 F ((dst 3 P.vn C gx (C + 1) gz) t k).1 ((dst 3 P.vn C gx (C + 1) gz) t k).2 ((R t).getD k 0):=by
     rcases h7 with ⟨_,h⟩ | ⟨x,_⟩
     ·exact h
     ·cases x
    rw [← HNN2.out] at hR hN
    have HA:Hid (Ans 3 P.vn (vnm P) P.rn (unm P) s.data.toList R):=hR
    have HNx:Hid (NL w7 F (.slice (some ⟨gx,0,none⟩) P.vn P.vn) P.vn (xR 3 R)):=by
     obtain ⟨m1,cur,m2,m3⟩:=Mx
     obtain ⟨c7,m4,m5⟩:=f7.typ _ _ _ m2
     refine nl_of m1 (by omega) m4 (m5.trans m3) fun j hj=>?_
     have h1:=hN (hdV 3 + j) (var_lt (v:=3) hj) 0 (by rw [(var_W (v:=3) (vn:=P.vn) (rn:=P.rn) (V:=vnm P) (U:=unm P) (j:=j) hj).2];decide)
     rw [dst_var (v:=3) hj] at h1
     exact h1
    have HNz:Hid (NL w7 F (.slice (some ⟨gz,0,none⟩) P.vn P.vn) P.vn (zR 3 R)):=by
     obtain ⟨m1,cur,m2,m3⟩:=Mz
     obtain ⟨c7,m4,m5⟩:=f7.typ _ _ _ m2
     refine nl_of m1 (by omega) m4 (m5.trans m3) fun j hj=>?_
     have h1:=hN (hdV 3 + j) (var_lt (v:=3) hj) 1 (by rw [(var_W (v:=3) (vn:=P.vn) (rn:=P.rn) (V:=vnm P) (U:=unm P) (j:=j) hj).2];decide)
     rw [dst_var (v:=3) hj] at h1
     exact h1
    have hsm:∀ o,True→w7.cell? ⟨C,o,none⟩ = w6.cell? ⟨C,o,none⟩:=fun o _=>f7.same C R8.lt o (fun h=>absurd (mall_at h (by omega) (by omega) (by omega)).1 (by decide))
    have y0:=(hsm 0 trivial).trans ((R8.cell 0).trans (show _ = some (Value.int .i64 3) from rfl))
    have y1:=(hsm 1 trivial).trans ((R8.cell 1).trans (show _ = some (Value.bool false) from rfl))
    have y2:=(hsm 2 trivial).trans ((R8.cell 2).trans (show _ = some (Value.slice none 0 0) from rfl))
    have y3:=(hsm 3 trivial).trans ((R8.cell 3).trans (show _ = some (Value.slice none 0 0) from rfl))
    have y4:=(hsm 4 trivial).trans ((R8.cell 4).trans (show _ = some (Value.slice (some ⟨gx,0,none⟩) P.vn P.vn) from rfl))
    have y5:=(hsm 5 trivial).trans ((R8.cell 5).trans (show _ = some (Value.slice none 0 0) from rfl))
    have y6:=(hsm 6 trivial).trans ((R8.cell 6).trans (show _ = some (Value.slice (some ⟨gz,0,none⟩) P.vn P.vn) from rfl))
    have z0_:=(R4c.cell 0).trans (show _ = some (Value.int .i64 0) from rfl)
    have zf0:=R4c.frozen 0
    have z1_:=(R4c.cell 1).trans (show _ = some (Value.bool false) from rfl)
    have zf1:=R4c.frozen 1
    have z2_:=(R4c.cell 2).trans (show _ = some (Value.slice none 0 0) from rfl)
    have zf2:=R4c.frozen 2
    have z3_:=(R4c.cell 3).trans (show _ = some (Value.slice none 0 0) from rfl)
    have zf3:=R4c.frozen 3
    have z4_:=(R4c.cell 4).trans (show _ = some (Value.slice none 0 0) from rfl)
    have zf4:=R4c.frozen 4
    have z5_:=(R4c.cell 5).trans (show _ = some (Value.slice none 0 0) from rfl)
    have zf5:=R4c.frozen 5
    have z6_:=(R4c.cell 6).trans (show _ = some (Value.slice none 0 0) from rfl)
    have zf6:=R4c.frozen 6
    obtain ⟨R9,O9⟩:=Rw.sevK (b0:=.int .i64 3) (b1:=.bool false) (b2:=.slice none 0 0) (b3:=.slice none 0 0) (b4:=.slice (some ⟨gx,0,none⟩) P.vn P.vn) (b5:=.slice none 0 0) (b6:=.slice (some ⟨gz,0,none⟩) P.vn P.vn) R4c
    have kk:Kb F [35] w7 _:=kb_off R4c (by omega) O9
    have HCT:Hid (CtQ w7 F 3 P.vn P.rn R #[.int .i64 3,.bool false,.slice none 0 0,.slice none 0 0,.slice (some ⟨gx,0,none⟩) P.vn P.vn,.slice none 0 0,.slice (some ⟨gz,0,none⟩) P.vn P.vn]):=⟨_,_,_,_,_,_,_,_,_,_,_,_,_,rfl,.inr ⟨by decide,rfl,rfl,rfl,rfl,rfl,rfl,rfl⟩,HNx.out,NL.nil _ _ _,HNz.out⟩
    have HC9:=ctQ_kb HCT.out kk (by decide) (by decide)
    clear h7 hN hR hsm f7 R8 HCT HNx Mx HNz Mz
    go_wp2
    exact bodyPost_ret (R9.ret2 Tryz.results7 _ rfl Tryz.underlying35 certI2) rfl ⟨by rw [HFW.out];exact hb7F.trans (O9.below (by omega)),.inl ⟨3,R,_,by decide,by decide,HNW.out,HA.out,by rw [HFW.out];exact HC9,rfl⟩⟩
  ·have HWH:Hid (Whl19 P):=HBW.out.1 rfl
   have EF3:=HEV.out.below hb3w
   go_wp2_with fail
   have hEl:=World.block_lt_of_cell? _ _ EF3.1
   have HEX:∀ w',Off (F + 1) w3 w'→w'.cell? ⟨0,0,none⟩ = some (ev):=fun w' k=>(k.cell (p:=⟨0,0,none⟩) (by show 0 ≠ F + 1;have:=HEF.out;omega)).trans EF3.1
   have HEG:∀ w',Off (F + 1) w3 w'→w'.cell? ⟨0,0,none⟩ = some (ev):=HEX
   refine wp_region_noPanic (wp_region_guard (Till 3 3 (fun w'=>w'.cell? ⟨0,0,none⟩ = some (ev)) (fun _=>True)) (by as_aux_lemma=>kernel_rfl) ?_)
   have hc0:Off (F + 1) w3 w3.drew:=(Off.refl _ _).drew
   have R4d:Rw 35 w3.drew (F + 1) #[.int .i64 0,.bool false,.slice none 0 0,.slice none 0 0,.slice none 0 0,.slice none 0 0,.slice none 0 0]:=R4
   have hbd:Below F w w3.drew:=hb3.drew
   generalize w3.drew = z0 at *
   have z0_:=(R4d.cell 0).trans (show _ = some (Value.int .i64 0) from rfl)
   have zf0:=R4d.frozen 0
   have z1_:=(R4d.cell 1).trans (show _ = some (Value.bool false) from rfl)
   have zf1:=R4d.frozen 1
   have z2_:=(R4d.cell 2).trans (show _ = some (Value.slice none 0 0) from rfl)
   have zf2:=R4d.frozen 2
   have z3_:=(R4d.cell 3).trans (show _ = some (Value.slice none 0 0) from rfl)
   have zf3:=R4d.frozen 3
   have z4_:=(R4d.cell 4).trans (show _ = some (Value.slice none 0 0) from rfl)
   have zf4:=R4d.frozen 4
   have z5_:=(R4d.cell 5).trans (show _ = some (Value.slice none 0 0) from rfl)
   have zf5:=R4d.frozen 5
   have z6_:=(R4d.cell 6).trans (show _ = some (Value.slice none 0 0) from rfl)
   have zf6:=R4d.frozen 6
   obtain ⟨R9,O9'⟩:=Rw.sevK (b0:=.int .i64 0) (b1:=.bool false) (b2:=.slice none 0 0) (b3:=.slice none 0 0) (b4:=.slice none 0 0) (b5:=.slice none 0 0) (b6:=.slice none 0 0) R4d
   have O9:=hc0.trans O9'
   clear R4
   refine wpAnyG.tT 0 (v:=.agg #[.int .i64 0,.bool false,.slice none 0 0,.slice none 0 0,.slice none 0 0,.slice none 0 0,.slice none 0 0]) (by decide) 3 (by as_aux_lemma=>kernel_rfl) (by rfl) ?y0 (HEX _ hc0) ?_
   case y0 =>
    rintro w' q0
    simp only [lgA,lgZ]
    go_simp
   simp only [lgA,lgZ,Act.put,lsA,lsZ,lsS]
   refine wpAnyG.tT 1 (v:=ev) (by decide) 3 (by as_aux_lemma=>kernel_rfl) (by rfl) ?y1 (HEX _ hc0) ?_
   case y1 =>
    rintro w' q0
    simp only [lgA,lgZ,lgS]
    go_simp
   simp only [lgA,lgZ,lgS,Act.put,lsA,lsZ,lsS]
   refine wpAnyG.one 2 (by as_aux_lemma=>kernel_rfl) (by decide) (by rfl) (fun K hK=>?_)
   simp only [lgA,lgZ,lgS]
   go_simp
   refine hK _ _ ⟨fun _=>HEG _ O9,fun _=>trivial⟩ ?_
   clear hK K
   refine wpAnyG.one 3 (by as_aux_lemma=>kernel_rfl) (by decide) (by rfl) (fun K hK=>?_)
   simp only [lgA,lgZ,lgS]
   go_simp
   refine hK _ _ ⟨fun h=>absurd h (by decide),fun _=>trivial⟩ ?_
   clear hK K
   refine wpAnyG.done (by as_aux_lemma=>kernel_rfl) (NoPanic.normal ?_)
   clear HEX HEG
   go_wp2
   exact bodyPost_ret (R9.ret2 Tryz.results7 _ rfl Tryz.underlying35 certI2) rfl ⟨by rw [HFW.out];exact hbd.trans (O9'.below (by omega)),.inr ⟨.inl HWH.out,rfl⟩⟩
end Go.Proofs.YtnkpbjmfdfjeiaaGreatDoor

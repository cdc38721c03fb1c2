import Derived.Test.YtjiodidemimgmaaGreatDoorBoO
namespace Go.Proofs.YtjiodidemimgmaaGreatDoor
open Go.RowKit
def DrpP (w:World) (F:Nat) (f:Bf) (n:Nat) (X:Nat→RoD) (lc:List (Nat × Rat)) (S Sc:Nat) (i:Int) (ev0:Value) (e:Ending) (w':World):Prop :=
 thr X f.m i = false∧e = .returned ev0∧w' = w∨thr X f.m i = true∧e = .returned .nilIface∧BD w' F f n (upR X i.toNat { X i.toNat with bas:=-1 }) lc S Sc∧KF f.has f.has w w'
set_option maxRecDepth 100000 in
set_option maxHeartbeats 8000000 in
theorem dropB {F:Nat} {f:Bf} {n:Nat} {X:Nat→RoD} {lc:List (Nat × Rat)} {S Sc:Nat} {ev0:Value} (i:Int) (w:World) (h:BD w F f n X lc S Sc) (E0:Errs w 0 ev0):Calls Tryz.prog 25 #[.pointer (some ⟨f.b,0,none⟩),.int .i64 i] w fun e w'=>DrpP w F f n X lc S Sc i ev0 e w':=by
 cases ht:thr X f.m i with
 | false =>
  have HP:DrpP w F f n X lc S Sc i ev0 (.returned ev0) w:=.inl ⟨ht,rfl,rfl⟩
  have HE0:=E0.1
  go_enter Tryz.func25,Tryz.ntmps25
  go_wp2_with fail
  refine (isThereB i w h).mono ?_
  rintro e w1 ⟨rfl,rfl⟩
  rw [ht]
  go_wp2
  go_ret
  exact HP
 | true =>
  have hr:0≤i∧i < (f.m:Int):=by
   unfold thr at ht
   simp only [Bool.and_eq_true,decide_eq_true_eq] at ht
   exact ht.1
  obtain ⟨k,rfl⟩:=Int.eq_ofNat_of_zero_le hr.1
  have hk:k < f.m:=by omega
  obtain ⟨rg,rc,p0,a0,n0,c0,d0,m0,e0,erv,_,_,_,_,y4,_,_⟩:=h.get hk
  obtain ⟨BN,O⟩:=h.putB erv hk (-1) ⟨by omega,by omega⟩
  have KN:KF f.has f.has w _:=off_kf (C':=f.has) (Below.refl _ _) O (.inr (.inl (by rw [erv];rfl))) (fun k hk=>.inl hk)
  have HP:DrpP w F f n X lc S Sc (k:Int) ev0 (.returned .nilIface) (w.setCell ⟨rg,k * 6 + 4,none⟩ (.int .i64 (-1))):=.inr ⟨ht,rfl,by rw [Int.toNat_natCast];exact BN,KN⟩
  obtain ⟨E,s1,_⟩:=id h.r
  obtain ⟨cur,hcur⟩:=s1.typ (g:=rg) (by rw [erv];rfl)
  have f4:=frozen_of_row w rg (k * 6 + 4) cur 67 hcur
  obtain ⟨m,em⟩:∃ m,m = f.m:=⟨_,rfl⟩
  have x1:=(h.rw.cell 1).trans (show _ = some f.rv from rfl)
  rw [erv,← em] at x1
  have hkI:(k:Int) < (m:Int):=by omega
  have hk0:¬ (k:Int) < 0:=by omega
  have hk6:(k:Int) * 6 = ((k * 6:Nat):Int):=by omega
  clear BN O KN s1 hcur em
  go_enter Tryz.func25,Tryz.ntmps25
  go_wp2_with fail
  refine (isThereB (k:Int) w h).mono ?_
  rintro e w1 ⟨rfl,rfl⟩
  rw [ht]
  clear ht h
  go_wp2
  go_ret
  exact HP
theorem BD.costs {w w':World} {F:Nat} {f:Bf} {n:Nat} {X:Nat→RoD} {lc:List (Nat × Rat)} {S Sc:Nat} (h:BD w F f n X lc S Sc) (hg:w.grownBy w' f.cv.ownBlock) {v':Value} {lc':List (Nat × Rat)} {Sc':Nat} (hl:LnE w' F v' lc' Sc') (hr:Rise lc'∧Blw lc' (n + f.m)) (hv:∀ g,v'.ownBlock = some g→f.cv.ownBlock = some g∨w.heap.size≤g) :
  BD (w'.setCell ⟨f.b,2,none⟩ v') F { f with cv:=v' } n X lc' S Sc'∧KF f.has ({ f with cv:=v' }:Bf).has w (w'.setCell ⟨f.b,2,none⟩ v'):=by
 obtain ⟨D,s1,_⟩:=h.c
 have hn:=s1.noW (show 97 ≠ 85 by decide)
 obtain ⟨E,h1,h2⟩:=h.r
 have hb':Rw 70 w' f.b #[.int .i64 (n:Nat),f.rv,f.cv]:=h.rw.kept hg (s1.neR h.rw (by decide))
 obtain ⟨hb2,O⟩:=hb'.setK 2 v'
 have hnb:NoW w' (some f.b):=hb'.noW (by decide)
 have neT:∀ (T:TypeId),T ≠ 70→∀ (c:Nat) (u:Value) (k:Nat) (E:Nat→List Value),SL w' F T c u k E→SL (w'.setCell ⟨f.b,2,none⟩ v') F T c u k E:=fun T hT c u k E hs=>hs.kept O.grown (fun g e e2=>by cases e2;exact hs.neR hb' hT e)
 have keepL:∀ (u:Value) (l:List (Nat × Rat)) (T:Nat),LnE w' F u l T→LnE (w'.setCell ⟨f.b,2,none⟩ v') F u l T:=fun u l T hu=>by
  obtain ⟨D',t1,t2⟩:=hu
  exact ⟨D',neT _ (by decide) _ _ _ _ t1,fun i e he=>(t2 i e he).keep hnb O.grown⟩
 refine ⟨⟨hb2,⟨E,neT _ (by decide) _ _ _ _ (h1.kept hg (fun g e e2=>h1.ne2 s1 (by decide) g e e2)),fun q hq=>((h2 q hq).keep hn hg).keep hnb O.grown⟩,fun q hq=>?_,keepL _ _ _ hl,h.ne,fun i hi g e e2=>?_,h.lo,h.k,hr⟩,?_⟩
 ·obtain ⟨D',t1,t2⟩:=h.t q hq
  exact keepL _ _ _ ⟨D',t1.kept hg (fun g e1 e2=>h.nc q hq g e1 e2),fun j x hx=>(t2 j x hx).keep hn hg⟩
 ·rcases hv g e2 with h3 | h3
  ·exact h.nc i hi g e h3
  ·have:=((h.t i hi).lt g e).2
   omega
 ·refine KF.of2 hg O (fun g e=>.inr (.inr (.inl e))) (.inl rfl) (fun k hk=>?_)
  rcases hk with e | e | e | e
  ·exact .inl (.inl e)
  ·exact .inl (.inr (.inl e))
  ·rcases hv k e with h3 | h3
   ·exact .inl (.inr (.inr (.inl h3)))
   ·exact .inr h3
  ·exact .inl (.inr (.inr (.inr e)))
def lco (Y:Nat→Rat):Nat→List (Nat × Rat)
 | 0=>[]
 | k + 1=>lwith (lco Y k) k (Y k)
theorem lco_ok (Y:Nat→Rat):∀ k,Rise (lco Y k)∧Blw (lco Y k) k
 | 0=>⟨fun _ _ _ _ h=>by simp [lco] at h,fun e he=>by simp [lco] at he⟩
 | k + 1=>⟨rise_lwith (lco_ok Y k).1 (lco_ok Y k).2 _,(lco_ok Y k).2.lwith _ (by omega)⟩
theorem lco_lat (Y:Nat→Rat) (c:Nat):∀ k,lat (lco Y k) c = if c < k then Y c else 0
 | 0=>by simp [lco,lat_nil]
 | k + 1=>by
  show lat (lwith (lco Y k) k (Y k)) c = _
  rw [lat_lwith (lco_ok Y k).2,lco_lat Y c k]
  by_cases h:k = c
  ·subst h;rw [if_pos rfl,if_pos (by omega)]
  ·rw [if_neg h]
   by_cases h2:c < k
   ·rw [if_pos h2,if_pos (by omega)]
   ·rw [if_neg h2,if_neg (by omega)]
def CstP (w:World) (F:Nat) (f:Bf) (n:Nat) (X:Nat→RoD) (lc:List (Nat × Rat)) (S Sc:Nat) (e:Ending) (w':World):Prop:=e = .returned (.tuple #[])∧∃ cv,BD w' F { f with cv:=cv } n X lc S Sc∧KF f.has ({ f with cv:=cv }:Bf).has w w'
set_option maxRecDepth 100000 in
set_option maxHeartbeats 8000000 in
theorem costB {F:Nat} {f:Bf} {n:Nat} {X:Nat→RoD} {lc:List (Nat × Rat)} {S Sc:Nat} {Sc':Nat} {ga:Option Addr} {gn gc:Nat} {Y:Nat→Rat} (w:World) (h:BD w F f n X lc S Sc) (hL:∀ C' w',KF f.has C' w w'→LQ w' ga gn Y (fun _=>Sc')) (hcc:gn≤gc) (hSc:1≤Sc'∧Sc'≤6000000) (hN:n + f.m≤3000000) (hcn:gn≤3000000) (hT:TB w) (hTF:4 < F) (hF:F≤w.heap.size) :
  Calls Tryz.prog 17 #[.pointer (some ⟨f.b,0,none⟩),.slice ga gn gc] w fun e w'=>CstP w F f n X (lco Y (min gn (n + f.m))) S Sc' e w':=by
 have hb2:=h.rw
 obtain ⟨B0,K0⟩:=h.costs (grown_refl w _) (LnE.nil w F Sc') ⟨(lco_ok Y 0).1,fun e he=>by simp at he⟩ (fun g e=>by cases e)
 have x2:=(h.rw.cell 2).trans (show _ = some f.cv from rfl)
 have f2:=h.rw.frozen 2
 have hDn:=h.noU
 have hDl:=h.lt
 obtain ⟨k,ek⟩:∃ k,k = min gn (n + f.m):=⟨_,rfl⟩
 rw [← ek]
 obtain ⟨N,eN⟩:∃ N,N = n + f.m:=⟨_,rfl⟩
 have HNN:Hid (N = n + f.m):=eN
 have hkI:min (gn:Int) (N:Int) = (k:Int):=by omega
 have hkc:k≤gn:=by omega
 have hkN:k≤n + f.m:=by omega
 have HL:Hid (∀ C' w',KF f.has C' w w'→LQ w' ga gn Y (fun _=>Sc')):=hL
 clear hL ek eN
 go_enter Tryz.func17,Tryz.ntmps17
 go_wp2_with fail
 generalize w.setCell ⟨f.b,2,none⟩ (.slice none 0 0) = W0 at *
 refine (colsB W0 B0 hN).mono ?_
 rintro e W1 ⟨rfl,hb1⟩
 rw [show n + ({ f with cv:=.slice none 0 0 }:Bf).m = N from HNN.out.symm]
 replace B0:=B0.below hb1
 replace K0:=K0.bel hb1
 have hkcI:(k:Int)≤(gc:Int):=by omega
 have hk0:(0:Int)≤(k:Int):=by omega
 clear x2 f2 hb2 hb1
 go_wp2
 go_loopw [17] (fun sq wr=>∃ (j:Nat) (cv:Value),j≤k∧sq = .int .i64 j∧BD wr F { f with cv:=cv } n X (lco Y j) S Sc'∧KF f.has ({ f with cv:=cv }:Bf).has w wr) (fun x _=>k - (intOf x).toNat)
 case atStart=>exact ⟨0,_,Nat.zero_le _,rfl,B0,K0⟩
 case round =>
  clear B0 K0
  obtain ⟨j,cv,hj,rfl,BQ,KQ⟩:=hrel
  by_cases hlt:j < k
  ·have hjI:(j:Int) < (k:Int):=by omega
   have hj0:¬ (j:Int) < 0:=by omega
   have hj3:(j:Int) * 3 = ((j * 3:Nat):Int):=by omega
   have hbw:Below F w wr:=KQ.below (fun k hk=>(hDl k hk).1) hF
   have hFw:F≤wr.heap.size:=by have:=hbw.size;omega
   have hTw:=hT.bF hTF hbw
   rcases HL.out _ wr KQ with h0 | ⟨eb,eo,ega,hel⟩
   ·omega
   obtain ⟨p,a,na,ca,d,nd,cd,c0,c1,c2,hr⟩:=hel j (by omega)
   obtain ⟨ua,uc,ecv,_⟩:=BQ.c.form
   obtain ⟨um,eum⟩:∃ um,um = (lco Y j).length:=⟨_,rfl⟩
   have HUM:Hid (um = (lco Y j).length):=eum
   have hum:um≤3000000:=by rw [eum];have:=(lco_ok Y j).1.len j (lco_ok Y j).2;omega
   have ecv':cv = .slice ua um uc:=by rw [eum];exact ecv
   subst ecv'
   have HGA:Hid (ga = some ⟨eb,eo,none⟩):=ega
   have hz:=bel_d0 wr (.cells #[.bool p,.slice a na ca,.slice d nd cd] 29)
   have BX:=box_new wr #[.bool p,.slice a na ca,.slice d nd cd] 29
   have hsW:(wr.alloc (.cells #[.bool p,.slice a na ca,.slice d nd cd] 29)).heap.size = wr.heap.size + 1:=by simp
   have BW:=BQ.below hz
   have LC:LnE _ F (.slice ua um uc) (lco Y j) Sc':=BW.c
   have G:=hr.below hz
   have hTq:=hTw.below hz
   have xb:=(BW.rw.cell 2).trans (show _ = some (.slice ua um uc) from rfl)
   have xb':(wr.alloc (.cells #[.bool p,.slice a na ca,.slice d nd cd] 29)).cell? ⟨f.b,2,none⟩ = some (.slice ua um uc):=xb
   have hbU:(.slice ua um uc:Value).ownBlock ≠ some f.b:=fun e=>by
    obtain ⟨D,t1,_⟩:=LC
    exact t1.neR BW.rw (by decide) e
   have hbl:f.b < wr.heap.size:=BQ.rw.lt
   have hbV:(.slice ua um uc:Value).ownBlock ≠ some wr.heap.size:=fun e=>by have:=(BQ.c.lt _ e).2;omega
   clear xb eum ecv hel hr
   go_wp2_with fail
   clear c0 c1 c2
   generalize wr.alloc (.cells #[.bool p,.slice a na ca,.slice d nd cd] 29) = W2 at *
   have HBX:∀ w',Below W2.heap.size W2 w'→(w'.cell? ⟨f.b,2,none⟩ = some (.slice ua um uc)∧w'.cell? ⟨wr.heap.size,0,none⟩ = some (.bool p)∧w'.cell? ⟨wr.heap.size,1,none⟩ = some (.slice a na ca)∧w'.cell? ⟨wr.heap.size,2,none⟩ = some (.slice d nd cd)):=fun w' h=>⟨kept_c h xb',kept_c h (BX 0 _ rfl),kept_c h (BX 1 _ rfl),kept_c h (BX 2 _ rfl)⟩
   refine wp_region_noPanic (wp_region_guardT 11 HBX (by as_aux_lemma=>kernel_rfl) ?_)
   have hc0:Below W2.heap.size W2 W2.drew:=bel_d1 _
   generalize W2.drew = z0 at *
   refine wpAnyG.tT 0 (v:=.pointer (some ⟨f.b,0,none⟩)) (by decide) 11 (by as_aux_lemma=>kernel_rfl) (by rfl) ?y0 (HBX _ hc0) ?_
   case y0 =>
    rintro w' ⟨q0,q1,q2,q3⟩
    simp only [lgA,lgZ]
    go_simp
   simp only [lgA,lgZ,Act.put,lsA,lsZ,lsS]
   refine wpAnyG.tT 1 (v:=.pointer (some ⟨f.b,0,none⟩)) (by decide) 11 (by as_aux_lemma=>kernel_rfl) (by rfl) ?y1 (HBX _ hc0) ?_
   case y1 =>
    rintro w' ⟨q0,q1,q2,q3⟩
    simp only [lgA,lgZ,lgS]
    go_simp
   simp only [lgA,lgZ,lgS,Act.put,lsA,lsZ,lsS]
   refine wpAnyG.tT 2 (v:=.pointer (some ⟨f.b,0,none⟩)) (by decide) 11 (by as_aux_lemma=>kernel_rfl) (by rfl) ?y2 (HBX _ hc0) ?_
   case y2 =>
    rintro w' ⟨q0,q1,q2,q3⟩
    simp only [lgA,lgZ,lgS]
    go_simp
   simp only [lgA,lgZ,lgS,Act.put,lsA,lsZ,lsS]
   refine wpAnyG.tT 3 (v:=.pointer (some ⟨f.b,2,none⟩)) (by decide) 11 (by as_aux_lemma=>kernel_rfl) (by rfl) ?y3 (HBX _ hc0) ?_
   case y3 =>
    rintro w' ⟨q0,q1,q2,q3⟩
    simp only [lgA,lgZ,lgS]
    go_simp
   simp only [lgA,lgZ,lgS,Act.put,lsA,lsZ,lsS]
   refine wpAnyG.tT 4 (v:=.slice ua um uc) (by decide) 11 (by as_aux_lemma=>kernel_rfl) (by rfl) ?y4 (HBX _ hc0) ?_
   case y4 =>
    rintro w' ⟨q0,q1,q2,q3⟩
    simp only [lgA,lgZ,lgS]
    go_simp
   simp only [lgA,lgZ,lgS,Act.put,lsA,lsZ,lsS]
   refine wpAnyG.tT 5 (v:=.int .i64 (j:Nat)) (by decide) 11 (by as_aux_lemma=>kernel_rfl) (by rfl) ?y5 (HBX _ hc0) ?_
   case y5 =>
    rintro w' ⟨q0,q1,q2,q3⟩
    simp only [lgA,lgZ,lgS]
    go_simp
   simp only [lgA,lgZ,lgS,Act.put,lsA,lsZ,lsS]
   refine wpAnyG.tT 6 (v:=.agg #[.bool p,.slice a na ca,.slice d nd cd]) (by decide) 11 (by as_aux_lemma=>kernel_rfl) (by rfl) ?y6 (HBX _ hc0) ?_
   case y6 =>
    rintro w' ⟨q0,q1,q2,q3⟩
    simp only [lgA,lgZ,lgS]
    go_simp
   simp only [lgA,lgZ,lgS,Act.put,lsA,lsZ,lsS]
   refine wpAnyG.one 7 (by as_aux_lemma=>kernel_rfl) (by decide) (by rfl) (fun K hK=>?_)
   simp only [lgA,lgZ,lgS]
   go_simp
   refine (normR z0 (G.below hc0) (by omega) hSc.1 (hTq.below hc0)).mono ?_
   rintro e z1 ⟨g2,u2,i2,j2,o2,t2,x2,rfl,G2,hk1⟩
   have hc1:Below W2.heap.size W2 z1:=bel_tr hc0 hk1
   have L1:=LC.below hc1
   dsimp only
   refine hK _ _ ⟨fun _=>HBX _ hc1,fun _=>trivial⟩ ?_
   clear hK K
   refine wpAnyG.one 8 (by as_aux_lemma=>kernel_rfl) (by decide) (by rfl) (fun K hK=>?_)
   simp only [lgA,lgZ,lgS]
   go_simp
   refine (withB j z1 L1 (by have:=Below.size hc1;omega) (G2.mono (Nat.zero_le _)) ⟨hSc.1,by omega⟩ (by rw [← HUM.out];omega)).mono ?_
   rintro e z2 ⟨v9,rfl,L9,hg9,ho9⟩
   have hx9:=World.cell?_of_block (w:=z1) (a:=⟨f.b,2,none⟩) (hg9.block f.b (by have:=hc1.size;omega) (fun e=>hbU e.symm))
   have hy9:=hx9.trans (HBX _ hc1).1
   clear hx9
   have eb2:=hg9.block wr.heap.size (by have:=hc1.size;omega) (fun e=>hbV e.symm)
   obtain ⟨ya,yn,yc,rfl⟩:∃ ya yn yc,v9 = Value.slice ya yn yc:=by obtain ⟨q1,q2,e,_⟩:=L9.form;exact ⟨_,_,_,e⟩
   dsimp only
   refine hK _ _ ⟨fun _=>⟨hy9,(World.cell?_of_block (w:=z1) eb2).trans (HBX _ hc1).2.1,(World.cell?_of_block (w:=z1) eb2).trans (HBX _ hc1).2.2.1,(World.cell?_of_block (w:=z1) eb2).trans (HBX _ hc1).2.2.2⟩,fun _=>trivial⟩ ?_
   clear hK K
   refine wpAnyG.one 9 (by as_aux_lemma=>kernel_rfl) (by decide) (by rfl) (fun K hK=>?_)
   simp only [lgA,lgZ,lgS]
   go_simp
   refine hK _ _ ⟨fun _=>⟨hy9,(World.cell?_of_block (w:=z1) eb2).trans (HBX _ hc1).2.1,(World.cell?_of_block (w:=z1) eb2).trans (HBX _ hc1).2.2.1,(World.cell?_of_block (w:=z1) eb2).trans (HBX _ hc1).2.2.2⟩,fun _=>trivial⟩ ?_
   clear hK K
   refine wpAnyG.take 10 (v:=.pointer (some ⟨f.b,2,none⟩)) (by decide) (by as_aux_lemma=>kernel_rfl) (fun _ _ _ h=>h) 11 _ (by rfl) (till_ind (by decide) (by decide)) (fun L w' h1 h2=>h2.1 h1) (by as_aux_lemma=>kernel_rfl) (by as_aux_lemma=>kernel_rfl) (by as_aux_lemma=>kernel_rfl) (by rfl) ?y10 ⟨fun _=>⟨hy9,(World.cell?_of_block (w:=z1) eb2).trans (HBX _ hc1).2.1,(World.cell?_of_block (w:=z1) eb2).trans (HBX _ hc1).2.2.1,(World.cell?_of_block (w:=z1) eb2).trans (HBX _ hc1).2.2.2⟩,fun _=>trivial⟩ (by rfl) ?_
   case y10 =>
    rintro w' ⟨q0,q1,q2,q3⟩
    simp only [lgA,lgZ,lgS]
    go_simp
   simp only [lgA,lgZ,lgS,Act.put,lsA,lsZ,lsS]
   refine wpAnyG.one 11 (by as_aux_lemma=>kernel_rfl) (by decide) (by rfl) (fun K hK=>?_)
   simp only [lgA,lgZ,lgS]
   have k1:=hy9
   have RZ:=(BW.below hc1).rw.kept hg9 (fun e=>hbU e)
   have f1:z2.frozen? ⟨f.b,2,none⟩ = false:=RZ.frozen 2
   go_simp
   refine hK _ _ ⟨fun h=>absurd h (by decide),fun _=>trivial⟩ ?_
   clear hK K
   refine wpAnyG.done (by as_aux_lemma=>kernel_rfl) (NoPanic.normal ?_)
   obtain ⟨BN,KN⟩:=(BW.below hc1).costs hg9 L9 ⟨rise_lwith (lco_ok Y j).1 (lco_ok Y j).2 _,blw_lwithN (fun e he=>by have:=(lco_ok Y j).2 e he;show e.1 < n + f.m;omega) (show j < n + f.m by omega) _⟩ ho9
   have KM:=((KQ.bel hz).bel hc1).trans KN
   have BM:BD (z2.setCell ⟨f.b,2,none⟩ (.slice ya yn yc)) F { f with cv:=.slice ya yn yc } n X (lco Y (j + 1)) S Sc':=BN
   clear HBX BW BQ KQ BN KN LC L1 L9 hg9 ho9 hy9 eb2 hc0 hc1 hk1 G G2 RZ k1 f1 hTq xb' BX hz
   try rw [← HGA.out]
   go_wp2
   go_roundw
   case rel=>first | exact ⟨j + 1,_,by omega,by go_num,BM,KM⟩ | ((repeat apply Exists.intro);refine ⟨?_,rfl⟩;exact ⟨j + 1,_,by omega,by go_num,BM,KM⟩)
   case measure=>simp [intOf];omega
  ·have hjI:¬ (j:Int) < (k:Int):=by omega
   obtain rfl:j = k:=by omega
   have HP:CstP w F f n X (lco Y j) S Sc' (.returned (.tuple #[])) wr:=⟨rfl,cv,BQ,KQ⟩
   clear BQ KQ
   go_wp2
   go_end0
   exact HP
end Go.Proofs.YtjiodidemimgmaaGreatDoor

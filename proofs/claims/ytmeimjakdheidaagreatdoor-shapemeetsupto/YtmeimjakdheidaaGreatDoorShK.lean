import Derived.Test.YtmeimjakdheidaaGreatDoorShJ
import Derived.Test.YtmeimjakdheidaaGreatDoorShK0
namespace Go.Proofs.YtmeimjakdheidaaGreatDoor
open Go.RowKit
theorem StQ.kxl {w w':World} {R F:Nat} {L:List TypeId} {V:Nat→PV} {n S:Nat} {v:Value} (h:StQ w R F V n S v) (k:Kx R F L w w') (hL:118 ∉ L) (hL4:70 ∉ L):StQ w' R F V n S v:=by
 obtain ⟨E,h1,h2⟩:=h
 exact ⟨E,h1.kxh k hL4,fun i hi=>(h2 i hi).kxl k hL⟩
theorem K3.kx {w w':World} {R F:Nat} {L:List TypeId} {k1 k2 k3:Value} {r:Rat} {T:Nat} (h:K3 w k1 k2 k3 r T) (k:Kx R F L w w') (hL:118 ∉ L):K3 w' k1 k2 k3 r T:=by
 obtain ⟨f,c,n,k',c',n',k'',e1,e2,e3,g⟩:=h
 exact ⟨f,c,n,k',c',n',k'',e1,e2,e3,g.kx k hL⟩
theorem TO.off {w w':World} {B R:Nat} {P:Prob} {v:Value} {cs:Array Value} (h:TO w B P v) (hr:Rw 31 w R cs) (ho:Off R w w') (hR:R<B):TO w' B P v:=by
 obtain ⟨f,c,n,k,c',n',k',va,vc,ra,rc,E,F,e,g,s1,s2,s3,s4⟩:=h
 have hg:=ho.grown
 have nw:NoW w (some R):=hr.noW (by decide)
 have nt:NoT w (some R):=hr.noT (by decide)
 refine ⟨f,c,n,k,c',n',k',va,vc,ra,rc,E,F,e,g.keep nw hg,s1.kept hg (fun g e1 e2=>?_),fun q hq=>(s2 q hq).keep nw hg,s3.kept hg (fun g e1 e2=>?_),fun q hq=>(s4 q hq).keep nw nt hg⟩
 ·cases e2
  have:=(s1.lt _ e1).1
  omega
 ·cases e2
  have:=(s3.lt _ e1).1
  omega
theorem SL.weak {w:World} {B:Nat} {T:TypeId} {c:Nat} {v:Value} {n:Nat} {E:Nat→List Value} (h:SL w B T c v n E):SL w B T c v n (fun _=>[]):=by
 obtain ⟨vs,h1,_⟩:=h
 exact ⟨vs,h1,fun i hi j u hu=>by simp at hu⟩
theorem RL.at {w:World} {B:Nat} {a:Option Addr} {m n cap:Nat} {X:Nat→Rat} {S:Nat} (h:RL w B (.slice a m cap) n X S) {i:Nat} (hi:i<n):∃ g p a' na ca d nd cd,a=some ⟨g,0,none⟩∧w.cell? ⟨g,i*3,none⟩=some (.bool p)∧w.cell? ⟨g,i*3+1,none⟩=some (.slice a' na ca)∧w.cell? ⟨g,i*3+2,none⟩=some (.slice d nd cd)∧GR w 0 p a' na ca d nd cd (X i) S:=by
 obtain ⟨vs,h1,h2⟩:=h
 obtain ⟨p,a',na,ca,d,nd,cd,g1,g2,g3,g4⟩:=h2 i hi
 rcases h1.2 with ⟨_,e2⟩|⟨g,cap',cur,e1,_,hg,_,_,_,ht⟩
 ·omega
 ·simp only [Value.slice.injEq] at e1
  exact ⟨g,p,a',na,ca,d,nd,cd,e1.1,fQ hg ht g1,fQ hg ht g2,fQ hg ht g3,g4.mono (Nat.zero_le _)⟩
theorem RLcap {w:World} {B:Nat} {a:Option Addr} {m n cap:Nat} {X:Nat→Rat} {S:Nat} (h:RL w B (.slice a m cap) n X S):n≤cap:=by
 obtain ⟨vs,h1,h2⟩:=h
 rcases h1.2 with ⟨e1,e2⟩|⟨g,cap',cur,e1,_,hg,hc,_⟩
 ·omega
 ·simp only [Value.slice.injEq] at e1
  omega
theorem infInt1:Inf 3 1 8:=kH (by kernel_rfl)
def SHP (w:World) (R:Nat) (Q:Prob):Prop :=
 ∃ F sa sc csv k1 k2 k3 ev c fv,R<F∧Rw 61 w R #[.slice sa Q.vn sc,csv,k1,k2,k3,ev,.int .i64 (c:Nat),fv]∧StQ w R F Q.V Q.vn (2*Q.K+3) (.slice sa Q.vn sc)∧TM w F csv (tC Q.V (fun q=>sgn Q.mx (Q.V q).obj) Q.vn) (2*Q.K+3)∧K3 w k1 k2 k3 (sgn Q.mx (bJ (prt Q.k Q.V (fun j=>vbs (Q.V j))) (Q.vn+1))) (2*Q.K+3)∧EM w F ev (aZ Q.V (bC Q.V Q.R (fun i=>cv (Q.R i) (fun j=>vbs (Q.V j)) Q.vn) Q.vn Q.rn) Q.vn).1 (2*Q.K+3)∧c=(aZ Q.V (bC Q.V Q.R (fun i=>cv (Q.R i) (fun j=>vbs (Q.V j)) Q.vn) Q.vn Q.rn) Q.vn).2
theorem SHP.below {w w':World} {R:Nat} {Q:Prob} (h:SHP w R Q) (hb:Below w.heap.size w w'):SHP w' R Q:=by
 obtain ⟨F,sa,sc,csv,k1,k2,k3,ev,c,fv,h0,h1,h2,h3,h4,h5,h6⟩:=h
 have k:=dU (R:=0) (F:=0) (L:=[]) hb (Nat.zero_le _)
 exact ⟨F,sa,sc,csv,k1,k2,k3,ev,c,fv,h0,h1.below hb,h2.below hb,h3.below hb,h4.kx k (by simp),h5.kx k (by simp) (by simp) (by simp),h6⟩
theorem xB (V:Nat→PV) (r:PW) (st:Rat) (c:Nat):(dD V r st c).1.length≤2∧(dD V r st c).2≤c+2:=by
 unfold dD
 split
 ·split
  ·split <;> simp
  ·simp
 ·split <;> simp
theorem lQ (V:Nat→PV) (R:Nat→PW) (st:Nat→Rat) (n:Nat):∀ i,(bC V R st n i).1.length≤2*i∧(bC V R st n i).2≤2*n+2*i
 | 0=>⟨Nat.le_refl _,sZ V n⟩
 | i+1=>by
  obtain ⟨h1,h2⟩:=lQ V R st n i
  obtain ⟨h3,h4⟩:=xB V (R i) (st i) (bC V R st n i).2
  show ((bC V R st n i).1++(dD V (R i) (st i) (bC V R st n i).2).1).length≤_∧(dD V (R i) (st i) (bC V R st n i).2).2≤_
  rw [List.length_append]
  omega
theorem tV (V:Nat→PV) (A:List Eqn × Nat):∀ j,(aZ V A j).1.length≤A.1.length+j∧(aZ V A j).2≤A.2+j
 | 0=>⟨Nat.le_refl _,Nat.le_refl _⟩
 | j+1=>by
  obtain ⟨h1,h2⟩:=tV V A j
  unfold aZ
  split
  ·simp
   omega
  ·omega
theorem StQ.at2 {w:World} {R F:Nat} {V:Nat→PV} {n S:Nat} {g:Nat} {sa:Option Addr} {m sc:Nat} (h:StQ w R F V n S (.slice sa m sc)) {i:Nat} (hi:i<n) (hsa:sa=some ⟨g,0,none⟩):w.cell? ⟨g,i*5,none⟩=some (.int .i64 (clm V i:Nat)):=by
 obtain ⟨g',c0,_,_,_,_,e,_,e0,_,h0,_⟩:=h.at hi
 rw [hsa] at e
 simp only [Option.some.injEq,Addr.mk.injEq] at e
 rw [e.1,h0,e0]
theorem tX {B:Nat} {a b c:World} (h:Below B a b) (k:Below b.heap.size b c) (hB:B≤b.heap.size:=by omega):Below B a c:=h.trans (k.mono hB)
theorem PQ.sum_pre {w:World} {Q:Prob} (hP:PQ w Q) (hK:Q.K≤1048576):∃ D,0<D∧D<pw (tot Q.ZV Q.vn)∧(0:Int)≤pw (tot Q.ZV Q.vn)∧pw (tot Q.ZV Q.vn)<pw (tot Q.ZV Q.vn+1)∧(∀ j,j<Q.vn→Ov D (pw (tot Q.ZV Q.vn)) (vbs (Q.V j)))∧∀ k,k≤Q.vn+1→SzR (bJ (prt Q.k Q.V (fun j=>vbs (Q.V j))) k) (2*Q.K+3):=by
 obtain ⟨D,h1,h2,h3⟩:=hP.bases
 have hall:=hP.all
 refine ⟨D,h1,h2,Int.le_of_lt (bG _),pw_lt1 _,fun j hj=>?_,fun k hk=>(hP.val_szX h1 h2 h3 hK k hk).le (by omega)⟩
 obtain ⟨a,b,m,e1,e2⟩:=h3 j hj
 refine ⟨m,e1,?_⟩
 have:pw (tot Q.ZV Q.vn)*1≤pw (tot Q.ZV Q.vn)*D:=Int.mul_le_mul_of_nonneg_left (by omega) (Int.le_of_lt (bG _))
 omega
set_option maxRecDepth 100000 in
set_option maxHeartbeats 32000000 in
theorem shapeQ (P:Prob) (w:World) (hP:PQ w P) (hKP:P.K≤1048576) (hT:TB w) :
 Calls Tryz.prog 6 #[P.val] w fun e w'=>∃ R,e = .returned (.pointer (some ⟨R,0,none⟩))∧∃ Q,Tid P Q∧PQ w' Q∧SHP w' R Q∧Below w.heap.size w w':=by
 have RP0:=Rw.new 31 w #[.bool P.mx,.string P.nm,.bool P.p,.slice P.a P.na P.ca,.slice P.d P.nd P.cd,.slice P.va P.vn P.vc,.slice P.ra P.rn P.rc]
 have Pb0:=aQ w #[.bool P.mx,.string P.nm,.bool P.p,.slice P.a P.na P.ca,.slice P.d P.nd P.cd,.slice P.va P.vn P.vc,.slice P.ra P.rn P.rc] 31
 have hb0:=aI w (.cells #[.bool P.mx,.string P.nm,.bool P.p,.slice P.a P.na P.ca,.slice P.d P.nd P.cd,.slice P.va P.vn P.vc,.slice P.ra P.rn P.rc] 31)
 have hs0:(w.alloc (.cells #[.bool P.mx,.string P.nm,.bool P.p,.slice P.a P.na P.ca,.slice P.d P.nd P.cd,.slice P.va P.vn P.vc,.slice P.ra P.rn P.rc] 31)).heap.size=w.heap.size+1:=by simp
 have x0:=Pb0 0 _ rfl;have x1:=Pb0 1 _ rfl;have x2:=Pb0 2 _ rfl;have x3:=Pb0 3 _ rfl;have x4:=Pb0 4 _ rfl;have x5:=Pb0 5 _ rfl;have x6:=Pb0 6 _ rfl
 unfold Prob.val
 go_enter Tryz.func6,Tryz.ntmps6
 go_wp2_with fail
 clear x0 x1 x2 x3 x4 x5 x6 Pb0
 generalize w.alloc (.cells #[.bool P.mx,.string P.nm,.bool P.p,.slice P.a P.na P.ca,.slice P.d P.nd P.cd,.slice P.va P.vn P.vc,.slice P.ra P.rn P.rc] 31)=W0 at *
 have HTD:=tidyQ P W0 (hP.below hb0) hKP (hT.below hb0)
 unfold Prob.val at HTD
 refine HTD.mono ?_
 clear HTD
 rintro e w1 ⟨v,rfl,TOv,hk1⟩
 have RP1:=RP0.below hk1
 have hb1:=aF hb0 hk1
 have TOv2:=TOv
 obtain ⟨fk,ck,nk,kk,dk,mk,lk,va,vc,ra,rc,_,_,ev,_⟩:=TOv2
 subst ev
 have hs1:=hk1.size
 clear RP0 hk1 hb0
 go_wp2_with (refine RP1.put #[.bool P.mx,.string P.nm,.bool fk,.slice ck nk kk,.slice dk mk lk,.slice va P.vn vc,.slice ra P.rn rc] rfl _ _ rfl rfl rfl prbI rfl (by simp [Value.oneCell']) ?_)
 intro w2 RP2 O2
 have TO2:=TOv.off RP1 O2 (by omega)
 obtain ⟨Q,eQ,PQ2,TID,TOC⟩:=TO2.prob hP hKP
 have eQ7:=Value.agg.inj eQ
 rw [eQ7] at RP2
 have hKQ:Q.K≤1048576:=by rw [TID.K];exact hKP
 have TG2:TG w2 Q (2*Q.K+3):=TG.of TOC TID PQ2 (by omega)
 have hb2:Below w.heap.size w w2:=hb1.trans (O2.below (Nat.le_refl _))
 have HTID:Hid (Tid P Q):=TID
 have HTG:Hid (TG w2 Q (2*Q.K+3)):=TG2
 have hvn:Q.vn≤1048576:=by have:=PQ2.all;have:=dI Q.ZV Q.vn;omega
 have hrn:Q.rn≤1048576:=by have:=PQ2.all;have:=dI Q.ZR Q.rn;omega
 have hall:=PQ2.all
 have hnm2:=Nat.zero_le Q.nm.size
 clear TOv TO2 TOC TID TG2 eQ eQ7 O2 RP1 hP
 -- the shape's own block
 have R3:=Rw.new 61 w2 #[.slice none 0 0,.slice none 0 0,.bool false,.slice none 0 0,.slice none 0 0,.slice none 0 0,.int .i64 0,.slice none 0 0]
 have hb3:=aI w2 (.cells #[.slice none 0 0,.slice none 0 0,.bool false,.slice none 0 0,.slice none 0 0,.slice none 0 0,.int .i64 0,.slice none 0 0] 61)
 have hs3:(w2.alloc (.cells #[.slice none 0 0,.slice none 0 0,.bool false,.slice none 0 0,.slice none 0 0,.slice none 0 0,.int .i64 0,.slice none 0 0] 61)).heap.size=w2.heap.size+1:=by simp
 have RP3:=RP2.below hb3
 have y5:=(RP3.cell 5).trans (show _=some (.slice Q.va Q.vn Q.vc) from rfl)
 go_wp2_with fail
 clear y5
 generalize w2.alloc (.cells #[.slice none 0 0,.slice none 0 0,.bool false,.slice none 0 0,.slice none 0 0,.slice none 0 0,.int .i64 0,.slice none 0 0] 61)=W3 at *
 have hpw:=RP2.lt
 have htab:2<w.heap.size:=hT.2
 have hsw2:=hb2.size
 have HT3:=hT.below (aF hb2 hb3)
 obtain ⟨R,eR⟩:∃ R,R=w2.heap.size:=⟨_,rfl⟩
 rw [← eR] at R3 ⊢
 have hR1:R≤w2.heap.size:=by omega
 have hR2:w2.heap.size≤R:=by omega
 clear eR
 refine (addStepsQ w2 W3 HTG.out.v hb3 hR2 R3 hvn).mono ?_
 rintro e w4 ⟨rfl,sv,RS4,SQ4,K4⟩
 obtain ⟨sa,sc,rfl,_⟩:=SQ4.form
 have hs4:=K4.size
 have HT4:=HT3.kx K4 (by omega) (by omega)
 have RP4:=RP3.kxh K4 (by decide)
 clear R3
 go_wp2_with fail
 refine (pointQ (X:=fun _=>0) (T:=1) w4 RS4 SQ4 (.inl rfl) (by omega) (by omega) (by omega) hvn HT4).mono ?_
 rintro e w5 ⟨xa,xc,rfl,L5,hk5⟩
 replace L5:=L5.congr (Y:=(fun j=>vbs (Q.V j))) (fun i _=>by
  have:(zn 0 (fun _=>(0:Rat)))=fun _=>0:=funext fun i=>if_neg (by omega)
  show ptv _ _ (zn 0 fun _=>0)=_
  rw [this,ptv_nil])
 have hs5:=hk5.size
 have RS5:=RS4.below hk5
 have SQ5:=SQ4.below hk5
 have RP5:=RP4.below hk5
 have HT5:=HT4.below hk5
 obtain ⟨F,eF⟩:∃ F,F=w4.heap.size:=⟨_,rfl⟩
 rw [← eF] at SQ5
 have hF1:F≤w4.heap.size:=by omega
 have hF2:w4.heap.size≤F:=by omega
 have hRF:R<F:=by have:=RS4.lt;omega
 clear eF
 have hb25:Below w2.heap.size w2 w5:=((hb3.trans ((K4.below (Nat.le_refl R)).mono hR2))).trans (hk5.mono (by omega))
 obtain ⟨Db,D1,D2,D3,D4,D5,D6⟩:=(PQ2.below hb25).sum_pre hKQ
 have HVAL:∀ w1,Below w5.heap.size w5 w1→Calls Tryz.prog 49 #[Q.val,.slice xa Q.vn xc] w1 fun e w'=>∃ f c n k c' n' k',e = .returned (.agg #[.bool f,.slice c n k,.slice c' n' k'])∧GR w' w1.heap.size f c n k c' n' k' (bJ (prt Q.k Q.V (fun j=>vbs (Q.V j))) (Q.vn+1)) (2*Q.K+3)∧Below w1.heap.size w1 w':=fun w1 hb=>by
  have h:=valueQ Q (m:=Q.vn) (X:=(fun j=>vbs (Q.V j))) (S:=3*Q.K+8) (T:=(2*Q.K+3)) w1 (PQ2.below (tX hb25 hb)) (L5.lq.below hb) (RLcap L5) (by omega) (by omega) (fun j hj=>⟨by omega,by have:=bY (Z:=Q.ZV) hj;omega⟩) (by omega) (by omega) D6 hvn (HT5.below hb)
  exact h
 have y0:=(RP5.cell 0).trans (show _=some (.bool Q.mx) from rfl);have y1:=(RP5.cell 1).trans (show _=some (.string Q.nm) from rfl);have y2:=(RP5.cell 2).trans (show _=some (.bool Q.p) from rfl);have y3:=(RP5.cell 3).trans (show _=some (.slice Q.a Q.na Q.ca) from rfl);have y4:=(RP5.cell 4).trans (show _=some (.slice Q.d Q.nd Q.cd) from rfl);have y5:=(RP5.cell 5).trans (show _=some (.slice Q.va Q.vn Q.vc) from rfl);have y6:=(RP5.cell 6).trans (show _=some (.slice Q.ra Q.rn Q.rc) from rfl)
 unfold Prob.val at HVAL
 go_wp2_with fail
 clear y0 y1 y2 y3 y4 y5 y6
 have HSC:=setCostsQ Q (F:=F) (T:=(2*Q.K+3)) (r:=bJ (prt Q.k Q.V (fun j=>vbs (Q.V j))) (Q.vn+1)) w2 w5 HTG.out.v hb25 hR2 RS5 SQ5 hRF (by omega) (by unfold Prob.val;exact HVAL) hvn (by omega) (by omega) (by omega) (by omega) HT5 (by omega)
 unfold Prob.val at HSC
 refine HSC.mono ?_
 clear HSC HVAL
 rintro e w6 ⟨rfl,csv,k1,k2,k3,RS6,TM6,K36,K6⟩
 have hs6:=K6.size
 have RP6:=RP5.kxh K6 (by decide)
 have L6:=L5.kx K6 (by decide) (by decide)
 have SQ6:=SQ5.kxh K6 (by decide) (by decide) (by decide) (by decide)
 have HT6:=HT5.kx K6 (by omega) (by omega)
 have hb26:Below w2.heap.size w2 w6:=hb25.trans ((K6.below (by omega)).mono hR2)
 have HSM:=sumsQ Q (m:=Q.vn) (X:=(fun j=>vbs (Q.V j))) (S:=3*Q.K+8) (T:=2*Q.K+6) (Dx:=Db) (Ax:=pw (tot Q.ZV Q.vn)) (dx:=tot Q.ZV Q.vn) (ax:=tot Q.ZV Q.vn+1) w6 (PQ2.below hb26) L6.lq (RLcap L6) (by omega) (fun i j hi hj=>⟨by omega,by have:=bY (Z:=Q.ZR) hi;omega⟩) (by omega) (by omega) D1 D2 D3 D4 D5 (fun i hi=>by have:=bY (Z:=Q.ZR) hi;omega) (by omega) hKQ HT6
 unfold Prob.val at HSM
 have y0:=(RP6.cell 0).trans (show _=some (.bool Q.mx) from rfl);have y1:=(RP6.cell 1).trans (show _=some (.string Q.nm) from rfl);have y2:=(RP6.cell 2).trans (show _=some (.bool Q.p) from rfl);have y3:=(RP6.cell 3).trans (show _=some (.slice Q.a Q.na Q.ca) from rfl);have y4:=(RP6.cell 4).trans (show _=some (.slice Q.d Q.nd Q.cd) from rfl);have y5:=(RP6.cell 5).trans (show _=some (.slice Q.va Q.vn Q.vc) from rfl);have y6:=(RP6.cell 6).trans (show _=some (.slice Q.ra Q.rn Q.rc) from rfl)
 go_wp2_with fail
 clear y0 y1 y2 y3 y4 y5 y6 D1 D2 D3 D4 D5 D6 L5 L6
 refine HSM.mono ?_
 clear HSM
 rintro e w7 ⟨ua,uc,rfl,L7,hk7⟩
 have hs7:=hk7.size
 have RS7:=RS6.below hk7
 have RP7:=RP6.below hk7
 have SQ7:=SQ6.below hk7
 have TM7:=TM6.below hk7
 have HT7:=HT6.below hk7
 have K37:=K36.kx (dU (R:=0) (F:=0) (L:=[]) hk7 (Nat.zero_le _)) (by simp)
 have hb27:Below w2.heap.size w2 w7:=tX hb26 hk7
 have HZ0:Hid (∀ i,i<Q.rn→SzR (cv (Q.R i) (fun j=>vbs (Q.V j)) Q.vn) (2*Q.K+3)∧SzR ((Q.R i).lo-cv (Q.R i) (fun j=>vbs (Q.V j)) Q.vn) (2*Q.K+3)∧SzR ((Q.R i).hi-cv (Q.R i) (fun j=>vbs (Q.V j)) Q.vn) (2*Q.K+3)):=fun i hi=>(PQ2.starts hKQ hi)
 have HPQ:Hid (PQ w2 Q):=PQ2
 clear RS4 RS5 RS6 RP3 RP4 RP5 RP6 SQ4 SQ5 SQ6 TM6 HT3 HT4 HT5 HT6 K36 K4 K6 hk5 hk7 hb3 PQ2 RP2 hb25 hb26
 go_wp2_with fail
 go_loopw [27] (fun s wr=>∃ (i:Nat) (ea:Option Addr) (em ec c:Nat) (fa:Option Addr) (fm fc:Nat),i≤Q.rn∧s = .int .i64 i∧Rw 61 wr R #[.slice sa Q.vn sc,csv,k1,k2,k3,.slice ea em ec,.int .i64 (c:Nat),.slice fa fm fc]∧EM wr F (.slice ea em ec) (bC Q.V Q.R (fun i=>cv (Q.R i) (fun j=>vbs (Q.V j)) Q.vn) Q.vn i).1 (2*Q.K+3)∧Hid (c=(bC Q.V Q.R (fun i=>cv (Q.R i) (fun j=>vbs (Q.V j)) Q.vn) Q.vn i).2)∧fm≤i∧SL wr F 3 1 (.slice fa fm fc) fm (fun _=>[])∧Kx R F [61,74,3] w7 wr) (fun t _=>Q.rn-(intOf t).toNat)
 case atStart=>exact ⟨0,none,0,0,_,none,0,0,Nat.zero_le _,rfl,RS7,EM.nil _ _ _,rfl,Nat.zero_le _,SL.nil _ _ _ _ _,Kx.refl _ _ _ _⟩
 case round =>
  clear RS7
  obtain ⟨i,ea,em,ec,c,fa,fm,fc,hi,rfl,RW,EMi,HC,hfm,SLF,KU⟩:=hrel
  have hlen:=lQ Q.V Q.R (fun i=>cv (Q.R i) (fun j=>vbs (Q.V j)) Q.vn) Q.vn i
  have hemb:em≤2*i:=by rw [EMi.len];exact hlen.1
  have hcb:c≤2*Q.vn+2*i:=by rw [HC.out];exact hlen.2
  clear hlen
  have hFw:F≤wr.heap.size:=Nat.le_trans (by omega) KU.size
  have hbw2:Below w2.heap.size w2 wr:=hb27.trans ((KU.below (by omega)).mono hR2)
  have RPr:=RP7.kxh KU (by decide)
  have SQr:=SQ7.kxl KU (by decide) (by decide)
  have HTr:=HT7.kx KU (by omega) (by omega)
  have hsr:=KU.size
  by_cases hlt:i<Q.rn
  ·have hkI:(i:Int)<(Q.rn:Int):=by omega
   have hkI3:(i:Int)*3=((i*3:Nat):Int):=by omega
   have hkI10:(i:Int)*10=((i*10:Nat):Int):=by omega
   obtain ⟨ug,ps,as',ns,cs',ds,ms,ls,hua,s0,s1,s2,GSr⟩:=(L7.kx KU (by decide) (by decide)).at hlt
   have hua':ua=some ⟨ug,0,none⟩:=hua
   clear hua
   rcases HTG.out.r with h0|⟨rg,hra,hrow⟩
   ·omega
   obtain ⟨ta,tc,p2,a2,n2,k2',d2,m2,l2,p3,a3,n3,k3',d3,m3,l3,RG0,LT2,GL2,GH2⟩:=hrow i hlt
   have RG10:∀ w',Below w2.heap.size w2 w'→∀ j u,[.string (Q.R i).nm,.slice ta (Q.R i).nt tc,.bool (Q.R i).hlo,.bool p2,.slice a2 n2 k2',.slice d2 m2 l2,.bool (Q.R i).hhi,.bool p3,.slice a3 n3 k3',.slice d3 m3 l3][j]? = some u→w'.cell? ⟨rg,i*10+j,none⟩=some u:=fun w' h j u hu=>aG h (RG0 j u hu)
   obtain ⟨Z1,Z2,Z3⟩:=HZ0.out i hlt
   have HZ:Hid (SzR ((Q.R i).lo-cv (Q.R i) (fun j=>vbs (Q.V j)) Q.vn) (2*Q.K+3)∧SzR ((Q.R i).hi-cv (Q.R i) (fun j=>vbs (Q.V j)) Q.vn) (2*Q.K+3)∧SzR (((Q.R i).hi-cv (Q.R i) (fun j=>vbs (Q.V j)) Q.vn)-((Q.R i).lo-cv (Q.R i) (fun j=>vbs (Q.V j)) Q.vn)) (2*Q.K+3)):=⟨Z2,Z3,by
    rw [rat_width]
    obtain ⟨rb,ro,hRow⟩:=HPQ.out.row hlt
    have:=bY (Z:=Q.ZR) hlt
    exact (sub_sz hRow.shi hRow.slo).le (by omega)⟩
   have hnt:(Q.R i).nt≤1048576:=by have:=HPQ.out.nt_le hlt;omega
   have hz:=aI wr (.cells #[.bool ps,.slice as' ns cs',.slice ds ms ls] 27)
   have hsW:(wr.alloc (.cells #[.bool ps,.slice as' ns cs',.slice ds ms ls] 27)).heap.size=wr.heap.size+1:=by simp
   have RU:=RW.below hz
   have PBU:=RPr.below hz
   rw [hra] at PBU
   have SBU:=Rw.new 27 wr #[.bool ps,.slice as' ns cs',.slice ds ms ls]
   have SQU:=SQr.below hz
   have EMU:=EMi.kx (dU (R:=R) (F:=F) (L:=[]) hz hFw) (by simp) (by simp) (by simp)
   have SLFU:=SLF.below hz
   have hbW2:Below w2.heap.size w2 (wr.alloc (.cells #[.bool ps,.slice as' ns cs',.slice ds ms ls] 27)):=tX hbw2 hz
   have LTU:=LT2.below hbW2
   have GLU:=GL2.below hbW2
   have GHU:=GH2.below hbW2
   have GSU:=GSr.below hz
   have HTU:=HTr.below hz
   have KUW:=KU.bel hz hFw
   have hTF:2<F:=by omega
   have hTR:2≠R:=by omega
   go_wp2_with fail
   clear s0 s1 s2 RG0 LT2 GL2 GH2 GSr hrow Z1 Z2 Z3 RW EMi SLF hz RPr SQr HTr hra
   generalize wr.alloc (.cells #[.bool ps,.slice as' ns cs',.slice ds ms ls] 27)=W2 at *
   have RS0:=RU.below (aK W2)
   have PB0:=PBU.below (aK W2)
   have SB0:=SBU.below (aK W2)
   have KW0:=dU (R:=R) (F:=F) (L:=[61,74]) (aK W2) (by omega)
   have hs0:W2.heap.size≤W2.drew.heap.size:=(aK W2).size
   have hFz0:F≤W2.drew.heap.size:=by omega
   have SQ0:=SQU.below (aK W2)
   have EM0:=EMU.kx (dU (R:=R) (F:=F) (L:=[]) (aK W2) (by omega)) (by simp) (by simp) (by simp)
   have SLF0:=SLFU.below (aK W2)
   have LT0:=LTU.below (aK W2)
   have GL0:=GLU.below (aK W2)
   have GH0:=GHU.below (aK W2)
   have GS0:=GSU.below (aK W2)
   have HT0:=HTU.below (aK W2)
   have hb00:=tX hbW2 (aK W2)
   have hcF:(W2.drew.cell? ⟨R,7,none⟩=some (.slice fa fm fc)∧W2.drew.cell? ⟨w.heap.size,6,none⟩=some (.slice (some ⟨rg,0,none⟩) Q.rn Q.rc)∧W2.drew.cell? ⟨rg,i*10,none⟩=some (.string (Q.R i).nm)∧W2.drew.cell? ⟨rg,i*10+1,none⟩=some (.slice ta (Q.R i).nt tc)∧W2.drew.cell? ⟨rg,i*10+2,none⟩=some (.bool (Q.R i).hlo)∧W2.drew.cell? ⟨rg,i*10+3,none⟩=some (.bool p2)∧W2.drew.cell? ⟨rg,i*10+4,none⟩=some (.slice a2 n2 k2')∧W2.drew.cell? ⟨rg,i*10+5,none⟩=some (.slice d2 m2 l2)∧W2.drew.cell? ⟨rg,i*10+6,none⟩=some (.bool (Q.R i).hhi)∧W2.drew.cell? ⟨rg,i*10+7,none⟩=some (.bool p3)∧W2.drew.cell? ⟨rg,i*10+8,none⟩=some (.slice a3 n3 k3')∧W2.drew.cell? ⟨rg,i*10+9,none⟩=some (.slice d3 m3 l3)∧W2.drew.cell? ⟨wr.heap.size,0,none⟩=some (.bool ps)∧W2.drew.cell? ⟨wr.heap.size,1,none⟩=some (.slice as' ns cs')∧W2.drew.cell? ⟨wr.heap.size,2,none⟩=some (.slice ds ms ls)):=⟨(RS0.cell 7).trans rfl,(PB0.cell 6).trans rfl,(by simpa using RG10 _ hb00 0 _ rfl),(RG10 _ hb00 1 _ rfl),(RG10 _ hb00 2 _ rfl),(RG10 _ hb00 3 _ rfl),(RG10 _ hb00 4 _ rfl),(RG10 _ hb00 5 _ rfl),(RG10 _ hb00 6 _ rfl),(RG10 _ hb00 7 _ rfl),(RG10 _ hb00 8 _ rfl),(RG10 _ hb00 9 _ rfl),(SB0.cell 0).trans rfl,(SB0.cell 1).trans rfl,(SB0.cell 2).trans rfl⟩
   have HF0:=hcF
   clear hcF
   refine wp_region_noPanic (bI (Till 15 15 (fun w'=>w'.cell? ⟨R,7,none⟩=some (.slice fa fm fc)∧w'.cell? ⟨w.heap.size,6,none⟩=some (.slice (some ⟨rg,0,none⟩) Q.rn Q.rc)∧w'.cell? ⟨rg,i*10,none⟩=some (.string (Q.R i).nm)∧w'.cell? ⟨rg,i*10+1,none⟩=some (.slice ta (Q.R i).nt tc)∧w'.cell? ⟨rg,i*10+2,none⟩=some (.bool (Q.R i).hlo)∧w'.cell? ⟨rg,i*10+3,none⟩=some (.bool p2)∧w'.cell? ⟨rg,i*10+4,none⟩=some (.slice a2 n2 k2')∧w'.cell? ⟨rg,i*10+5,none⟩=some (.slice d2 m2 l2)∧w'.cell? ⟨rg,i*10+6,none⟩=some (.bool (Q.R i).hhi)∧w'.cell? ⟨rg,i*10+7,none⟩=some (.bool p3)∧w'.cell? ⟨rg,i*10+8,none⟩=some (.slice a3 n3 k3')∧w'.cell? ⟨rg,i*10+9,none⟩=some (.slice d3 m3 l3)∧w'.cell? ⟨wr.heap.size,0,none⟩=some (.bool ps)∧w'.cell? ⟨wr.heap.size,1,none⟩=some (.slice as' ns cs')∧w'.cell? ⟨wr.heap.size,2,none⟩=some (.slice ds ms ls)) (fun _=>True)) (by as_aux_lemma=>kernel_rfl) ?_)
   have hc0:(W2.drew.cell? ⟨R,7,none⟩=some (.slice fa fm fc)∧W2.drew.cell? ⟨w.heap.size,6,none⟩=some (.slice (some ⟨rg,0,none⟩) Q.rn Q.rc)∧W2.drew.cell? ⟨rg,i*10,none⟩=some (.string (Q.R i).nm)∧W2.drew.cell? ⟨rg,i*10+1,none⟩=some (.slice ta (Q.R i).nt tc)∧W2.drew.cell? ⟨rg,i*10+2,none⟩=some (.bool (Q.R i).hlo)∧W2.drew.cell? ⟨rg,i*10+3,none⟩=some (.bool p2)∧W2.drew.cell? ⟨rg,i*10+4,none⟩=some (.slice a2 n2 k2')∧W2.drew.cell? ⟨rg,i*10+5,none⟩=some (.slice d2 m2 l2)∧W2.drew.cell? ⟨rg,i*10+6,none⟩=some (.bool (Q.R i).hhi)∧W2.drew.cell? ⟨rg,i*10+7,none⟩=some (.bool p3)∧W2.drew.cell? ⟨rg,i*10+8,none⟩=some (.slice a3 n3 k3')∧W2.drew.cell? ⟨rg,i*10+9,none⟩=some (.slice d3 m3 l3)∧W2.drew.cell? ⟨wr.heap.size,0,none⟩=some (.bool ps)∧W2.drew.cell? ⟨wr.heap.size,1,none⟩=some (.slice as' ns cs')∧W2.drew.cell? ⟨wr.heap.size,2,none⟩=some (.slice ds ms ls)):=HF0
   generalize W2.drew=z0 at *
   refine wpAnyG.take 0 (v:=.pointer (some ⟨R,0,none⟩)) (by decide) (by as_aux_lemma=>kernel_rfl) (fun _ _ _ h=>h) 15 _ (by rfl) (aP (by decide) (by decide)) (fun L w' h1 h2=>h2.1 h1) (by as_aux_lemma=>kernel_rfl) (by as_aux_lemma=>kernel_rfl) (by as_aux_lemma=>kernel_rfl) (by rfl) ?y0 ⟨fun _=>(fun _ h=>h) _ hc0,fun _=>trivial⟩ (by rfl) ?_
   case y0 =>
    rintro w' ⟨q0,q1,q2,q3,q4,q5,q6,q7,q8,q9,q10,q11,q12,q13,q14⟩
    simp only [lgA,lgZ]
    go_simp
   simp only [lgA,lgZ,Act.put,lsA,lsZ,lsS]
   refine wpAnyG.take 1 (v:=.pointer (some ⟨R,0,none⟩)) (by decide) (by as_aux_lemma=>kernel_rfl) (fun _ _ _ h=>h) 15 _ (by rfl) (aP (by decide) (by decide)) (fun L w' h1 h2=>h2.1 h1) (by as_aux_lemma=>kernel_rfl) (by as_aux_lemma=>kernel_rfl) (by as_aux_lemma=>kernel_rfl) (by rfl) ?y1 ⟨fun _=>(fun _ h=>h) _ hc0,fun _=>trivial⟩ (by rfl) ?_
   case y1 =>
    rintro w' ⟨q0,q1,q2,q3,q4,q5,q6,q7,q8,q9,q10,q11,q12,q13,q14⟩
    simp only [lgA,lgZ,lgS]
    go_simp
   simp only [lgA,lgZ,lgS,Act.put,lsA,lsZ,lsS]
   refine wpAnyG.take 2 (v:=.pointer (some ⟨R,0,none⟩)) (by decide) (by as_aux_lemma=>kernel_rfl) (fun _ _ _ h=>h) 15 _ (by rfl) (aP (by decide) (by decide)) (fun L w' h1 h2=>h2.1 h1) (by as_aux_lemma=>kernel_rfl) (by as_aux_lemma=>kernel_rfl) (by as_aux_lemma=>kernel_rfl) (by rfl) ?y2 ⟨fun _=>(fun _ h=>h) _ hc0,fun _=>trivial⟩ (by rfl) ?_
   case y2 =>
    rintro w' ⟨q0,q1,q2,q3,q4,q5,q6,q7,q8,q9,q10,q11,q12,q13,q14⟩
    simp only [lgA,lgZ,lgS]
    go_simp
   simp only [lgA,lgZ,lgS,Act.put,lsA,lsZ,lsS]
   refine wpAnyG.take 3 (v:=.pointer (some ⟨R,7,none⟩)) (by decide) (by as_aux_lemma=>kernel_rfl) (fun _ _ _ h=>h) 15 _ (by rfl) (aP (by decide) (by decide)) (fun L w' h1 h2=>h2.1 h1) (by as_aux_lemma=>kernel_rfl) (by as_aux_lemma=>kernel_rfl) (by as_aux_lemma=>kernel_rfl) (by rfl) ?y3 ⟨fun _=>(fun _ h=>h) _ hc0,fun _=>trivial⟩ (by rfl) ?_
   case y3 =>
    rintro w' ⟨q0,q1,q2,q3,q4,q5,q6,q7,q8,q9,q10,q11,q12,q13,q14⟩
    simp only [lgA,lgZ,lgS]
    go_simp
   simp only [lgA,lgZ,lgS,Act.put,lsA,lsZ,lsS]
   refine wpAnyG.take 4 (v:=.slice fa fm fc) (by decide) (by as_aux_lemma=>kernel_rfl) (fun _ _ _ h=>h) 15 _ (by rfl) (aP (by decide) (by decide)) (fun L w' h1 h2=>h2.1 h1) (by as_aux_lemma=>kernel_rfl) (by as_aux_lemma=>kernel_rfl) (by as_aux_lemma=>kernel_rfl) (by rfl) ?y4 ⟨fun _=>(fun _ h=>h) _ hc0,fun _=>trivial⟩ (by rfl) ?_
   case y4 =>
    rintro w' ⟨q0,q1,q2,q3,q4,q5,q6,q7,q8,q9,q10,q11,q12,q13,q14⟩
    simp only [lgA,lgZ,lgS]
    go_simp
   simp only [lgA,lgZ,lgS,Act.put,lsA,lsZ,lsS]
   refine wpAnyG.take 5 (v:=.pointer (some ⟨R,0,none⟩)) (by decide) (by as_aux_lemma=>kernel_rfl) (fun _ _ _ h=>h) 15 _ (by rfl) (aP (by decide) (by decide)) (fun L w' h1 h2=>h2.1 h1) (by as_aux_lemma=>kernel_rfl) (by as_aux_lemma=>kernel_rfl) (by as_aux_lemma=>kernel_rfl) (by rfl) ?y5 ⟨fun _=>(fun _ h=>h) _ hc0,fun _=>trivial⟩ (by rfl) ?_
   case y5 =>
    rintro w' ⟨q0,q1,q2,q3,q4,q5,q6,q7,q8,q9,q10,q11,q12,q13,q14⟩
    simp only [lgA,lgZ,lgS]
    go_simp
   simp only [lgA,lgZ,lgS,Act.put,lsA,lsZ,lsS]
   refine wpAnyG.take 6 (v:=.pointer (some ⟨w.heap.size,6,none⟩)) (by decide) (by as_aux_lemma=>kernel_rfl) (fun _ _ _ h=>h) 15 _ (by rfl) (aP (by decide) (by decide)) (fun L w' h1 h2=>h2.1 h1) (by as_aux_lemma=>kernel_rfl) (by as_aux_lemma=>kernel_rfl) (by as_aux_lemma=>kernel_rfl) (by rfl) ?y6 ⟨fun _=>(fun _ h=>h) _ hc0,fun _=>trivial⟩ (by rfl) ?_
   case y6 =>
    rintro w' ⟨q0,q1,q2,q3,q4,q5,q6,q7,q8,q9,q10,q11,q12,q13,q14⟩
    simp only [lgA,lgZ,lgS]
    go_simp
   simp only [lgA,lgZ,lgS,Act.put,lsA,lsZ,lsS]
   refine wpAnyG.take 7 (v:=.slice (some ⟨rg,0,none⟩) Q.rn Q.rc) (by decide) (by as_aux_lemma=>kernel_rfl) (fun _ _ _ h=>h) 15 _ (by rfl) (aP (by decide) (by decide)) (fun L w' h1 h2=>h2.1 h1) (by as_aux_lemma=>kernel_rfl) (by as_aux_lemma=>kernel_rfl) (by as_aux_lemma=>kernel_rfl) (by rfl) ?y7 ⟨fun _=>(fun _ h=>h) _ hc0,fun _=>trivial⟩ (by rfl) ?_
   case y7 =>
    rintro w' ⟨q0,q1,q2,q3,q4,q5,q6,q7,q8,q9,q10,q11,q12,q13,q14⟩
    simp only [lgA,lgZ,lgS]
    go_simp
   simp only [lgA,lgZ,lgS,Act.put,lsA,lsZ,lsS]
   refine wpAnyG.take 8 (v:=.int .i64 (i:Int)) (by decide) (by as_aux_lemma=>kernel_rfl) (fun _ _ _ h=>h) 15 _ (by rfl) (aP (by decide) (by decide)) (fun L w' h1 h2=>h2.1 h1) (by as_aux_lemma=>kernel_rfl) (by as_aux_lemma=>kernel_rfl) (by as_aux_lemma=>kernel_rfl) (by rfl) ?y8 ⟨fun _=>(fun _ h=>h) _ hc0,fun _=>trivial⟩ (by rfl) ?_
   case y8 =>
    rintro w' ⟨q0,q1,q2,q3,q4,q5,q6,q7,q8,q9,q10,q11,q12,q13,q14⟩
    simp only [lgA,lgZ,lgS]
    go_simp
   simp only [lgA,lgZ,lgS,Act.put,lsA,lsZ,lsS]
   refine wpAnyG.take 9 (v:=.pointer (some ⟨rg,i*10,none⟩)) (by decide) (by as_aux_lemma=>kernel_rfl) (fun _ _ _ h=>h) 15 _ (by rfl) (aP (by decide) (by decide)) (fun L w' h1 h2=>h2.1 h1) (by as_aux_lemma=>kernel_rfl) (by as_aux_lemma=>kernel_rfl) (by as_aux_lemma=>kernel_rfl) (by rfl) ?y9 ⟨fun _=>(fun _ h=>h) _ hc0,fun _=>trivial⟩ (by rfl) ?_
   case y9 =>
    rintro w' ⟨q0,q1,q2,q3,q4,q5,q6,q7,q8,q9,q10,q11,q12,q13,q14⟩
    simp only [lgA,lgZ,lgS]
    go_simp
   simp only [lgA,lgZ,lgS,Act.put,lsA,lsZ,lsS]
   refine wpAnyG.take 10 (v:=.agg #[.string (Q.R i).nm,.slice ta (Q.R i).nt tc,.bool (Q.R i).hlo,.bool p2,.slice a2 n2 k2',.slice d2 m2 l2,.bool (Q.R i).hhi,.bool p3,.slice a3 n3 k3',.slice d3 m3 l3]) (by decide) (by as_aux_lemma=>kernel_rfl) (fun _ _ _ h=>h) 15 _ (by rfl) (aP (by decide) (by decide)) (fun L w' h1 h2=>h2.1 h1) (by as_aux_lemma=>kernel_rfl) (by as_aux_lemma=>kernel_rfl) (by as_aux_lemma=>kernel_rfl) (by rfl) ?y10 ⟨fun _=>(fun _ h=>h) _ hc0,fun _=>trivial⟩ (by rfl) ?_
   case y10 =>
    rintro w' ⟨q0,q1,q2,q3,q4,q5,q6,q7,q8,q9,q10,q11,q12,q13,q14⟩
    simp only [lgA,lgZ,lgS]
    go_simp
   simp only [lgA,lgZ,lgS,Act.put,lsA,lsZ,lsS]
   refine wpAnyG.take 11 (v:=.agg #[.bool ps,.slice as' ns cs',.slice ds ms ls]) (by decide) (by as_aux_lemma=>kernel_rfl) (fun _ _ _ h=>h) 15 _ (by rfl) (aP (by decide) (by decide)) (fun L w' h1 h2=>h2.1 h1) (by as_aux_lemma=>kernel_rfl) (by as_aux_lemma=>kernel_rfl) (by as_aux_lemma=>kernel_rfl) (by rfl) ?y11 ⟨fun _=>(fun _ h=>h) _ hc0,fun _=>trivial⟩ (by rfl) ?_
   case y11 =>
    rintro w' ⟨q0,q1,q2,q3,q4,q5,q6,q7,q8,q9,q10,q11,q12,q13,q14⟩
    simp only [lgA,lgZ,lgS]
    go_simp
   simp only [lgA,lgZ,lgS,Act.put,lsA,lsZ,lsS]
   refine wpAnyG.one 12 (by as_aux_lemma=>kernel_rfl) (by decide) (by rfl) (fun K hK=>?_)
   simp only [lgA,lgZ,lgS]
   go_simp
   refine (addRowQ Q.V (Q.R i) (Sl:=(2*Q.K+3)) (Ss:=2*Q.K+6) (st:=cv (Q.R i) (fun j=>vbs (Q.V j)) Q.vn) z0 RS0 SQ0 EM0 hFz0 LT0 (HTG.out.t i hlt) GL0 GH0 GS0 (by omega) (by omega) (by omega) HZ.out.1 HZ.out.2.1 HZ.out.2.2 (by omega) (by omega) hnt (by omega) (by omega) HT0 hTF hTR).mono ?_
   rintro e z1 ⟨i1,ea1,em1,ec1,c1,rfl,RS1,EM1,hc1e,hi1,K1⟩
   clear hi1
   have KW1:=(KW0.up (L':=[61,74,3]) (by simp)).trans (K1.up (by simp))
   have PB1:=PB0.kxh K1 (by decide)
   have SB1:=SB0.kxh K1 (by decide)
   have hs1:=K1.size
   have hbz:Below w2.heap.size w2 z1:=hbW2.trans ((KW1.below (by omega)).mono hR2)
   have HC1:Hid (c1=(bC Q.V Q.R (fun i=>cv (Q.R i) (fun j=>vbs (Q.V j)) Q.vn) Q.vn (i+1)).2):=by
    show c1=(dD Q.V (Q.R i) _ (bC Q.V Q.R (fun i=>cv (Q.R i) (fun j=>vbs (Q.V j)) Q.vn) Q.vn i).2).2
    rw [hc1e,HC.out]
   have hc1b:=(xB Q.V (Q.R i) (cv (Q.R i) (fun j=>vbs (Q.V j)) Q.vn) c).2
   rw [← hc1e] at hc1b
   clear hc1e
   have hcF:(z1.cell? ⟨R,7,none⟩=some (.slice fa fm fc)∧z1.cell? ⟨w.heap.size,6,none⟩=some (.slice (some ⟨rg,0,none⟩) Q.rn Q.rc)∧z1.cell? ⟨rg,i*10,none⟩=some (.string (Q.R i).nm)∧z1.cell? ⟨rg,i*10+1,none⟩=some (.slice ta (Q.R i).nt tc)∧z1.cell? ⟨rg,i*10+2,none⟩=some (.bool (Q.R i).hlo)∧z1.cell? ⟨rg,i*10+3,none⟩=some (.bool p2)∧z1.cell? ⟨rg,i*10+4,none⟩=some (.slice a2 n2 k2')∧z1.cell? ⟨rg,i*10+5,none⟩=some (.slice d2 m2 l2)∧z1.cell? ⟨rg,i*10+6,none⟩=some (.bool (Q.R i).hhi)∧z1.cell? ⟨rg,i*10+7,none⟩=some (.bool p3)∧z1.cell? ⟨rg,i*10+8,none⟩=some (.slice a3 n3 k3')∧z1.cell? ⟨rg,i*10+9,none⟩=some (.slice d3 m3 l3)∧z1.cell? ⟨wr.heap.size,0,none⟩=some (.bool ps)∧z1.cell? ⟨wr.heap.size,1,none⟩=some (.slice as' ns cs')∧z1.cell? ⟨wr.heap.size,2,none⟩=some (.slice ds ms ls)):=⟨(RS1.cell 7).trans rfl,(PB1.cell 6).trans rfl,(by simpa using RG10 _ hbz 0 _ rfl),(RG10 _ hbz 1 _ rfl),(RG10 _ hbz 2 _ rfl),(RG10 _ hbz 3 _ rfl),(RG10 _ hbz 4 _ rfl),(RG10 _ hbz 5 _ rfl),(RG10 _ hbz 6 _ rfl),(RG10 _ hbz 7 _ rfl),(RG10 _ hbz 8 _ rfl),(RG10 _ hbz 9 _ rfl),(SB1.cell 0).trans rfl,(SB1.cell 1).trans rfl,(SB1.cell 2).trans rfl⟩
   have hc1:=hcF
   clear hcF
   dsimp only
   refine hK _ _ ⟨fun _=>(fun _ h=>h) _ hc1,fun _=>trivial⟩ ?_
   clear hK K
   refine wpAnyG.one 13 (by as_aux_lemma=>kernel_rfl) (by decide) (by rfl) (fun K hK=>?_)
   simp only [lgA,lgZ,lgS]
   go_simp
   have KW2:=KW1.bel (aI z1 (.cells #[.int .i64 i1] 3)) (by omega)
   have K2:=(Kx.refl R F [] z1).bel (aI z1 (.cells #[.int .i64 i1] 3)) (by omega)
   have RS2:=RS1.below (aI z1 (.cells #[.int .i64 i1] 3))
   have PB2:=PB1.below (aI z1 (.cells #[.int .i64 i1] 3))
   have SB2:=SB1.below (aI z1 (.cells #[.int .i64 i1] 3))
   have BX:=aQ z1 #[.int .i64 i1] 3
   have hs2:(z1.alloc (.cells #[.int .i64 i1] 3)).heap.size=z1.heap.size+1:=by simp
   have EM2:=EM1.kx K2 (by simp) (by simp) (by simp)
   have hbz2:=tX hbz (aI z1 (.cells #[.int .i64 i1] 3))
   have hcF:((z1.alloc (.cells #[.int .i64 i1] 3)).cell? ⟨R,7,none⟩=some (.slice fa fm fc)∧(z1.alloc (.cells #[.int .i64 i1] 3)).cell? ⟨w.heap.size,6,none⟩=some (.slice (some ⟨rg,0,none⟩) Q.rn Q.rc)∧(z1.alloc (.cells #[.int .i64 i1] 3)).cell? ⟨rg,i*10,none⟩=some (.string (Q.R i).nm)∧(z1.alloc (.cells #[.int .i64 i1] 3)).cell? ⟨rg,i*10+1,none⟩=some (.slice ta (Q.R i).nt tc)∧(z1.alloc (.cells #[.int .i64 i1] 3)).cell? ⟨rg,i*10+2,none⟩=some (.bool (Q.R i).hlo)∧(z1.alloc (.cells #[.int .i64 i1] 3)).cell? ⟨rg,i*10+3,none⟩=some (.bool p2)∧(z1.alloc (.cells #[.int .i64 i1] 3)).cell? ⟨rg,i*10+4,none⟩=some (.slice a2 n2 k2')∧(z1.alloc (.cells #[.int .i64 i1] 3)).cell? ⟨rg,i*10+5,none⟩=some (.slice d2 m2 l2)∧(z1.alloc (.cells #[.int .i64 i1] 3)).cell? ⟨rg,i*10+6,none⟩=some (.bool (Q.R i).hhi)∧(z1.alloc (.cells #[.int .i64 i1] 3)).cell? ⟨rg,i*10+7,none⟩=some (.bool p3)∧(z1.alloc (.cells #[.int .i64 i1] 3)).cell? ⟨rg,i*10+8,none⟩=some (.slice a3 n3 k3')∧(z1.alloc (.cells #[.int .i64 i1] 3)).cell? ⟨rg,i*10+9,none⟩=some (.slice d3 m3 l3)∧(z1.alloc (.cells #[.int .i64 i1] 3)).cell? ⟨wr.heap.size,0,none⟩=some (.bool ps)∧(z1.alloc (.cells #[.int .i64 i1] 3)).cell? ⟨wr.heap.size,1,none⟩=some (.slice as' ns cs')∧(z1.alloc (.cells #[.int .i64 i1] 3)).cell? ⟨wr.heap.size,2,none⟩=some (.slice ds ms ls)):=⟨(RS2.cell 7).trans rfl,(PB2.cell 6).trans rfl,(by simpa using RG10 _ hbz2 0 _ rfl),(RG10 _ hbz2 1 _ rfl),(RG10 _ hbz2 2 _ rfl),(RG10 _ hbz2 3 _ rfl),(RG10 _ hbz2 4 _ rfl),(RG10 _ hbz2 5 _ rfl),(RG10 _ hbz2 6 _ rfl),(RG10 _ hbz2 7 _ rfl),(RG10 _ hbz2 8 _ rfl),(RG10 _ hbz2 9 _ rfl),(SB2.cell 0).trans rfl,(SB2.cell 1).trans rfl,(SB2.cell 2).trans rfl⟩
   generalize z1.alloc (.cells #[.int .i64 i1] 3)=z5 at *
   refine hK _ _ ⟨fun _=>hcF,fun _=>trivial⟩ ?_
   clear hcF
   clear hK K
   refine wpAnyG.one 14 (by as_aux_lemma=>kernel_rfl) (by decide) (by rfl) (fun K hK=>?_)
   simp only [lgA,lgZ,lgS]
   have SLZ:=(SLF0.kxh (K1.up (L':=[61,74]) (by simp)) (by decide)).kxh K2 (by simp)
   refine dM z5 _ _ 59 3 1 8 rfl Tryz.underlying59 infInt1 (by decide) (by decide) F (.slice fa fm fc) fm (fun _=>[]) rfl SLZ z1.heap.size 1 rfl [.int .i64 i1] rfl (fun u hu=>by simp at hu;rw [hu];rfl) BX (by omega) (by omega) _ rfl ?_
   intro g6 cap6 w6 SN hg hat hgl
   have hne:(.slice fa fm fc:Value).ownBlock≠some R:=SLZ.neR RS2 (by decide)
   have RS6:=RS2.kept hg hne
   have KG:=(Kx.refl R F [3] z5).grown SLZ (by simp) (Nat.le_refl F) (by omega) hg
   have PB6:=PB2.kxh KG (by decide)
   have SB6:=SB2.kxh KG (by decide)
   have hbz6:Below w2.heap.size w2 w6:=hbz2.trans ((KG.below (by omega)).mono (by omega))
   have hs6:=hg.size
   have e1:=RS6.frozen 7
   have e0:=(RS6.cell 7).trans (show _=some (.slice fa fm fc) from rfl)
   have hcF:(w6.cell? ⟨R,7,none⟩=some (.slice fa fm fc)∧w6.cell? ⟨w.heap.size,6,none⟩=some (.slice (some ⟨rg,0,none⟩) Q.rn Q.rc)∧w6.cell? ⟨rg,i*10,none⟩=some (.string (Q.R i).nm)∧w6.cell? ⟨rg,i*10+1,none⟩=some (.slice ta (Q.R i).nt tc)∧w6.cell? ⟨rg,i*10+2,none⟩=some (.bool (Q.R i).hlo)∧w6.cell? ⟨rg,i*10+3,none⟩=some (.bool p2)∧w6.cell? ⟨rg,i*10+4,none⟩=some (.slice a2 n2 k2')∧w6.cell? ⟨rg,i*10+5,none⟩=some (.slice d2 m2 l2)∧w6.cell? ⟨rg,i*10+6,none⟩=some (.bool (Q.R i).hhi)∧w6.cell? ⟨rg,i*10+7,none⟩=some (.bool p3)∧w6.cell? ⟨rg,i*10+8,none⟩=some (.slice a3 n3 k3')∧w6.cell? ⟨rg,i*10+9,none⟩=some (.slice d3 m3 l3)∧w6.cell? ⟨wr.heap.size,0,none⟩=some (.bool ps)∧w6.cell? ⟨wr.heap.size,1,none⟩=some (.slice as' ns cs')∧w6.cell? ⟨wr.heap.size,2,none⟩=some (.slice ds ms ls)):=⟨(RS6.cell 7).trans rfl,(PB6.cell 6).trans rfl,(by simpa using RG10 _ hbz6 0 _ rfl),(RG10 _ hbz6 1 _ rfl),(RG10 _ hbz6 2 _ rfl),(RG10 _ hbz6 3 _ rfl),(RG10 _ hbz6 4 _ rfl),(RG10 _ hbz6 5 _ rfl),(RG10 _ hbz6 6 _ rfl),(RG10 _ hbz6 7 _ rfl),(RG10 _ hbz6 8 _ rfl),(RG10 _ hbz6 9 _ rfl),(SB6.cell 0).trans rfl,(SB6.cell 1).trans rfl,(SB6.cell 2).trans rfl⟩
   refine hK _ _ ⟨fun _=>hcF,fun _=>trivial⟩ ?_
   clear hcF
   clear hK K
   refine wpAnyG.one 15 (by as_aux_lemma=>kernel_rfl) (by decide) (by rfl) (fun K hK=>?_)
   simp only [lgA,lgZ,lgS]
   go_simp
   refine hK _ _ ⟨fun h=>absurd h (by decide),fun _=>trivial⟩ ?_
   clear hK K
   refine wpAnyG.one 16 (by as_aux_lemma=>kernel_rfl) (by decide) (by rfl) (fun K hK=>?_)
   simp only [lgA,lgZ,lgS]
   go_simp
   refine hK _ _ ⟨fun h=>absurd h (by decide),fun _=>trivial⟩ ?_
   clear hK K
   refine wpAnyG.one 17 (by as_aux_lemma=>kernel_rfl) (by decide) (by rfl) (fun K hK=>?_)
   simp only [lgA,lgZ,lgS]
   go_simp
   refine hK _ _ ⟨fun h=>absurd h (by decide),fun _=>trivial⟩ ?_
   clear hK K
   refine wpAnyG.done (by as_aux_lemma=>kernel_rfl) (NoPanic.normal ?_)
   obtain ⟨RN,ON⟩:=RS6.set 7 (.slice (some ⟨g6,0,none⟩) (fm+1) cap6)
   replace RN:Rw 61 (w6.setCell ⟨R,7,none⟩ (.slice (some ⟨g6,0,none⟩) (fm+1) cap6)) R #[.slice sa Q.vn sc,csv,k1,k2,k3,.slice ea1 em1 ec1,.int .i64 (c1:Nat),.slice (some ⟨g6,0,none⟩) (fm+1) cap6]:=by simpa using RN
   have KF:=((KUW.trans KW2).trans (KG.up (L':=[61,74,3]) (by simp))).off RS6 (by simp) ON
   have EMN:EM (w6.setCell ⟨R,7,none⟩ (.slice (some ⟨g6,0,none⟩) (fm+1) cap6)) F (.slice ea1 em1 ec1) (bC Q.V Q.R (fun i=>cv (Q.R i) (fun j=>vbs (Q.V j)) Q.vn) Q.vn (i+1)).1 (2*Q.K+3):=by
    have h:=(EM2.kx (KG.up (L':=[61,3]) (by simp)) (by decide) (by decide) (by decide)).kx ((Kx.refl R F [61] w6).off RS6 (by simp) ON) (by decide) (by decide) (by decide)
    rw [HC.out] at h
    exact h
   have SNN:=(SN.kxh ((Kx.refl R F [61] w6).off RS6 (by simp) ON) (by decide)).weak
   clear RS0 PB0 SB0 KW0 SQ0 EM0 SLF0 LT0 GL0 GH0 GS0 HT0 hb00 HF0 RS1 PB1 SB1 KW1 K1 EM1 RS2 PB2 SB2 KW2 K2 EM2 hbz hbz2 hbz6 BX SLZ SN hg hat hgl hne RS6 KG PB6 SB6 e0 e1 ON hc0 hc1 RU PBU SBU SQU EMU SLFU LTU GLU GHU GSU HTU KUW RG10 HZ
   generalize w6.setCell ⟨R,7,none⟩ (.slice (some ⟨g6,0,none⟩) (fm+1) cap6)=w8 at *
   try rw [← hua']
   clear hua'
   go_wp2
   go_roundw
   case rel=>first|exact ⟨i+1,_,_,_,_,_,_,_,by omega,by go_num,RN,EMN,HC1,by omega,SNN,KF⟩|((repeat apply Exists.intro);refine ⟨?_,rfl⟩;exact ⟨i+1,_,_,_,_,_,_,_,by omega,by go_num,RN,EMN,HC1,by omega,SNN,KF⟩)
   case measure=>simp [intOf];omega
  ·obtain rfl:i=Q.rn:=by omega
   have hkI:¬ (Q.rn:Int)<(Q.rn:Int):=by omega
   have y5:=(RPr.cell 5).trans (show _=some (.slice Q.va Q.vn Q.vc) from rfl)
   obtain ⟨wv,ewv⟩:∃ x,x=wr:=⟨_,rfl⟩
   subst ewv
   go_wp2_with fail
   clear y5
   have EM0':EM wv F (.slice ea em ec) (aZ Q.V (bC Q.V Q.R (fun i=>cv (Q.R i) (fun j=>vbs (Q.V j)) Q.vn) Q.vn Q.rn) 0).1 (2*Q.K+3):=EMi
   have HC0':Hid (c=(aZ Q.V (bC Q.V Q.R (fun i=>cv (Q.R i) (fun j=>vbs (Q.V j)) Q.vn) Q.vn Q.rn) 0).2):=HC
   go_loopw [53] (fun s wr=>∃ (j:Nat) (ea2:Option Addr) (em2 ec2 c2:Nat),j≤Q.vn∧s = .int .i64 j∧Rw 61 wr R #[.slice sa Q.vn sc,csv,k1,k2,k3,.slice ea2 em2 ec2,.int .i64 (c2:Nat),.slice fa fm fc]∧EM wr F (.slice ea2 em2 ec2) (aZ Q.V (bC Q.V Q.R (fun i=>cv (Q.R i) (fun j=>vbs (Q.V j)) Q.vn) Q.vn Q.rn) j).1 (2*Q.K+3)∧Hid (c2=(aZ Q.V (bC Q.V Q.R (fun i=>cv (Q.R i) (fun j=>vbs (Q.V j)) Q.vn) Q.vn Q.rn) j).2)∧Kx R F [61,74,3] w7 wr) (fun t _=>Q.vn-(intOf t).toNat)
   case atStart=>exact ⟨0,_,_,_,_,Nat.zero_le _,rfl,RW,EM0',HC0',KU⟩
   case round =>
    have hem0:((bC Q.V Q.R (fun i=>cv (Q.R i) (fun j=>vbs (Q.V j)) Q.vn) Q.vn Q.rn)).1.length≤2*Q.rn:=(lQ Q.V Q.R (fun i=>cv (Q.R i) (fun j=>vbs (Q.V j)) Q.vn) Q.vn Q.rn).1
    have hc0:((bC Q.V Q.R (fun i=>cv (Q.R i) (fun j=>vbs (Q.V j)) Q.vn) Q.vn Q.rn)).2≤2*Q.vn+2*Q.rn:=(lQ Q.V Q.R (fun i=>cv (Q.R i) (fun j=>vbs (Q.V j)) Q.vn) Q.vn Q.rn).2
    clear RW EM0' HC0' KU hbw2 RPr SQr HTr hsr EMi SLF HC hFw hemb hcb hfm
    obtain ⟨j,ea2,em2,ec2,c2,hj,rfl,RW,EMj,HC2,KU⟩:=hrel
    have hlen:=tV Q.V (bC Q.V Q.R (fun i=>cv (Q.R i) (fun j=>vbs (Q.V j)) Q.vn) Q.vn Q.rn) j
    have hemb:em2≤2*Q.rn+j:=by rw [EMj.len];omega
    have hcb:c2≤2*Q.vn+2*Q.rn+j:=by rw [HC2.out];omega
    clear hlen hem0 hc0
    have hFw:F≤wr.heap.size:=Nat.le_trans (by omega) KU.size
    have hbw2:Below w2.heap.size w2 wr:=hb27.trans ((KU.below (by omega)).mono hR2)
    have SQr:=SQ7.kxl KU (by decide) (by decide)
    have HTr:=HT7.kx KU (by omega) (by omega)
    have hsr:=KU.size
    by_cases hlt:j<Q.vn
    ·have hkI:(j:Int)<(Q.vn:Int):=by omega
     have hkI2:(j:Int)*13=((j*13:Nat):Int):=by omega
     have hkI3:(j:Int)*5=((j*5:Nat):Int):=by omega
     rcases HTG.out.v.below hbw2 with h00|⟨vg,hva,hev⟩
     ·omega
     obtain ⟨p1,a1,n1,k1',d1,m1,l1,p2,a2,n2,k2',d2,m2,l2,p3,a3,n3,k3',d3,m3,l3,hc13,GV1,GV2,GV3⟩:=hev j hlt
     obtain ⟨nm,enm⟩:∃ nm,nm=(Q.V j).nm:=⟨_,rfl⟩
     obtain ⟨hl,ehl⟩:∃ hl,hl=(Q.V j).hlo:=⟨_,rfl⟩
     obtain ⟨hh,ehh⟩:∃ hh,hh=(Q.V j).hhi:=⟨_,rfl⟩
     obtain ⟨wh,ewh⟩:∃ wh,wh=(Q.V j).whole:=⟨_,rfl⟩
     rw [← enm,← ehl,← ehh,← ewh] at hc13
     have r0:=hc13 0 _ rfl;have r1:=hc13 1 _ rfl;have r2:=hc13 2 _ rfl;have r3:=hc13 3 _ rfl;have r4:=hc13 4 _ rfl;have r5:=hc13 5 _ rfl;have r6:=hc13 6 _ rfl;have r7:=hc13 7 _ rfl;have r8:=hc13 8 _ rfl;have r9:=hc13 9 _ rfl;have r10:=hc13 10 _ rfl;have r11:=hc13 11 _ rfl;have r12:=hc13 12 _ rfl
     have HE:Hid (hl=(Q.V j).hlo∧hh=(Q.V j).hhi):=⟨ehl,ehh⟩
     clear hc13 hev enm ehl ehh ewh
     have hva':Q.va=some ⟨vg,0,none⟩:=hva
     clear hva
     rw [Nat.add_zero] at r0
     have hz:=aI wr (.cells #[.string nm,.bool p1,.slice a1 n1 k1',.slice d1 m1 l1,.bool hl,.bool p2,.slice a2 n2 k2',.slice d2 m2 l2,.bool hh,.bool p3,.slice a3 n3 k3',.slice d3 m3 l3,.bool wh] 50)
     have hsW:(wr.alloc (.cells #[.string nm,.bool p1,.slice a1 n1 k1',.slice d1 m1 l1,.bool hl,.bool p2,.slice a2 n2 k2',.slice d2 m2 l2,.bool hh,.bool p3,.slice a3 n3 k3',.slice d3 m3 l3,.bool wh] 50)).heap.size=wr.heap.size+1:=by simp
     have RU:=RW.below hz
     have VBU:=Rw.new 50 wr #[.string nm,.bool p1,.slice a1 n1 k1',.slice d1 m1 l1,.bool hl,.bool p2,.slice a2 n2 k2',.slice d2 m2 l2,.bool hh,.bool p3,.slice a3 n3 k3',.slice d3 m3 l3,.bool wh]
     have SQU:=SQr.below hz
     have EMU:=EMj.kx (dU (R:=R) (F:=F) (L:=[]) hz hFw) (by simp) (by simp) (by simp)
     have GLU:=GV2.below hz
     have GHU:=GV3.below hz
     have HTU:=HTr.below hz
     have KUW:=KU.bel hz hFw
     obtain ⟨g,c0,_,_,_,_,hsa0,_,ec0,_,hg0',_⟩:=SQU.at hlt
     rw [ec0] at hg0'
     have hgU:=hg0'
     have HZW:Hid (SzR ((Q.V j).hi-(Q.V j).lo) (2*Q.K+3)):=by
      obtain ⟨vb,vo,hVar⟩:=HPQ.out.var hlt
      have:=bY (Z:=Q.ZV) hlt
      exact (sub_sz hVar.shi hVar.slo).le (by omega)
     clear hz SQr HTr GV1 GV2 GV3 hg0' ec0 EMj
     cases hl
     ·cases hh
      ·go_wp2_with fail
       have hcond:((Q.V j).hlo && (Q.V j).hhi)=false:=by rw [← HE.out.1,← HE.out.2];rfl
       have EMN:EM (wr.alloc (.cells #[.string nm,.bool p1,.slice a1 n1 k1',.slice d1 m1 l1,.bool false,.bool p2,.slice a2 n2 k2',.slice d2 m2 l2,.bool false,.bool p3,.slice a3 n3 k3',.slice d3 m3 l3,.bool wh] 50)) F (.slice ea2 em2 ec2) (aZ Q.V (bC Q.V Q.R (fun i=>cv (Q.R i) (fun j=>vbs (Q.V j)) Q.vn) Q.vn Q.rn) (j+1)).1 (2*Q.K+3):=by
        unfold aZ
        rw [hcond]
        exact EMU
       have HCN:Hid (c2=(aZ Q.V (bC Q.V Q.R (fun i=>cv (Q.R i) (fun j=>vbs (Q.V j)) Q.vn) Q.vn Q.rn) (j+1)).2):=by
        show c2=_
        unfold aZ
        rw [hcond]
        exact HC2.out
       clear r0 r1 r2 r3 r4 r5 r6 r7 r8 r9 r10 r11 r12 hcond
       generalize wr.alloc (.cells #[.string nm,.bool p1,.slice a1 n1 k1',.slice d1 m1 l1,.bool false,.bool p2,.slice a2 n2 k2',.slice d2 m2 l2,.bool false,.bool p3,.slice a3 n3 k3',.slice d3 m3 l3,.bool wh] 50)=W2 at *
       try rw [← hva']
       clear hva'
       go_wp2
       go_roundw
       case rel=>first|exact ⟨j+1,_,_,_,_,by omega,by go_num,RU,EMN,HCN,KUW⟩|((repeat apply Exists.intro);refine ⟨?_,rfl⟩;exact ⟨j+1,_,_,_,_,by omega,by go_num,RU,EMN,HCN,KUW⟩)
       case measure=>simp [intOf];omega
      ·go_wp2_with fail
       have hcond:((Q.V j).hlo && (Q.V j).hhi)=false:=by rw [← HE.out.1,← HE.out.2];rfl
       have EMN:EM (wr.alloc (.cells #[.string nm,.bool p1,.slice a1 n1 k1',.slice d1 m1 l1,.bool false,.bool p2,.slice a2 n2 k2',.slice d2 m2 l2,.bool true,.bool p3,.slice a3 n3 k3',.slice d3 m3 l3,.bool wh] 50)) F (.slice ea2 em2 ec2) (aZ Q.V (bC Q.V Q.R (fun i=>cv (Q.R i) (fun j=>vbs (Q.V j)) Q.vn) Q.vn Q.rn) (j+1)).1 (2*Q.K+3):=by
        unfold aZ
        rw [hcond]
        exact EMU
       have HCN:Hid (c2=(aZ Q.V (bC Q.V Q.R (fun i=>cv (Q.R i) (fun j=>vbs (Q.V j)) Q.vn) Q.vn Q.rn) (j+1)).2):=by
        show c2=_
        unfold aZ
        rw [hcond]
        exact HC2.out
       clear r0 r1 r2 r3 r4 r5 r6 r7 r8 r9 r10 r11 r12 hcond
       generalize wr.alloc (.cells #[.string nm,.bool p1,.slice a1 n1 k1',.slice d1 m1 l1,.bool false,.bool p2,.slice a2 n2 k2',.slice d2 m2 l2,.bool true,.bool p3,.slice a3 n3 k3',.slice d3 m3 l3,.bool wh] 50)=W2 at *
       try rw [← hva']
       clear hva'
       go_wp2
       go_roundw
       case rel=>first|exact ⟨j+1,_,_,_,_,by omega,by go_num,RU,EMN,HCN,KUW⟩|((repeat apply Exists.intro);refine ⟨?_,rfl⟩;exact ⟨j+1,_,_,_,_,by omega,by go_num,RU,EMN,HCN,KUW⟩)
       case measure=>simp [intOf];omega
     ·cases hh
      ·go_wp2_with fail
       have hcond:((Q.V j).hlo && (Q.V j).hhi)=false:=by rw [← HE.out.1,← HE.out.2];rfl
       have EMN:EM (wr.alloc (.cells #[.string nm,.bool p1,.slice a1 n1 k1',.slice d1 m1 l1,.bool true,.bool p2,.slice a2 n2 k2',.slice d2 m2 l2,.bool false,.bool p3,.slice a3 n3 k3',.slice d3 m3 l3,.bool wh] 50)) F (.slice ea2 em2 ec2) (aZ Q.V (bC Q.V Q.R (fun i=>cv (Q.R i) (fun j=>vbs (Q.V j)) Q.vn) Q.vn Q.rn) (j+1)).1 (2*Q.K+3):=by
        unfold aZ
        rw [hcond]
        exact EMU
       have HCN:Hid (c2=(aZ Q.V (bC Q.V Q.R (fun i=>cv (Q.R i) (fun j=>vbs (Q.V j)) Q.vn) Q.vn Q.rn) (j+1)).2):=by
        show c2=_
        unfold aZ
        rw [hcond]
        exact HC2.out
       clear r0 r1 r2 r3 r4 r5 r6 r7 r8 r9 r10 r11 r12 hcond
       generalize wr.alloc (.cells #[.string nm,.bool p1,.slice a1 n1 k1',.slice d1 m1 l1,.bool true,.bool p2,.slice a2 n2 k2',.slice d2 m2 l2,.bool false,.bool p3,.slice a3 n3 k3',.slice d3 m3 l3,.bool wh] 50)=W2 at *
       try rw [← hva']
       clear hva'
       go_wp2
       go_roundw
       case rel=>first|exact ⟨j+1,_,_,_,_,by omega,by go_num,RU,EMN,HCN,KUW⟩|((repeat apply Exists.intro);refine ⟨?_,rfl⟩;exact ⟨j+1,_,_,_,_,by omega,by go_num,RU,EMN,HCN,KUW⟩)
       case measure=>simp [intOf];omega
      ·go_wp2_with fail
       have hcond:((Q.V j).hlo && (Q.V j).hhi)=true:=by rw [← HE.out.1,← HE.out.2];rfl
       clear r0 r1 r2 r3 r4 r5 r6 r7 r8 r9 r10 r11 r12 RW
       rw [hsa0] at RU
       generalize wr.alloc (.cells #[.string nm,.bool p1,.slice a1 n1 k1',.slice d1 m1 l1,.bool true,.bool p2,.slice a2 n2 k2',.slice d2 m2 l2,.bool true,.bool p3,.slice a3 n3 k3',.slice d3 m3 l3,.bool wh] 50)=W2 at *
       have RS0:=RU.below (aK W2)
       have VB0:=VBU.below (aK W2)
       have KW0:=dU (R:=R) (F:=F) (L:=[61,74]) (aK W2) (by omega)
       have hs0:W2.heap.size≤W2.drew.heap.size:=(aK W2).size
       have SQ0:=SQU.below (aK W2)
       have EM0:=EMU.kx (dU (R:=R) (F:=F) (L:=[]) (aK W2) (by omega)) (by simp) (by simp) (by simp)
       have GL0:=GLU.below (aK W2)
       have GH0:=GHU.below (aK W2)
       have HT0:=HTU.below (aK W2)
       have hg0:=aG (aK W2) hgU
       have hcF:(W2.drew.cell? ⟨R,0,none⟩=some (.slice (some ⟨g,0,none⟩) Q.vn sc)∧W2.drew.cell? ⟨g,j*5,none⟩=some (.int .i64 (clm Q.V j:Nat))∧W2.drew.cell? ⟨wr.heap.size,5,none⟩=some (.bool p2)∧W2.drew.cell? ⟨wr.heap.size,6,none⟩=some (.slice a2 n2 k2')∧W2.drew.cell? ⟨wr.heap.size,7,none⟩=some (.slice d2 m2 l2)∧W2.drew.cell? ⟨wr.heap.size,9,none⟩=some (.bool p3)∧W2.drew.cell? ⟨wr.heap.size,10,none⟩=some (.slice a3 n3 k3')∧W2.drew.cell? ⟨wr.heap.size,11,none⟩=some (.slice d3 m3 l3)):=⟨(RS0.cell 0).trans rfl,hg0,(VB0.cell 5).trans rfl,(VB0.cell 6).trans rfl,(VB0.cell 7).trans rfl,(VB0.cell 9).trans rfl,(VB0.cell 10).trans rfl,(VB0.cell 11).trans rfl⟩
       have HF0:=hcF
       clear hcF
       refine wp_region_noPanic (bI (fun _ w'=>w'.cell? ⟨R,0,none⟩=some (.slice (some ⟨g,0,none⟩) Q.vn sc)∧w'.cell? ⟨g,j*5,none⟩=some (.int .i64 (clm Q.V j:Nat))∧w'.cell? ⟨wr.heap.size,5,none⟩=some (.bool p2)∧w'.cell? ⟨wr.heap.size,6,none⟩=some (.slice a2 n2 k2')∧w'.cell? ⟨wr.heap.size,7,none⟩=some (.slice d2 m2 l2)∧w'.cell? ⟨wr.heap.size,9,none⟩=some (.bool p3)∧w'.cell? ⟨wr.heap.size,10,none⟩=some (.slice a3 n3 k3')∧w'.cell? ⟨wr.heap.size,11,none⟩=some (.slice d3 m3 l3)) (by as_aux_lemma=>kernel_rfl) ?_)
       have hc0:(W2.drew.cell? ⟨R,0,none⟩=some (.slice (some ⟨g,0,none⟩) Q.vn sc)∧W2.drew.cell? ⟨g,j*5,none⟩=some (.int .i64 (clm Q.V j:Nat))∧W2.drew.cell? ⟨wr.heap.size,5,none⟩=some (.bool p2)∧W2.drew.cell? ⟨wr.heap.size,6,none⟩=some (.slice a2 n2 k2')∧W2.drew.cell? ⟨wr.heap.size,7,none⟩=some (.slice d2 m2 l2)∧W2.drew.cell? ⟨wr.heap.size,9,none⟩=some (.bool p3)∧W2.drew.cell? ⟨wr.heap.size,10,none⟩=some (.slice a3 n3 k3')∧W2.drew.cell? ⟨wr.heap.size,11,none⟩=some (.slice d3 m3 l3)):=HF0
       generalize W2.drew=z0 at *
       refine wpAnyG.take 0 (v:=.pointer (some ⟨R,0,none⟩)) (by decide) (by as_aux_lemma=>kernel_rfl) (fun _ _ _ h=>h) 15 _ (by rfl) (fun _ _=>Iff.rfl) (fun _ _ _ h=>h) (by as_aux_lemma=>kernel_rfl) (by as_aux_lemma=>kernel_rfl) (by as_aux_lemma=>kernel_rfl) (by rfl) ?y0 ((fun _ h=>h) _ hc0) (by rfl) ?_
       case y0 =>
        rintro w' ⟨q0,q1,q2,q3,q4,q5,q6,q7⟩
        simp only [lgA,lgZ]
        go_simp
       simp only [lgA,lgZ,Act.put,lsA,lsZ,lsS]
       refine wpAnyG.take 1 (v:=.pointer (some ⟨R,0,none⟩)) (by decide) (by as_aux_lemma=>kernel_rfl) (fun _ _ _ h=>h) 2 _ (by rfl) (fun _ _=>Iff.rfl) (fun _ _ _ h=>h) (by as_aux_lemma=>kernel_rfl) (by as_aux_lemma=>kernel_rfl) (by as_aux_lemma=>kernel_rfl) (by rfl) ?y1 ((fun _ h=>h) _ hc0) (by rfl) ?_
       case y1 =>
        rintro w' ⟨q0,q1,q2,q3,q4,q5,q6,q7⟩
        simp only [lgA,lgZ,lgS]
        go_simp
       simp only [lgA,lgZ,lgS,Act.put,lsA,lsZ,lsS]
       refine wpAnyG.take 2 (v:=.pointer (some ⟨R,0,none⟩)) (by decide) (by as_aux_lemma=>kernel_rfl) (fun _ _ _ h=>h) 3 _ (by rfl) (fun _ _=>Iff.rfl) (fun _ _ _ h=>h) (by as_aux_lemma=>kernel_rfl) (by as_aux_lemma=>kernel_rfl) (by as_aux_lemma=>kernel_rfl) (by rfl) ?y2 ((fun _ h=>h) _ hc0) (by rfl) ?_
       case y2 =>
        rintro w' ⟨q0,q1,q2,q3,q4,q5,q6,q7⟩
        simp only [lgA,lgZ,lgS]
        go_simp
       simp only [lgA,lgZ,lgS,Act.put,lsA,lsZ,lsS]
       refine wpAnyG.take 3 (v:=.pointer (some ⟨R,0,none⟩)) (by decide) (by as_aux_lemma=>kernel_rfl) (fun _ _ _ h=>h) 4 _ (by rfl) (fun _ _=>Iff.rfl) (fun _ _ _ h=>h) (by as_aux_lemma=>kernel_rfl) (by as_aux_lemma=>kernel_rfl) (by as_aux_lemma=>kernel_rfl) (by rfl) ?y3 ((fun _ h=>h) _ hc0) (by rfl) ?_
       case y3 =>
        rintro w' ⟨q0,q1,q2,q3,q4,q5,q6,q7⟩
        simp only [lgA,lgZ,lgS]
        go_simp
       simp only [lgA,lgZ,lgS,Act.put,lsA,lsZ,lsS]
       refine wpAnyG.take 4 (v:=.slice (some ⟨g,0,none⟩) Q.vn sc) (by decide) (by as_aux_lemma=>kernel_rfl) (fun _ _ _ h=>h) 6 _ (by rfl) (fun _ _=>Iff.rfl) (fun _ _ _ h=>h) (by as_aux_lemma=>kernel_rfl) (by as_aux_lemma=>kernel_rfl) (by as_aux_lemma=>kernel_rfl) (by rfl) ?y4 ((fun _ h=>h) _ hc0) (by rfl) ?_
       case y4 =>
        rintro w' ⟨q0,q1,q2,q3,q4,q5,q6,q7⟩
        simp only [lgA,lgZ,lgS]
        go_simp
       simp only [lgA,lgZ,lgS,Act.put,lsA,lsZ,lsS]
       refine wpAnyG.take 5 (v:=.int .i64 (j:Int)) (by decide) (by as_aux_lemma=>kernel_rfl) (fun _ _ _ h=>h) 6 _ (by rfl) (fun _ _=>Iff.rfl) (fun _ _ _ h=>h) (by as_aux_lemma=>kernel_rfl) (by as_aux_lemma=>kernel_rfl) (by as_aux_lemma=>kernel_rfl) (by rfl) ?y5 ((fun _ h=>h) _ hc0) (by rfl) ?_
       case y5 =>
        rintro w' ⟨q0,q1,q2,q3,q4,q5,q6,q7⟩
        simp only [lgA,lgZ,lgS]
        go_simp
       simp only [lgA,lgZ,lgS,Act.put,lsA,lsZ,lsS]
       refine wpAnyG.take 6 (v:=.pointer (some ⟨g,j*5,none⟩)) (by decide) (by as_aux_lemma=>kernel_rfl) (fun _ _ _ h=>h) 7 _ (by rfl) (fun _ _=>Iff.rfl) (fun _ _ _ h=>h) (by as_aux_lemma=>kernel_rfl) (by as_aux_lemma=>kernel_rfl) (by as_aux_lemma=>kernel_rfl) (by rfl) ?y6 ((fun _ h=>h) _ hc0) (by rfl) ?_
       case y6 =>
        rintro w' ⟨q0,q1,q2,q3,q4,q5,q6,q7⟩
        simp only [lgA,lgZ,lgS]
        go_simp
       simp only [lgA,lgZ,lgS,Act.put,lsA,lsZ,lsS]
       refine wpAnyG.take 7 (v:=.pointer (some ⟨g,j*5,none⟩)) (by decide) (by as_aux_lemma=>kernel_rfl) (fun _ _ _ h=>h) 8 _ (by rfl) (fun _ _=>Iff.rfl) (fun _ _ _ h=>h) (by as_aux_lemma=>kernel_rfl) (by as_aux_lemma=>kernel_rfl) (by as_aux_lemma=>kernel_rfl) (by rfl) ?y7 ((fun _ h=>h) _ hc0) (by rfl) ?_
       case y7 =>
        rintro w' ⟨q0,q1,q2,q3,q4,q5,q6,q7⟩
        simp only [lgA,lgZ,lgS]
        go_simp
       simp only [lgA,lgZ,lgS,Act.put,lsA,lsZ,lsS]
       refine wpAnyG.take 8 (v:=.int .i64 (clm Q.V j:Nat)) (by decide) (by as_aux_lemma=>kernel_rfl) (fun _ _ _ h=>h) 15 _ (by rfl) (fun _ _=>Iff.rfl) (fun _ _ _ h=>h) (by as_aux_lemma=>kernel_rfl) (by as_aux_lemma=>kernel_rfl) (by as_aux_lemma=>kernel_rfl) (by rfl) ?y8 ((fun _ h=>h) _ hc0) (by rfl) ?_
       case y8 =>
        rintro w' ⟨q0,q1,q2,q3,q4,q5,q6,q7⟩
        simp only [lgA,lgZ,lgS]
        go_simp
       simp only [lgA,lgZ,lgS,Act.put,lsA,lsZ,lsS]
       refine wpAnyG.take 9 (v:=.pointer (some ⟨wr.heap.size,4,none⟩)) (by decide) (by as_aux_lemma=>kernel_rfl) (fun _ _ _ h=>h) 10 _ (by rfl) (fun _ _=>Iff.rfl) (fun _ _ _ h=>h) (by as_aux_lemma=>kernel_rfl) (by as_aux_lemma=>kernel_rfl) (by as_aux_lemma=>kernel_rfl) (by rfl) ?y9 ((fun _ h=>h) _ hc0) (by rfl) ?_
       case y9 =>
        rintro w' ⟨q0,q1,q2,q3,q4,q5,q6,q7⟩
        simp only [lgA,lgZ,lgS]
        go_simp
       simp only [lgA,lgZ,lgS,Act.put,lsA,lsZ,lsS]
       refine wpAnyG.take 10 (v:=.pointer (some ⟨wr.heap.size,5,none⟩)) (by decide) (by as_aux_lemma=>kernel_rfl) (fun _ _ _ h=>h) 11 _ (by rfl) (fun _ _=>Iff.rfl) (fun _ _ _ h=>h) (by as_aux_lemma=>kernel_rfl) (by as_aux_lemma=>kernel_rfl) (by as_aux_lemma=>kernel_rfl) (by rfl) ?y10 ((fun _ h=>h) _ hc0) (by rfl) ?_
       case y10 =>
        rintro w' ⟨q0,q1,q2,q3,q4,q5,q6,q7⟩
        simp only [lgA,lgZ,lgS]
        go_simp
       simp only [lgA,lgZ,lgS,Act.put,lsA,lsZ,lsS]
       refine wpAnyG.take 11 (v:=.agg #[.bool p2,.slice a2 n2 k2',.slice d2 m2 l2]) (by decide) (by as_aux_lemma=>kernel_rfl) (fun _ _ _ h=>h) 15 _ (by rfl) (fun _ _=>Iff.rfl) (fun _ _ _ h=>h) (by as_aux_lemma=>kernel_rfl) (by as_aux_lemma=>kernel_rfl) (by as_aux_lemma=>kernel_rfl) (by rfl) ?y11 ((fun _ h=>h) _ hc0) (by rfl) ?_
       case y11 =>
        rintro w' ⟨q0,q1,q2,q3,q4,q5,q6,q7⟩
        simp only [lgA,lgZ,lgS]
        go_simp
       simp only [lgA,lgZ,lgS,Act.put,lsA,lsZ,lsS]
       refine wpAnyG.take 12 (v:=.pointer (some ⟨wr.heap.size,8,none⟩)) (by decide) (by as_aux_lemma=>kernel_rfl) (fun _ _ _ h=>h) 13 _ (by rfl) (fun _ _=>Iff.rfl) (fun _ _ _ h=>h) (by as_aux_lemma=>kernel_rfl) (by as_aux_lemma=>kernel_rfl) (by as_aux_lemma=>kernel_rfl) (by rfl) ?y12 ((fun _ h=>h) _ hc0) (by rfl) ?_
       case y12 =>
        rintro w' ⟨q0,q1,q2,q3,q4,q5,q6,q7⟩
        simp only [lgA,lgZ,lgS]
        go_simp
       simp only [lgA,lgZ,lgS,Act.put,lsA,lsZ,lsS]
       refine wpAnyG.take 13 (v:=.pointer (some ⟨wr.heap.size,9,none⟩)) (by decide) (by as_aux_lemma=>kernel_rfl) (fun _ _ _ h=>h) 14 _ (by rfl) (fun _ _=>Iff.rfl) (fun _ _ _ h=>h) (by as_aux_lemma=>kernel_rfl) (by as_aux_lemma=>kernel_rfl) (by as_aux_lemma=>kernel_rfl) (by rfl) ?y13 ((fun _ h=>h) _ hc0) (by rfl) ?_
       case y13 =>
        rintro w' ⟨q0,q1,q2,q3,q4,q5,q6,q7⟩
        simp only [lgA,lgZ,lgS]
        go_simp
       simp only [lgA,lgZ,lgS,Act.put,lsA,lsZ,lsS]
       refine wpAnyG.take 14 (v:=.agg #[.bool p3,.slice a3 n3 k3',.slice d3 m3 l3]) (by decide) (by as_aux_lemma=>kernel_rfl) (fun _ _ _ h=>h) 15 _ (by rfl) (fun _ _=>Iff.rfl) (fun _ _ _ h=>h) (by as_aux_lemma=>kernel_rfl) (by as_aux_lemma=>kernel_rfl) (by as_aux_lemma=>kernel_rfl) (by rfl) ?y14 ((fun _ h=>h) _ hc0) (by rfl) ?_
       case y14 =>
        rintro w' ⟨q0,q1,q2,q3,q4,q5,q6,q7⟩
        simp only [lgA,lgZ,lgS]
        go_simp
       simp only [lgA,lgZ,lgS,Act.put,lsA,lsZ,lsS]
       refine wpAnyG.one 15 (by as_aux_lemma=>kernel_rfl) (by decide) (by rfl) (fun K hK=>?_)
       simp only [lgA,lgZ,lgS]
       go_simp
       refine (addWidQ (Sl:=(2*Q.K+3)) (clm Q.V j) z0 RS0 EM0 (by omega) GL0 GH0 ⟨by omega,by omega⟩ HZW.out (by omega) (by omega) (by omega) HT0).mono ?_
       rintro e z1 ⟨rfl,ea1,ec1,RS1,EM1,K1⟩
       have VB1:=VB0.kxh K1 (by decide)
       have hg1:z1.cell? ⟨g,j*5,none⟩=some (.int .i64 (clm Q.V j:Nat)):=by
        have:=(((SQ0.kxl K1 (by decide) (by decide)).at2 hlt hsa0))
        exact this
       have hcF:(z1.cell? ⟨R,0,none⟩=some (.slice (some ⟨g,0,none⟩) Q.vn sc)∧z1.cell? ⟨g,j*5,none⟩=some (.int .i64 (clm Q.V j:Nat))∧z1.cell? ⟨wr.heap.size,5,none⟩=some (.bool p2)∧z1.cell? ⟨wr.heap.size,6,none⟩=some (.slice a2 n2 k2')∧z1.cell? ⟨wr.heap.size,7,none⟩=some (.slice d2 m2 l2)∧z1.cell? ⟨wr.heap.size,9,none⟩=some (.bool p3)∧z1.cell? ⟨wr.heap.size,10,none⟩=some (.slice a3 n3 k3')∧z1.cell? ⟨wr.heap.size,11,none⟩=some (.slice d3 m3 l3)):=⟨(RS1.cell 0).trans rfl,hg1,(VB1.cell 5).trans rfl,(VB1.cell 6).trans rfl,(VB1.cell 7).trans rfl,(VB1.cell 9).trans rfl,(VB1.cell 10).trans rfl,(VB1.cell 11).trans rfl⟩
       have hc1:=hcF
       clear hcF
       dsimp only
       refine hK _ _ ((fun _ h=>h) _ hc1) ?_
       clear hK K
       refine wpAnyG.done (by as_aux_lemma=>kernel_rfl) (NoPanic.normal ?_)
       have hs1:=K1.size
       have EMN:EM z1 F (.slice ea1 (em2+1) ec1) (aZ Q.V (bC Q.V Q.R (fun i=>cv (Q.R i) (fun j=>vbs (Q.V j)) Q.vn) Q.vn Q.rn) (j+1)).1 (2*Q.K+3):=by
        unfold aZ
        rw [hcond]
        show EM z1 F _ (((aZ Q.V (bC Q.V Q.R (fun i=>cv (Q.R i) (fun j=>vbs (Q.V j)) Q.vn) Q.vn Q.rn) j)).1++[⟨[⟨(clm Q.V j:Nat),1⟩,⟨(((aZ Q.V (bC Q.V Q.R (fun i=>cv (Q.R i) (fun j=>vbs (Q.V j)) Q.vn) Q.vn Q.rn) j)).2:Nat),1⟩],(Q.V j).hi-(Q.V j).lo⟩]) _
        rw [← HC2.out]
        exact EM1
       have HCN:Hid (c2+1=(aZ Q.V (bC Q.V Q.R (fun i=>cv (Q.R i) (fun j=>vbs (Q.V j)) Q.vn) Q.vn Q.rn) (j+1)).2):=by
        show c2+1=_
        unfold aZ
        rw [hcond,HC2.out]
        rfl
       have KF:=KUW.trans ((KW0.trans K1).up (by simp))
       rw [← hsa0] at RS1
       clear RS0 VB0 KW0 SQ0 EM0 GL0 GH0 HT0 hg0 HF0 VB1 hg1 hc0 hc1 EM1 K1 RU VBU SQU EMU GLU GHU HTU KUW hgU HZW hcond
       try rw [← hva']
       clear hva'
       go_wp2
       go_roundw
       case rel=>first|exact ⟨j+1,_,_,_,_,by omega,by go_num,RS1,EMN,HCN,KF⟩|((repeat apply Exists.intro);refine ⟨?_,rfl⟩;exact ⟨j+1,_,_,_,_,by omega,by go_num,RS1,EMN,HCN,KF⟩)
       case measure=>simp [intOf];omega
    ·obtain rfl:j=Q.vn:=by omega
     have hkI:¬ (Q.vn:Int)<(Q.vn:Int):=by omega
     go_wp2
     go_ret
     exact ⟨R,rfl,Q,HTID.out,HPQ.out.below hbw2,⟨F,sa,sc,csv,k1,k2,k3,_,c2,_,hRF,RW,SQr,TM7.kx KU (by decide) (by decide),K37.kx KU (by decide),EMj,HC2.out⟩,hb2.trans (hbw2.mono hsw2)⟩
end Go.Proofs.YtmeimjakdheidaaGreatDoor

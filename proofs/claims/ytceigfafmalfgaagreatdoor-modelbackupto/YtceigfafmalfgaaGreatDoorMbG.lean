import Derived.Test.YtceigfafmalfgaaGreatDoorMbDAll
namespace Go.Proofs.YtceigfafmalfgaaGreatDoor
open Go.RowKit Go.Maps
def prG (P:Prob) (fk:Bool) (ck:Option Addr) (nk kk:Nat) (dk:Option Addr) (mk lk:Nat) (gV:Nat) (ra:Option Addr) (rc:Nat):Prob :=
 { mx:=P.mx,nm:=P.nm,p:=fk,a:=ck,na:=nk,ca:=kk,d:=dk,nd:=mk,cd:=lk,va:=some ⟨gV,0,none⟩,vn:=P.vn,vc:=P.vn,ra:=ra,rn:=P.rn,rc:=rc,k:=P.k,V:=P.V,ZV:=P.ZV,R:=fun i=>⟨(P.R i).nm,flt (okR P i) (P.R i).nt,fun q=>⟨((fR P i q).var.toNat:Int),(fR P i q).coef⟩,(P.R i).hlo,(P.R i).lo-0,(P.R i).hhi,(P.R i).hi-0⟩,ZR:=P.ZR,S:=P.S,K:=P.K }
structure MtP (P Q:Prob):Prop where
 mx:Q.mx=P.mx
 nm:Q.nm=P.nm
 vn:Q.vn=P.vn
 rn:Q.rn=P.rn
 k:Q.k=P.k
 S:Q.S=P.S
 K:Q.K=P.K
 V:Q.V=P.V
 ZV:Q.ZV=P.ZV
 ZR:Q.ZR=P.ZR
 R:∀ i,i<P.rn→(Q.R i).nm=(P.R i).nm∧(Q.R i).hlo=(P.R i).hlo∧(Q.R i).lo=(P.R i).lo∧(Q.R i).hhi=(P.R i).hhi∧(Q.R i).hi=(P.R i).hi∧∀ x:Int,0≤x→x<(P.vn:Int)→gsum (Q.R i).t (Q.R i).nt x=gsum (P.R i).t (P.R i).nt x
theorem sub_nought (r:Rat):r-0=r:=by rw [Rat.sub_eq_add_neg,Rat.neg_zero,Rat.add_zero]
theorem gsum_congr {t u:Nat→PT} {n:Nat} (x:Int) (h:∀ i,i<n→t i=u i):gsum t n x=gsum u n x:=by
 unfold gsum
 exact rsum_congr (fun i hi=>by rw [h i hi])
theorem prG_mt (P:Prob) (fk:Bool) (ck:Option Addr) (nk kk:Nat) (dk:Option Addr) (mk lk:Nat) (gV:Nat) (ra:Option Addr) (rc:Nat):MtP P (prG P fk ck nk kk dk mk lk gV ra rc):=by
 refine ⟨rfl,rfl,rfl,rfl,rfl,rfl,rfl,rfl,rfl,rfl,fun i hi=>⟨rfl,rfl,sub_nought _,rfl,sub_nought _,fun x h0 h1=>?_⟩⟩
 show gsum (fun q=>⟨((fR P i q).var.toNat:Int),(fR P i q).coef⟩) (flt (okR P i) (P.R i).nt) x=_
 rw [gsum_congr (u:=fun q=>(P.R i).t (fxq (okR P i) (P.R i).nt q)) x (fun q hq=>?_)]
 ·refine gsum_flt (fun k e=>?_) _
  unfold okR
  rw [e,Bool.and_eq_true,decide_eq_true_iff,decide_eq_true_iff]
  exact ⟨h0,h1⟩
 ·have h2:=fR_var hq
  have e:(((fR P i q).var.toNat:Nat):Int)=(fR P i q).var:=by omega
  rw [e]
  rfl
theorem prG_pq {P:Prob} {fk:Bool} {ck:Option Addr} {nk kk:Nat} {dk:Option Addr} {mk lk:Nat} {gV:Nat} {ra:Option Addr} {rc:Nat} {w0 w:World} {B B2:Nat} {F:Nat→List Value} {ZS:Nat→Nat} (hP:PQ w0 P) (hb:Below w0.heap.size w0 w) (hk:TR w fk ck nk kk dk mk lk P.k P.S) (hV:VS w0 w B2 gV P.vn P.vn P.V P.ZV) (hS:SL w B 54 10 (.slice ra P.rn rc) P.rn F) (hF:∀ i,i<P.rn→RF w0 w B (F i) ((prG P fk ck nk kk dk mk lk gV ra rc).R i) (ZS i)) (hZ:∀ i,i<P.rn→ZS i≤P.ZR i+2) (hvn:P.vn≤1048576) :
  PQ w (prG P fk ck nk kk dk mk lk gV ra rc):=by
 refine ⟨hk,hP.s1,hP.sk,hV.lv hb (fun j hj=>?_),lw_of hS hF hb (fun i hi k hk=>?_) (fun i hi=>?_),hP.all,Nat.le_refl _,?_⟩
 ·have hj:j<P.vn:=hj
  rcases hP.v with h0|⟨b,o,_,h⟩
  ·omega
  ·have k:=h j hj
   exact ⟨k.s1,k.sobj,k.slo,k.shi,k.snm⟩
 ·have h1:=fR_var (P:=P) (i:=i) (q:=k) hk
  exact ⟨by show -9223372036854775808≤((fR P i k).var.toNat:Int);omega,by show ((fR P i k).var.toNat:Int)≤9223372036854775807;omega⟩
 ·have hi:i<P.rn:=hi
  rcases hP.r with h0|⟨b,o,_,h⟩
  ·omega
  ·have k:=h i hi
   exact ⟨k.s1,k.snm,by show SzR ((P.R i).lo-0) _;rw [sub_nought];exact k.slo,by show SzR ((P.R i).hi-0) _;rw [sub_nought];exact k.shi,hZ i hi⟩
 ·obtain ⟨a',cap',e,hc⟩:=hS.form
  simp only [Value.slice.injEq] at e
  show P.rn≤rc
  omega
set_option maxRecDepth 100000 in
set_option maxHeartbeats 16000000 in
theorem buildG (P:Prob) (T:Txt) (ns:List ByteArray) (w:World) (hT:TX w T) (hP:PQ w P) (hPK:P.K≤1048576) (hTB:TB w) (hTK:T.K≤1048577)
  (HND:Hid (∀ j,j<T.cn→(T.C j).nm.data.toList≠[]→¬ Tkn T j (T.C j).nm)) (HNM:Hid (allNames T=ns)) (HNL:Hid (ns.length=P.vn))
  (HC:Hid (1≤T.n∧(∀ i,i<1→(T.I i).nm.data.toList=[])∧(∀ i,1≤i→i<T.n→(T.I i).nm.data.toList≠[])∧(∀ i,i<1→1≤T.ZI i∧P.S+T.ZI i≤6000000)∧1≤P.S∧(∀ k,k≤1→SzR (rsum (fun i=>(T.I i).coef) k) P.S)∧rsum (fun i=>(T.I i).coef) 1=P.k))
  (HV1:Hid (ns.length≤1048576∧(∀ i,i<1→¬ (T.I i).nm ∈ ns)∧(∀ i,i+1<T.n→ns[i]? = some (T.I (i+1)).nm)∧(∀ k,k<T.ln→ns[k]? = some (T.L k).nm)∧(∀ k,k<T.wn→ns[fxq (whP P) P.vn k]? = some (T.M k).nm)∧(∀ j,j<ns.length→1≤P.ZV j∧SzR (gsum (tU T 1 (fun i=>i)) (T.n-1) (j:Int)) (P.ZV j))∧(∀ k,k<T.ln→T.ZL k≤P.ZV k)))
  (HVP:Hid (∀ j,j<P.vn→varsT T ns 1 (fun i=>i) (fun k=>k) (fxq (whP P) P.vn) j=P.V j))
  (HR:Hid ((∀ j,j<T.cn→∀ i,i<(T.C j).n→ns[(fR P j i).var.toNat]? = some ((T.C j).I i).nm∧((T.C j).I i).nm.data.toList≠[])∧∀ j,j<T.cn→(T.C j).nm.data.toList≠[]))
  (HCN:Hid (T.cn=P.rn)) (HMN:Hid (T.mx=P.mx∧T.nm=P.nm)) (HRF:Hid (∀ i,i<P.rn→rwG T (fun i q=>(fR P i q).var.toNat) i=⟨(P.R i).nm,flt (okR P i) (P.R i).nt,fun q=>⟨((fR P i q).var.toNat:Int),(fR P i q).coef⟩,(P.R i).hlo,(P.R i).lo-0,(P.R i).hhi,(P.R i).hi-0⟩∧T.ZC i+2≤P.ZR i+2)) (HVN:Hid (P.vn≤1048576)) :
  Calls Tryz.prog 7 #[T.val] w fun e w'=>∃ Q v w1,e = .returned (.tuple #[v,.nilIface])∧MtP P Q∧PQ w1 Q∧TO w' w.heap.size Q v∧Below w.heap.size w w':=by
 have X0:=Rw.new 43 w #[.bool T.mx,.string T.nm,.slice T.ia T.n T.ic,.slice T.ca T.cn T.cc,.slice T.la T.ln T.lc,.slice T.wa T.wn T.wc,.slice none 0 0]
 have hb0:=bel_d0 w (.cells #[.bool T.mx,.string T.nm,.slice T.ia T.n T.ic,.slice T.ca T.cn T.cc,.slice T.la T.ln T.lc,.slice T.wa T.wn T.wc,.slice none 0 0] 43)
 have es:(w.alloc (.cells #[.bool T.mx,.string T.nm,.slice T.ia T.n T.ic,.slice T.ca T.cn T.cc,.slice T.la T.ln T.lc,.slice T.wa T.wn T.wc,.slice none 0 0] 43)).heap.size=w.heap.size+1:=by simp
 have R0:=Rw.new 31 (w.alloc (.cells #[.bool T.mx,.string T.nm,.slice T.ia T.n T.ic,.slice T.ca T.cn T.cc,.slice T.la T.ln T.lc,.slice T.wa T.wn T.wc,.slice none 0 0] 43)) #[.bool false,.string ⟨#[]⟩,.bool false,.slice none 0 0,.slice none 0 0,.slice none 0 0,.slice none 0 0]
 rw [es] at R0
 have hb1:=bel_tr hb0 (bel_d0 (w.alloc (.cells #[.bool T.mx,.string T.nm,.slice T.ia T.n T.ic,.slice T.ca T.cn T.cc,.slice T.la T.ln T.lc,.slice T.wa T.wn T.wc,.slice none 0 0] 43)) (.cells #[.bool false,.string ⟨#[]⟩,.bool false,.slice none 0 0,.slice none 0 0,.slice none 0 0,.slice none 0 0] 31))
 replace X0:=X0.below (bel_d0 (w.alloc (.cells #[.bool T.mx,.string T.nm,.slice T.ia T.n T.ic,.slice T.ca T.cn T.cc,.slice T.la T.ln T.lc,.slice T.wa T.wn T.wc,.slice none 0 0] 43)) (.cells #[.bool false,.string ⟨#[]⟩,.bool false,.slice none 0 0,.slice none 0 0,.slice none 0 0,.slice none 0 0] 31))
 have y0:=(X0.cell 0).trans (show _=some (.bool T.mx) from rfl)
 have y1:=(X0.cell 1).trans (show _=some (.string T.nm) from rfl)
 have y2:=(X0.cell 2).trans (show _=some (.slice T.ia T.n T.ic) from rfl)
 have y3:=(X0.cell 3).trans (show _=some (.slice T.ca T.cn T.cc) from rfl)
 have y4:=(X0.cell 4).trans (show _=some (.slice T.la T.ln T.lc) from rfl)
 have y5:=(X0.cell 5).trans (show _=some (.slice T.wa T.wn T.wc) from rfl)
 have y6:=(X0.cell 6).trans (show _=some (.slice none 0 0) from rfl)
 unfold Txt.val
 go_enter Tryz.func7,Tryz.ntmps7
 go_wp2_with fail
 clear es hb0
 generalize (w.alloc (.cells #[.bool T.mx,.string T.nm,.slice T.ia T.n T.ic,.slice T.ca T.cn T.cc,.slice T.la T.ln T.lc,.slice T.wa T.wn T.wc,.slice none 0 0] 43)).alloc (.cells #[.bool false,.string ⟨#[]⟩,.bool false,.slice none 0 0,.slice none 0 0,.slice none 0 0,.slice none 0 0] 31)=W at *
 refine (takenQ T W (hT.below hb1) (by omega) HND.out).mono ?_
 rintro e w2 ⟨b2,D2,rfl,ho2,hb2,hH2,hV2,hB2⟩
 have X2:=X0.below hB2
 replace y0:=kept_c hB2 y0
 replace y1:=kept_c hB2 y1
 replace y2:=kept_c hB2 y2
 replace y3:=kept_c hB2 y3
 replace y4:=kept_c hB2 y4
 replace y5:=kept_c hB2 y5
 replace y6:=kept_c hB2 y6
 have hbw2:=bel_tr hb1 hB2
 go_wp2_with fail
 refine (placesQ T w2 (hT.below hbw2) (by omega)).mono ?_
 rintro e w3 ⟨p,q,b,D,nv,rfl,hPl,hqv,hB3⟩
 have X3:=X2.below hB3
 have hbw3:=bel_tr hbw2 hB3
 rw [HNM.out] at hPl
 obtain ⟨v',E',hq',hS',_⟩:=hPl.nm
 obtain ⟨na,nc,rfl,_⟩:=hS'.form
 have env:nv = .slice na ns.length nc:=by
  unfold Rw at hq' hqv
  rw [hqv] at hq'
  simpa using hq'
 subst env
 clear hS' hq'
 have R3:=(R0.below hB2).below hB3
 have hs1:=hb1.size
 have hsw:=hB2.size
 have hsw3:=hB3.size
 have hl0:=R0.lt
 have hbs0:w.heap.size+2≤W.heap.size:=by omega
 clear hH2 hV2 y0 y1 y2 y3 y4 y5 y6 X0 R0 X2 ho2
 go_wp2_with fail
 have NB:BoxC w3 w.heap.size (#[.bool T.mx,.string T.nm,.slice T.ia T.n T.ic,.slice T.ca T.cn T.cc,.slice T.la T.ln T.lc,.slice T.wa T.wn T.wc,.slice none 0 0]).toList:=fun i u hu=>(X3.cell i).trans (by simpa using hu)
 refine wp_region_noPanic (wp_region_guard (Till 20 20 (fun w'=>BoxC w' w.heap.size (#[.bool T.mx,.string T.nm,.slice T.ia T.n T.ic,.slice T.ca T.cn T.cc,.slice T.la T.ln T.lc,.slice T.wa T.wn T.wc,.slice none 0 0]).toList) (fun _=>True)) (by kernel_rfl) ?_)
 refine wpAnyG.take 0 (v:=.pointer (some ⟨w.heap.size,0,none⟩)) (by decide) (by kernel_rfl) (fun _ _ _ h=>h) 20 _ (by rfl) (till_ind (by decide) (by decide)) (fun L w' h1 h2=>h2.1 h1) (by kernel_rfl) (by kernel_rfl) (by kernel_rfl) (by rfl) ?y0 ⟨fun _=>NB,fun _=>trivial⟩ (by rfl) ?_
 case y0 =>
  rintro w' hB5
  skip
  simp only [lgA,lgZ]
  go_simp
 simp only [lgA,lgZ,Act.put,lsA,lsZ,lsS]
 refine wpAnyG.take 1 (v:=.bool T.mx) (by decide) (by kernel_rfl) (fun _ _ _ h=>h) 20 _ (by rfl) (till_ind (by decide) (by decide)) (fun L w' h1 h2=>h2.1 h1) (by kernel_rfl) (by kernel_rfl) (by kernel_rfl) (by rfl) ?y1 ⟨fun _=>NB,fun _=>trivial⟩ (by rfl) ?_
 case y1 =>
  rintro w' hB5
  have qhB50:=hB5 0 _ rfl
  simp only [lgA,lgZ,lgS]
  go_simp
 simp only [lgA,lgZ,lgS,Act.put,lsA,lsZ,lsS]
 refine wpAnyG.take 2 (v:=.pointer (some ⟨w.heap.size,1,none⟩)) (by decide) (by kernel_rfl) (fun _ _ _ h=>h) 20 _ (by rfl) (till_ind (by decide) (by decide)) (fun L w' h1 h2=>h2.1 h1) (by kernel_rfl) (by kernel_rfl) (by kernel_rfl) (by rfl) ?y2 ⟨fun _=>NB,fun _=>trivial⟩ (by rfl) ?_
 case y2 =>
  rintro w' hB5
  skip
  simp only [lgA,lgZ,lgS]
  go_simp
 simp only [lgA,lgZ,lgS,Act.put,lsA,lsZ,lsS]
 refine wpAnyG.take 3 (v:=.string T.nm) (by decide) (by kernel_rfl) (fun _ _ _ h=>h) 20 _ (by rfl) (till_ind (by decide) (by decide)) (fun L w' h1 h2=>h2.1 h1) (by kernel_rfl) (by kernel_rfl) (by kernel_rfl) (by rfl) ?y3 ⟨fun _=>NB,fun _=>trivial⟩ (by rfl) ?_
 case y3 =>
  rintro w' hB5
  have qhB51:=hB5 1 _ rfl
  simp only [lgA,lgZ,lgS]
  go_simp
 simp only [lgA,lgZ,lgS,Act.put,lsA,lsZ,lsS]
 refine wpAnyG.take 4 (v:=.pointer (some ⟨w.heap.size,2,none⟩)) (by decide) (by kernel_rfl) (fun _ _ _ h=>h) 20 _ (by rfl) (till_ind (by decide) (by decide)) (fun L w' h1 h2=>h2.1 h1) (by kernel_rfl) (by kernel_rfl) (by kernel_rfl) (by rfl) ?y4 ⟨fun _=>NB,fun _=>trivial⟩ (by rfl) ?_
 case y4 =>
  rintro w' hB5
  skip
  simp only [lgA,lgZ,lgS]
  go_simp
 simp only [lgA,lgZ,lgS,Act.put,lsA,lsZ,lsS]
 refine wpAnyG.take 5 (v:=.slice T.ia T.n T.ic) (by decide) (by kernel_rfl) (fun _ _ _ h=>h) 20 _ (by rfl) (till_ind (by decide) (by decide)) (fun L w' h1 h2=>h2.1 h1) (by kernel_rfl) (by kernel_rfl) (by kernel_rfl) (by rfl) ?y5 ⟨fun _=>NB,fun _=>trivial⟩ (by rfl) ?_
 case y5 =>
  rintro w' hB5
  have qhB52:=hB5 2 _ rfl
  simp only [lgA,lgZ,lgS]
  go_simp
 simp only [lgA,lgZ,lgS,Act.put,lsA,lsZ,lsS]
 refine wpAnyG.take 7 (v:=.agg #[.bool T.mx,.string T.nm,.slice T.ia T.n T.ic,.slice T.ca T.cn T.cc,.slice T.la T.ln T.lc,.slice T.wa T.wn T.wc,.slice none 0 0]) (by decide) (by kernel_rfl) (fun _ _ _ h=>h) 20 _ (by rfl) (till_ind (by decide) (by decide)) (fun L w' h1 h2=>h2.1 h1) (by kernel_rfl) (by kernel_rfl) (by kernel_rfl) (by rfl) ?y7 ⟨fun _=>NB,fun _=>trivial⟩ (by rfl) ?_
 case y7 =>
  rintro w' hB5
  have qhB50:=hB5 0 _ rfl;have qhB51:=hB5 1 _ rfl;have qhB52:=hB5 2 _ rfl;have qhB53:=hB5 3 _ rfl;have qhB54:=hB5 4 _ rfl;have qhB55:=hB5 5 _ rfl;have qhB56:=hB5 6 _ rfl
  simp only [lgA,lgZ,lgS]
  go_simp
 simp only [lgA,lgZ,lgS,Act.put,lsA,lsZ,lsS]
 refine wpAnyG.take 8 (v:=.map (some b)) (by decide) (by kernel_rfl) (fun _ _ _ h=>h) 20 _ (by rfl) (till_ind (by decide) (by decide)) (fun L w' h1 h2=>h2.1 h1) (by kernel_rfl) (by kernel_rfl) (by kernel_rfl) (by rfl) ?y8 ⟨fun _=>NB,fun _=>trivial⟩ (by rfl) ?_
 case y8 =>
  rintro w' hB5
  skip
  simp only [lgA,lgZ,lgS]
  go_simp
 simp only [lgA,lgZ,lgS,Act.put,lsA,lsZ,lsS]
 refine wpAnyG.take 9 (v:=.slice na ns.length nc) (by decide) (by kernel_rfl) (fun _ _ _ h=>h) 20 _ (by rfl) (till_ind (by decide) (by decide)) (fun L w' h1 h2=>h2.1 h1) (by kernel_rfl) (by kernel_rfl) (by kernel_rfl) (by rfl) ?y9 ⟨fun _=>NB,fun _=>trivial⟩ (by rfl) ?_
 case y9 =>
  rintro w' hB5
  skip
  simp only [lgA,lgZ,lgS]
  go_simp
 simp only [lgA,lgZ,lgS,Act.put,lsA,lsZ,lsS]
 refine wpAnyG.take 11 (v:=.pointer (some ⟨w.heap.size,3,none⟩)) (by decide) (by kernel_rfl) (fun _ _ _ h=>h) 20 _ (by rfl) (till_ind (by decide) (by decide)) (fun L w' h1 h2=>h2.1 h1) (by kernel_rfl) (by kernel_rfl) (by kernel_rfl) (by rfl) ?y11 ⟨fun _=>NB,fun _=>trivial⟩ (by rfl) ?_
 case y11 =>
  rintro w' hB5
  skip
  simp only [lgA,lgZ,lgS]
  go_simp
 simp only [lgA,lgZ,lgS,Act.put,lsA,lsZ,lsS]
 refine wpAnyG.take 12 (v:=.slice T.ca T.cn T.cc) (by decide) (by kernel_rfl) (fun _ _ _ h=>h) 20 _ (by rfl) (till_ind (by decide) (by decide)) (fun L w' h1 h2=>h2.1 h1) (by kernel_rfl) (by kernel_rfl) (by kernel_rfl) (by rfl) ?y12 ⟨fun _=>NB,fun _=>trivial⟩ (by rfl) ?_
 case y12 =>
  rintro w' hB5
  have qhB53:=hB5 3 _ rfl
  simp only [lgA,lgZ,lgS]
  go_simp
 simp only [lgA,lgZ,lgS,Act.put,lsA,lsZ,lsS]
 refine wpAnyG.take 13 (v:=.map (some b)) (by decide) (by kernel_rfl) (fun _ _ _ h=>h) 20 _ (by rfl) (till_ind (by decide) (by decide)) (fun L w' h1 h2=>h2.1 h1) (by kernel_rfl) (by kernel_rfl) (by kernel_rfl) (by rfl) ?y13 ⟨fun _=>NB,fun _=>trivial⟩ (by rfl) ?_
 case y13 =>
  rintro w' hB5
  skip
  simp only [lgA,lgZ,lgS]
  go_simp
 simp only [lgA,lgZ,lgS,Act.put,lsA,lsZ,lsS]
 refine wpAnyG.take 14 (v:=.map (some b2)) (by decide) (by kernel_rfl) (fun _ _ _ h=>h) 20 _ (by rfl) (till_ind (by decide) (by decide)) (fun L w' h1 h2=>h2.1 h1) (by kernel_rfl) (by kernel_rfl) (by kernel_rfl) (by rfl) ?y14 ⟨fun _=>NB,fun _=>trivial⟩ (by rfl) ?_
 case y14 =>
  rintro w' hB5
  skip
  simp only [lgA,lgZ,lgS]
  go_simp
 simp only [lgA,lgZ,lgS,Act.put,lsA,lsZ,lsS]
 refine wpAnyG.one 6 (by kernel_rfl) (by decide) (by rfl) (fun K hK=>?_)
 simp only [lgA,lgZ,lgS]
 go_simp
 refine (constantU (bel_tr hbw3 (bel_d1 _)) hT.i (by have:=hT.all;have:=tot_len T.ZI T.n;omega) 1 HC.out.1 HC.out.2.1 HC.out.2.2.1 P.S HC.out.2.2.2.1 HC.out.2.2.2.2.1 HC.out.2.2.2.2.2.1 (hTB.below (bel_tr hbw3 (bel_d1 _)))).mono ?_
 rintro e v1 ⟨fk,ck,nk,kk,dk,mk,lk,rfl,GK,hk1⟩
 have hc1:Below w3.heap.size w3 v1:=bel_tr (bel_d1 _) hk1
 have hm1:=hc1.size
 dsimp only
 refine hK _ _ ⟨fun _=>NB.below hc1,fun _=>trivial⟩ ?_
 clear hK K
 refine wpAnyG.one 10 (by kernel_rfl) (by decide) (by rfl) (fun K hK=>?_)
 simp only [lgA,lgZ,lgS]
 go_simp
 refine (variablesG T 1 (fun i=>i) (fun k=>k) (fxq (whP P) P.vn) P.ZV hT (bel_tr hbw3 hc1) (by omega) (hPl.below hc1) (hqv.below hc1) HV1.out.1 HC.out.1 HV1.out.2.1 HV1.out.2.2.1 HV1.out.2.2.2.1 HV1.out.2.2.2.2.1 HV1.out.2.2.2.2.2.1 HV1.out.2.2.2.2.2.2 (hTB.below (bel_tr hbw3 hc1))).mono ?_
 rintro e v2 ⟨gV,rfl,hVS,hk2⟩
 have hc2:Below w3.heap.size w3 v2:=bel_tr hc1 hk2
 have hm2:=hc2.size
 dsimp only
 refine hK _ _ ⟨fun _=>NB.below hc2,fun _=>trivial⟩ ?_
 clear hK K
 refine wpAnyG.one 15 (by kernel_rfl) (by decide) (by rfl) (fun K hK=>?_)
 simp only [lgA,lgZ,lgS]
 go_simp
 refine (namerQ b2 v2).mono ?_
 rintro e v3 ⟨rfl,RY,RX,hk3⟩
 have hc3:Below w3.heap.size w3 v3:=bel_tr hc2 hk3
 have hm3:=hk3.size
 dsimp only
 refine hK _ _ ⟨fun _=>NB.below hc3,fun _=>trivial⟩ ?_
 clear hK K
 refine wpAnyG.one 16 (by kernel_rfl) (by decide) (by rfl) (fun K hK=>?_)
 simp only [lgA,lgZ,lgS]
 go_simp
 refine (rowsG T (fun i q=>(fR P i q).var.toNat) hTK hT (bel_tr hbw3 hc3) (hPl.below hc3) HV1.out.1 (hTB.below (bel_tr hbw3 hc3)) HR.out.1 HR.out.2 _).mono ?_
 rintro e v4 ⟨ra,rc,F,rfl,hSR,hFR,hb34⟩
 have hc4:Below w3.heap.size w3 v4:=bel_tr hc3 hb34
 have hm4:=hb34.size
 dsimp only
 refine hK _ _ ⟨fun _=>NB.below hc4,fun _=>trivial⟩ ?_
 clear hK K
 refine wpAnyG.one 17 (by kernel_rfl) (by decide) (by rfl) (fun K hK=>?_)
 simp only [lgA,lgZ,lgS]
 go_simp
 refine hK _ _ ⟨fun _=>NB.below hc4,fun _=>trivial⟩ ?_
 clear hK K
 refine wpAnyG.one 18 (by kernel_rfl) (by decide) (by rfl) (fun K hK=>?_)
 simp only [lgA,lgZ,lgS]
 go_simp
 have hbw4:=bel_tr hbw3 hc4
 have GK4:=(((GK.val HC.out.2.2.2.2.2.2).below hk2).below hk3).below hb34
 have hV4:VS w v4 v1.heap.size gV P.vn P.vn P.V P.ZV:=by
  have h1:=(hVS.congr (V':=P.V) (fun j hj=>HVP.out j (by rw [HNL.out] at hj;exact hj))).below (bel_tr hk3 hb34)
  rw [HNL.out] at h1
  exact h1
 have hSR2:SL v4 v3.heap.size 54 10 (.slice ra P.rn rc) P.rn F:=by rw [← HCN.out];exact hSR
 have hPQ:=prG_pq (fk:=fk) (ck:=ck) (nk:=nk) (kk:=kk) (dk:=dk) (mk:=mk) (lk:=lk) (rc:=rc) (ZS:=fun i=>T.ZC i+2) hP hbw4 GK4.tr hV4 hSR2 (fun i hi=>by
  have h1:=hFR i (by rw [HCN.out];exact hi)
  rw [(HRF.out i hi).1] at h1
  exact h1) (fun i hi=>(HRF.out i hi).2) HVN.out
 have HTD:=tidyQ (prG P fk ck nk kk dk mk lk gV ra rc) v4 hPQ hPK (hTB.below hbw4)
 rw [HNL.out,HCN.out,HMN.out.1,HMN.out.2]
 refine HTD.mono ?_
 rintro e v5 ⟨tv,rfl,hTO,hk5⟩
 have hc5:Below w3.heap.size w3 v5:=bel_tr hc4 hk5
 have hsv4:w.heap.size≤v4.heap.size:=hbw4.size
 have hTO5:=hTO.mono hsv4
 have HMT:Hid (MtP P (prG P fk ck nk kk dk mk lk gV ra rc)):=prG_mt P fk ck nk kk dk mk lk gV ra rc
 have HPQ:Hid (PQ v4 (prG P fk ck nk kk dk mk lk gV ra rc)):=hPQ
 obtain ⟨tf,tc,tn,tk,tc',tn',tk',tva,tvc,tra,trc,tE,tF,rfl,_⟩:=id hTO5
 have R5:=R3.below hc5
 have y0:=(R5.cell 0).trans (show _=some (.bool false) from rfl)
 have z0:=R5.frozen 0
 have y1:=(R5.cell 1).trans (show _=some (.string ⟨#[]⟩) from rfl)
 have z1:=R5.frozen 1
 have y2:=(R5.cell 2).trans (show _=some (.bool false) from rfl)
 have z2:=R5.frozen 2
 have y3:=(R5.cell 3).trans (show _=some (.slice none 0 0) from rfl)
 have z3:=R5.frozen 3
 have y4:=(R5.cell 4).trans (show _=some (.slice none 0 0) from rfl)
 have z4:=R5.frozen 4
 have y5:=(R5.cell 5).trans (show _=some (.slice none 0 0) from rfl)
 have z5:=R5.frozen 5
 have y6:=(R5.cell 6).trans (show _=some (.slice none 0 0) from rfl)
 have z6:=R5.frozen 6
 clear HTD hPQ GK4 hV4 hTO hVS GK
 dsimp only
 refine hK _ _ ⟨fun _=>NB.below hc5,fun _=>trivial⟩ ?_
 clear hK K
 refine wpAnyG.one 19 (by kernel_rfl) (by decide) (by rfl) (fun K hK=>?_)
 simp only [lgA,lgZ,lgS]
 go_simp
 obtain ⟨R6,O6⟩:=R5.set7 (.bool P.mx) (.string P.nm) (.bool tf) (.slice tc tn tk) (.slice tc' tn' tk') (.slice tva P.vn tvc) (.slice tra P.rn trc)
 refine hK _ _ ⟨fun _=>fun a u hu=>(O6.cell (by show w.heap.size≠w.heap.size+1;omega)).trans (NB.below hc5 a u hu),fun _=>trivial⟩ ?_
 clear hK K
 refine wpAnyG.one 20 (by kernel_rfl) (by decide) (by rfl) (fun K hK=>?_)
 simp only [lgA,lgZ,lgS]
 go_simp
 refine hK _ _ ⟨fun h=>absurd h (by decide),fun _=>trivial⟩ ?_
 clear hK K
 refine wpAnyG.done (by kernel_rfl) (NoPanic.normal ?_)
 have hTO6:=hTO5.off R5 O6
 have hbw6:=(bel_tr hbw3 hc5).trans (O6.below (Nat.le_succ w.heap.size))
 clear hTO5 R5 O6 NB
 go_wp2
 exact bodyPost_ret (R6.ret2 Tryz.results7 _ rfl Tryz.underlying31 bldI) rfl ⟨_,_,v4,rfl,HMT.out,HPQ.out,hTO6,hbw6⟩
end Go.Proofs.YtceigfafmalfgaaGreatDoor

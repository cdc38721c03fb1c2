import Derived.Test.YtjiodidemimgmaaGreatDoorBoN
import Derived.Test.YtjiodidemimgmaaGreatDoorGuardK
namespace Go.Proofs.YtjiodidemimgmaaGreatDoor
open Go.RowKit
structure PivR (X X':Nat→RoD) (m i c:Nat):Prop where
 li:∀ k,lat (X' i).l k = lat (X i).l k * (lat (X i).l c)⁻¹
 ri:(X' i).r = (X i).r * (lat (X i).l c)⁻¹
 bi:(X' i).bas = (c:Int)
 ti:(X' i).tu = (X i).tu
 q:∀ q,q < m→q ≠ i→(∀ k,lat (X' q).l k = lat (X q).l k - lat (X q).l c * lat (X' i).l k)∧(X' q).r = (X q).r - (X' i).r * lat (X q).l c∧(X' q).bas = (X q).bas∧(X' q).tu = (X q).tu
def PivZ (X:Nat→RoD) (m S i c:Nat):Prop:=lat (X i).l c ≠ 0→(∀ k,SzR (lat (X i).l k * (lat (X i).l c)⁻¹) S)∧SzR ((X i).r * (lat (X i).l c)⁻¹) S∧∀ q,q < m→q ≠ i→(∀ k,SzR (lat (X q).l k - lat (X q).l c * (lat (X i).l k * (lat (X i).l c)⁻¹)) S)∧SzR ((X q).r - (X i).r * (lat (X i).l c)⁻¹ * lat (X q).l c) S
def PivC (w:World) (F:Nat) (f:Bf) (n:Nat) (X:Nat→RoD) (lc:List (Nat × Rat)) (S Sc i c:Nat) (e:Ending) (w':World):Prop:=e = .returned .nilIface∧∃ (f':Bf) (X':Nat→RoD),f'.b = f.b∧f'.rv = f.rv∧f'.m = f.m∧f'.cv = f.cv∧BD w' F f' n X' lc S Sc∧KF f.has f'.has w w'∧PivR X X' f.m i c
def PivP (w:World) (F:Nat) (f:Bf) (n:Nat) (X:Nat→RoD) (lc:List (Nat × Rat)) (S Sc:Nat) (i j:Int) (ev0 ev1:Value) (e:Ending) (w':World):Prop :=
 (thr X f.m i = false∨¬ (0≤j∧j < ((n + f.m:Nat):Int)))∧e = .returned ev0∧Below w.heap.size w w' ∨
 thr X f.m i = true∧(0≤j∧j < ((n + f.m:Nat):Int))∧lat (X i.toNat).l j.toNat = 0∧e = .returned ev1∧Below w.heap.size w w' ∨
 thr X f.m i = true∧(0≤j∧j < ((n + f.m:Nat):Int))∧lat (X i.toNat).l j.toNat ≠ 0∧PivC w F f n X lc S Sc i.toNat j.toNat e w'
set_option maxRecDepth 100000 in
set_option maxHeartbeats 8000000 in
theorem pivotC {F:Nat} {f:Bf} {n:Nat} {X:Nat→RoD} {lc:List (Nat × Rat)} {S Sc:Nat} (i c:Nat) (w:World) (h:BD w F f n X lc S Sc) (hi:i < f.m) (hb:(X i).bas ≠ -1) (hcN:c < n + f.m) (hz:PivZ X f.m S i c) (h0:lat (X i).l c ≠ 0) (hS:1≤S∧S + S + S≤6000000) (hN:n + f.m≤3000000) (hT:TB w) (hTF:4 < F) (hF:F≤w.heap.size) :
  Calls Tryz.prog 23 #[.pointer (some ⟨f.b,0,none⟩),.int .i64 (i:Nat),.int .i64 (c:Nat)] w fun e w'=>PivC w F f n X lc S Sc i c e w':=by
 obtain ⟨hz1,hz2,hz3⟩:=hz h0
 obtain ⟨iv,eiv⟩:∃ iv,iv = (lat (X i).l c)⁻¹:=⟨_,rfl⟩
 rw [← eiv] at hz1 hz2 hz3
 have HIV:Hid (iv = (lat (X i).l c)⁻¹):=eiv
 obtain ⟨tt,ett⟩:∃ tt,tt = lat (X i).l c:=⟨_,rfl⟩
 have HTT:Hid (tt = lat (X i).l c):=ett
 have ht0:tt ≠ 0:=by rw [ett];exact h0
 have hkk:=h.k i hi
 have HZ1:Hid (∀ e ∈ (X i).l,SzR (e.2 * iv) S):=fun e he=>by
  obtain ⟨j,hj⟩:=List.getElem?_of_mem he
  rw [← lat_at hkk.1 hj]
  exact hz1 e.1
 have HZ2:Hid (SzR ((X i).r * iv) S):=hz2
 have HZQ:Hid (∀ q,q < f.m→q ≠ i→(∀ k,SzR (lat (X q).l k - lat (X q).l c * (lat (X i).l k * iv)) S)∧SzR ((X q).r - (X i).r * iv * lat (X q).l c) S):=hz3
 clear hz hz1 hz2 hz3 eiv ett h0
 obtain ⟨rg,rc,p0,a0,n0,c0,d0,m0,e0,erv,y0,_,_,_,y4,_,_⟩:=h.get hi
 obtain ⟨m,em⟩:∃ m,m = f.m:=⟨_,rfl⟩
 have HM:Hid (m = f.m):=em
 have HRV:Hid (f.rv = .slice (some ⟨rg,0,none⟩) f.m rc):=erv
 have x1:=(h.rw.cell 1).trans (show _ = some f.rv from rfl)
 rw [erv,← em] at x1
 have hkI:(i:Int) < (m:Int):=by omega
 have hk0:¬ (i:Int) < 0:=by omega
 have hk6:(i:Int) * 6 = ((i * 6:Nat):Int):=by omega
 have hdc:decide (0≤(c:Int)∧(c:Int) < ((n + f.m:Nat):Int)) = true:=decide_eq_true (by omega)
 have ht:thr X f.m (i:Int) = true:=by
  unfold thr
  rw [decide_eq_true (show 0≤(i:Int)∧(i:Int) < (f.m:Int) by omega),Int.toNat_natCast,decide_eq_false hb]
  rfl
 have LK:=h.t i hi
 have hlen:=hkk.1.len _ hkk.2.1
 obtain ⟨va,vc,eva,_⟩:=LK.form
 obtain ⟨vn,evn⟩:∃ vn,vn = (X i).l.length:=⟨_,rfl⟩
 rw [← evn] at eva hlen
 have HVN:Hid (vn = (X i).l.length):=evn
 rw [eva] at LK y0
 clear erv eva evn hb em y4
 go_enter Tryz.func23,Tryz.ntmps23
 go_wp2_with fail
 refine (isThereB (i:Int) w h).mono ?_
 rintro e w1 ⟨rfl,rfl⟩
 rw [ht]
 go_wp2_with fail
 refine (isColB (c:Int) w1 h hN).mono ?_
 rintro e W1 ⟨rfl,hb1⟩
 rw [hdc]
 have y0':=kept_c hb1 y0
 have x1':=kept_c hb1 x1
 go_wp2_with fail
 refine (atB (c:Int) W1 (LK.below hb1) hkk.1 (by rw [← HVN.out];omega)).mono ?_
 rintro e W2 ⟨tp,ta,tn,tc,td,tm,te,rfl,ZT,hb2⟩
 rw [latI_nat,← HTT.out] at ZT
 have hbw2:=bel_tr hb1 hb2
 clear y0' x1'
 go_wp2_with fail
 refine (invQ W2 ZT.tr (by omega) hS.1 ht0 (hT.below hbw2)).mono ?_
 rintro e w2 ⟨fp,fa,fn,fc,fd,fm,fe,rfl,G2,hb3⟩
 replace hbw2:=bel_tr hbw2 hb3
 have hz3:=bel_d0 w2 (.cells #[.bool fp,.slice fa fn fc,.slice fd fm fe] 29)
 have BT:=box_new w2 #[.bool fp,.slice fa fn fc,.slice fd fm fe] 29
 have hs3:(w2.alloc (.cells #[.bool fp,.slice fa fn fc,.slice fd fm fe] 29)).heap.size = w2.heap.size + 1:=by simp
 have hb4:=bel_tr hbw2 hz3
 have B3:=h.below hb4
 have hT3:=hT.below hb4
 have G3:=(G2.mono (Nat.zero_le _)).below hz3
 have eiv:tt⁻¹ = iv:=by rw [HIV.out,HTT.out]
 rw [eiv] at G3
 have hs4:=hb4.size
 have x3:=kept_c hb4 x1
 clear hb1 hb2 hb3 G2 ZT LK y0 x1 eiv ht hdc hz3
 go_wp2_with fail
 generalize w2.alloc (.cells #[.bool fp,.slice fa fn fc,.slice fd fm fe] 29) = W3 at *
 have HBA:∀ w',Below W3.heap.size W3 w'→w'.cell? ⟨f.b,1,none⟩ = some (.slice (some ⟨rg,0,none⟩) m rc):=fun w' h=>kept_c h x3
 have HBX:∀ w',Below W3.heap.size W3 w'→(w'.cell? ⟨f.b,1,none⟩ = some (.slice (some ⟨rg,0,none⟩) m rc)∧w'.cell? ⟨w2.heap.size,0,none⟩ = some (.bool fp)∧w'.cell? ⟨w2.heap.size,1,none⟩ = some (.slice fa fn fc)∧w'.cell? ⟨w2.heap.size,2,none⟩ = some (.slice fd fm fe)):=fun w' h=>⟨kept_c h x3,kept_c h (BT 0 _ rfl),kept_c h (BT 1 _ rfl),kept_c h (BT 2 _ rfl)⟩
 refine wp_region_noPanic (wp_region_guard (TillA 7 (fun w'=>w'.cell? ⟨f.b,1,none⟩ = some (.slice (some ⟨rg,0,none⟩) m rc)∧w'.cell? ⟨w2.heap.size,0,none⟩ = some (.bool fp)∧w'.cell? ⟨w2.heap.size,1,none⟩ = some (.slice fa fn fc)∧w'.cell? ⟨w2.heap.size,2,none⟩ = some (.slice fd fm fe)) (fun w'=>w'.cell? ⟨f.b,1,none⟩ = some (.slice (some ⟨rg,0,none⟩) m rc))) (by as_aux_lemma=>kernel_rfl) ?_)
 have hc0:Below W3.heap.size W3 W3.drew:=bel_d1 _
 generalize W3.drew = z0 at *
 refine wpAnyG.take 0 (v:=.pointer (some ⟨f.b,0,none⟩)) (by decide) (by as_aux_lemma=>kernel_rfl) (fun _ _ _ h=>h) 1 _ (by rfl) (tillA_ind (by decide)) (fun L w' h1 h2=>h2.2) (by as_aux_lemma=>kernel_rfl) (by as_aux_lemma=>kernel_rfl) (by as_aux_lemma=>kernel_rfl) (by rfl) ?y0 ⟨fun _=>HBX _ hc0,HBA _ hc0⟩ (by rfl) ?_
 case y0 =>
  rintro w' q0
  simp only [lgA,lgZ]
  go_simp
 simp only [lgA,lgZ,Act.put,lsA,lsZ,lsS]
 refine wpAnyG.take 1 (v:=.pointer (some ⟨f.b,0,none⟩)) (by decide) (by as_aux_lemma=>kernel_rfl) (fun _ _ _ h=>h) 2 _ (by rfl) (tillA_ind (by decide)) (fun L w' h1 h2=>h2.2) (by as_aux_lemma=>kernel_rfl) (by as_aux_lemma=>kernel_rfl) (by as_aux_lemma=>kernel_rfl) (by rfl) ?y1 ⟨fun _=>HBX _ hc0,HBA _ hc0⟩ (by rfl) ?_
 case y1 =>
  rintro w' q0
  simp only [lgA,lgZ,lgS]
  go_simp
 simp only [lgA,lgZ,lgS,Act.put,lsA,lsZ,lsS]
 refine wpAnyG.take 2 (v:=.pointer (some ⟨f.b,1,none⟩)) (by decide) (by as_aux_lemma=>kernel_rfl) (fun _ _ _ h=>h) 3 _ (by rfl) (tillA_ind (by decide)) (fun L w' h1 h2=>h2.2) (by as_aux_lemma=>kernel_rfl) (by as_aux_lemma=>kernel_rfl) (by as_aux_lemma=>kernel_rfl) (by rfl) ?y2 ⟨fun _=>HBX _ hc0,HBA _ hc0⟩ (by rfl) ?_
 case y2 =>
  rintro w' q0
  simp only [lgA,lgZ,lgS]
  go_simp
 simp only [lgA,lgZ,lgS,Act.put,lsA,lsZ,lsS]
 refine wpAnyG.take 3 (v:=.slice (some ⟨rg,0,none⟩) m rc) (by decide) (by as_aux_lemma=>kernel_rfl) (fun _ _ _ h=>h) 5 _ (by rfl) (tillA_ind (by decide)) (fun L w' h1 h2=>h2.2) (by as_aux_lemma=>kernel_rfl) (by as_aux_lemma=>kernel_rfl) (by as_aux_lemma=>kernel_rfl) (by rfl) ?y3 ⟨fun _=>HBX _ hc0,HBA _ hc0⟩ (by rfl) ?_
 case y3 =>
  rintro w' q0
  simp only [lgA,lgZ,lgS]
  go_simp
 simp only [lgA,lgZ,lgS,Act.put,lsA,lsZ,lsS]
 refine wpAnyG.take 4 (v:=.int .i64 (i:Nat)) (by decide) (by as_aux_lemma=>kernel_rfl) (fun _ _ _ h=>h) 5 _ (by rfl) (tillA_ind (by decide)) (fun L w' h1 h2=>h2.2) (by as_aux_lemma=>kernel_rfl) (by as_aux_lemma=>kernel_rfl) (by as_aux_lemma=>kernel_rfl) (by rfl) ?y4 ⟨fun _=>HBX _ hc0,HBA _ hc0⟩ (by rfl) ?_
 case y4 =>
  rintro w' q0
  simp only [lgA,lgZ,lgS]
  go_simp
 simp only [lgA,lgZ,lgS,Act.put,lsA,lsZ,lsS]
 refine wpAnyG.take 5 (v:=.pointer (some ⟨rg,i * 6,none⟩)) (by decide) (by as_aux_lemma=>kernel_rfl) (fun _ _ _ h=>h) 7 _ (by rfl) (tillA_ind (by decide)) (fun L w' h1 h2=>h2.1 h1) (by as_aux_lemma=>kernel_rfl) (by as_aux_lemma=>kernel_rfl) (by as_aux_lemma=>kernel_rfl) (by rfl) ?y5 ⟨fun _=>HBX _ hc0,HBA _ hc0⟩ (by rfl) ?_
 case y5 =>
  rintro w' ⟨q0,q1,q2,q3⟩
  simp only [lgA,lgZ,lgS]
  go_simp
 simp only [lgA,lgZ,lgS,Act.put,lsA,lsZ,lsS]
 refine wpAnyG.take 6 (v:=.agg #[.bool fp,.slice fa fn fc,.slice fd fm fe]) (by decide) (by as_aux_lemma=>kernel_rfl) (fun _ _ _ h=>h) 7 _ (by rfl) (tillA_ind (by decide)) (fun L w' h1 h2=>h2.1 h1) (by as_aux_lemma=>kernel_rfl) (by as_aux_lemma=>kernel_rfl) (by as_aux_lemma=>kernel_rfl) (by rfl) ?y6 ⟨fun _=>HBX _ hc0,HBA _ hc0⟩ (by rfl) ?_
 case y6 =>
  rintro w' ⟨q0,q1,q2,q3⟩
  simp only [lgA,lgZ,lgS]
  go_simp
 simp only [lgA,lgZ,lgS,Act.put,lsA,lsZ,lsS]
 refine wpAnyG.one 7 (by as_aux_lemma=>kernel_rfl) (by decide) (by rfl) (fun K hK=>?_)
 simp only [lgA,lgZ,lgS]
 go_simp
 refine (rowMulB (i:=i) (rc:=rc) z0 (B3.below hc0) hi HRV.out (G3.below hc0) ⟨hS.1,hS.1,by omega⟩ HZ1.out HZ2.out (hT3.below hc0) hTF (by have:=hc0.size;omega) hN).mono ?_
 rintro e z1 ⟨rfl,B4,K4⟩
 dsimp only
 have xn:=(B4.rw.cell 1).trans (show _ = some f.rv from rfl)
 rw [HRV.out,← HM.out] at xn
 refine hK _ _ ⟨fun h=>absurd h (by decide),xn⟩ ?_
 clear hK K
 refine wpAnyG.done (by as_aux_lemma=>kernel_rfl) (NoPanic.normal ?_)
 have KW:KF f.has f.has w1 z1:=((KF.refl f.has w1).bel (bel_tr hb4 hc0)).trans K4
 obtain ⟨X1,eX1⟩:∃ X1:RoD,X1 = { X i with l:=ltim (X i).l iv,r:=(X i).r * iv }:=⟨_,rfl⟩
 rw [← eX1] at B4
 have HX1:Hid (X1 = { X i with l:=ltim (X i).l iv,r:=(X i).r * iv }):=eX1
 have hDn:=h.noU
 have hDl:=h.lt
 have x4:=(B4.rw.cell 1).trans (show _ = some f.rv from rfl)
 rw [HRV.out,← HM.out] at x4
 clear HBX HBA BT B3 hc0 K4 eX1 G3 hT3 x3
 go_wp2
 go_loopw [51] (fun sq wr=>∃ (q:Nat) (f':Bf) (X':Nat→RoD),q≤m∧sq = .int .i64 q∧Hid (f'.b = f.b∧f'.rv = f.rv∧f'.m = f.m∧f'.cv = f.cv)∧BD wr F f' n X' lc S Sc∧KF f.has f'.has w1 wr∧Hid (X' i = X1∧(∀ a,a < m→q≤a→a ≠ i→X' a = X a)∧∀ a,a < q→a ≠ i→(∀ k,lat (X' a).l k = lat (X a).l k - lat (X a).l c * lat X1.l k)∧(X' a).r = (X a).r - X1.r * lat (X a).l c∧(X' a).bas = (X a).bas∧(X' a).tu = (X a).tu)) (fun x _=>m - (intOf x).toNat)
 case atStart =>
  exact ⟨0,f,upR X i X1,Nat.zero_le _,rfl,⟨rfl,rfl,rfl,rfl⟩,B4,KW,⟨upR_self _ _ _,fun a _ _ ha=>upR_ne _ _ ha,fun a ha=>by omega⟩⟩
 case round =>
  clear B4 KW x4
  obtain ⟨q,f',X',hqm',rfl,HFE,BQ,KQ,HXX⟩:=hrel
  have hbw:Below F w1 wr:=KQ.below (fun k hk=>(hDl k hk).1) hF
  have HFM:Hid (f'.m = f.m):=HFE.out.2.2.1
  have HRVq:Hid (f'.rv = .slice (some ⟨rg,0,none⟩) f'.m rc):=by show f'.rv = _;rw [HFE.out.2.1,HFE.out.2.2.1];exact HRV.out
  have hTq:=hT.bF hTF hbw
  have xb:=(BQ.rw.cell 1).trans (show _ = some f'.rv from rfl)
  rw [HFE.out.1,HFE.out.2.1,HRV.out,← HM.out] at xb
  have hFw:F≤wr.heap.size:=by have:=hbw.size;omega
  have him:i < f'.m:=by rw [HFM.out];exact hi
  have hmm:m≤3000000:=by have:=HM.out;omega
  by_cases hlt:q < m
  ·have hqI:(q:Int) < (m:Int):=by omega
   have hq0:¬ (q:Int) < 0:=by omega
   have hq6:(q:Int) * 6 = ((q * 6:Nat):Int):=by omega
   by_cases hqi:q = i
   ·subst hqi
    go_wp2
    go_roundw
    case rel =>
     have HX2:Hid (X' q = X1∧(∀ a,a < m→q + 1≤a→a ≠ q→X' a = X a)∧∀ a,a < q + 1→a ≠ q→(∀ k,lat (X' a).l k = lat (X a).l k - lat (X a).l c * lat X1.l k)∧(X' a).r = (X a).r - X1.r * lat (X a).l c∧(X' a).bas = (X a).bas∧(X' a).tu = (X a).tu):=⟨HXX.out.1,fun a h1 h2 h3=>HXX.out.2.1 a h1 (by omega) h3,fun a h1 h2=>HXX.out.2.2 a (by omega) h2⟩
     first | exact ⟨q + 1,f',X',by omega,by go_num,HFE,BQ,KQ,HX2⟩ | ((repeat apply Exists.intro);refine ⟨?_,rfl⟩;exact ⟨q + 1,f',X',by omega,by go_num,HFE,BQ,KQ,HX2⟩)
    case measure=>simp [intOf];omega
   ·have hqiI:¬ (q:Int) = (i:Int):=by omega
    have hqiE:((q:Int) == (i:Int)) = false:=by simpa using hqiI
    have hqm:q < f'.m:=by rw [HFM.out,← HM.out];exact hlt
    obtain ⟨rg',rc',p,a,na,ca,d,nd,cd,erv',y0,y1,y2,y3,y4,y5,GO⟩:=BQ.get him
    obtain ⟨rfl,rfl⟩:rg = rg'∧rc = rc':=by
     rw [HRVq.out] at erv'
     simp only [Value.slice.injEq,Option.some.injEq,Addr.mk.injEq,and_true,true_and] at erv'
     exact erv'
    have LO:=BQ.t i him
    have hko:=BQ.k i him
    obtain ⟨oa,oc,eoa,_⟩:=LO.form
    obtain ⟨on,eon⟩:∃ on,on = (X' i).l.length:=⟨_,rfl⟩
    rw [← eon] at eoa
    rw [eoa] at LO y0
    obtain ⟨ob,eob⟩:∃ ob,ob = (X' i).bas:=⟨_,rfl⟩
    obtain ⟨ot,eot⟩:∃ ot,ot = (X' i).tu:=⟨_,rfl⟩
    rw [← eob] at y4
    rw [← eot] at y5
    have HOR:Hid (Rise (X' i).l∧Blw (X' i).l (n + f'.m)):=⟨hko.1,hko.2.1⟩
    have exq:X' q = X q:=HXX.out.2.1 q hlt (Nat.le_refl _) hqi
    have exi:X' i = X1:=HXX.out.1
    have hzq:=HZQ.out q (by rw [← HM.out];exact hlt) hqi
    have HZ3:Hid (∀ k,SzR (lat (X' q).l k - lat (X' q).l c * lat (X' i).l k) S):=fun k=>by
     rw [exq,exi,HX1.out]
     show SzR (lat (X q).l k - lat (X q).l c * lat (ltim (X i).l iv) k) S
     rw [lat_ltim]
     exact hzq.1 k
    have HZ4:Hid (SzR ((X' q).r - (X' i).r * lat (X' q).l c) S):=by
     show SzR _ _
     rw [exq,exi,HX1.out]
     exact hzq.2
    clear eon eob eot hko hzq exq exi eoa erv'
    have HBA:∀ w',Below wr.heap.size wr w'→w'.cell? ⟨f.b,1,none⟩ = some (.slice (some ⟨rg,0,none⟩) m rc):=fun w' h=>kept_c h xb
    have HBX:∀ w',Below wr.heap.size wr w'→(w'.cell? ⟨f.b,1,none⟩ = some (.slice (some ⟨rg,0,none⟩) m rc)∧w'.cell? ⟨rg,i * 6,none⟩ = some (.slice oa on oc)∧w'.cell? ⟨rg,i * 6 + 1,none⟩ = some (.bool p)∧w'.cell? ⟨rg,i * 6 + 1 + 1,none⟩ = some (.slice a na ca)∧w'.cell? ⟨rg,i * 6 + 1 + 2,none⟩ = some (.slice d nd cd)∧w'.cell? ⟨rg,i * 6 + 4,none⟩ = some (.int .i64 ob)∧w'.cell? ⟨rg,i * 6 + 5,none⟩ = some (.bool ot)):=fun w' h=>⟨kept_c h xb,kept_c h y0,kept_c h y1,kept_c h y2,kept_c h y3,kept_c h y4,kept_c h y5⟩
    go_wp2_with fail
    refine wp_region_noPanic (wp_region_guard (TillA 14 (fun w'=>w'.cell? ⟨f.b,1,none⟩ = some (.slice (some ⟨rg,0,none⟩) m rc)∧w'.cell? ⟨rg,i * 6,none⟩ = some (.slice oa on oc)∧w'.cell? ⟨rg,i * 6 + 1,none⟩ = some (.bool p)∧w'.cell? ⟨rg,i * 6 + 1 + 1,none⟩ = some (.slice a na ca)∧w'.cell? ⟨rg,i * 6 + 1 + 2,none⟩ = some (.slice d nd cd)∧w'.cell? ⟨rg,i * 6 + 4,none⟩ = some (.int .i64 ob)∧w'.cell? ⟨rg,i * 6 + 5,none⟩ = some (.bool ot)) (fun w'=>w'.cell? ⟨f.b,1,none⟩ = some (.slice (some ⟨rg,0,none⟩) m rc))) (by as_aux_lemma=>kernel_rfl) ?_)
    have hc0:Below wr.heap.size wr wr.drew:=bel_d1 _
    generalize wr.drew = z0 at *
    refine wpAnyG.take 0 (v:=.pointer (some ⟨f.b,0,none⟩)) (by decide) (by as_aux_lemma=>kernel_rfl) (fun _ _ _ h=>h) 1 _ (by rfl) (tillA_ind (by decide)) (fun L w' h1 h2=>h2.2) (by as_aux_lemma=>kernel_rfl) (by as_aux_lemma=>kernel_rfl) (by as_aux_lemma=>kernel_rfl) (by rfl) ?y0 ⟨fun _=>HBX _ hc0,HBA _ hc0⟩ (by rfl) ?_
    case y0 =>
     rintro w' q0
     simp only [lgA,lgZ]
     go_simp
    simp only [lgA,lgZ,Act.put,lsA,lsZ,lsS]
    refine wpAnyG.take 1 (v:=.pointer (some ⟨f.b,0,none⟩)) (by decide) (by as_aux_lemma=>kernel_rfl) (fun _ _ _ h=>h) 2 _ (by rfl) (tillA_ind (by decide)) (fun L w' h1 h2=>h2.2) (by as_aux_lemma=>kernel_rfl) (by as_aux_lemma=>kernel_rfl) (by as_aux_lemma=>kernel_rfl) (by rfl) ?y1 ⟨fun _=>HBX _ hc0,HBA _ hc0⟩ (by rfl) ?_
    case y1 =>
     rintro w' q0
     simp only [lgA,lgZ,lgS]
     go_simp
    simp only [lgA,lgZ,lgS,Act.put,lsA,lsZ,lsS]
    refine wpAnyG.take 2 (v:=.pointer (some ⟨f.b,1,none⟩)) (by decide) (by as_aux_lemma=>kernel_rfl) (fun _ _ _ h=>h) 3 _ (by rfl) (tillA_ind (by decide)) (fun L w' h1 h2=>h2.2) (by as_aux_lemma=>kernel_rfl) (by as_aux_lemma=>kernel_rfl) (by as_aux_lemma=>kernel_rfl) (by rfl) ?y2 ⟨fun _=>HBX _ hc0,HBA _ hc0⟩ (by rfl) ?_
    case y2 =>
     rintro w' q0
     simp only [lgA,lgZ,lgS]
     go_simp
    simp only [lgA,lgZ,lgS,Act.put,lsA,lsZ,lsS]
    refine wpAnyG.take 3 (v:=.slice (some ⟨rg,0,none⟩) m rc) (by decide) (by as_aux_lemma=>kernel_rfl) (fun _ _ _ h=>h) 5 _ (by rfl) (tillA_ind (by decide)) (fun L w' h1 h2=>h2.2) (by as_aux_lemma=>kernel_rfl) (by as_aux_lemma=>kernel_rfl) (by as_aux_lemma=>kernel_rfl) (by rfl) ?y3 ⟨fun _=>HBX _ hc0,HBA _ hc0⟩ (by rfl) ?_
    case y3 =>
     rintro w' q0
     simp only [lgA,lgZ,lgS]
     go_simp
    simp only [lgA,lgZ,lgS,Act.put,lsA,lsZ,lsS]
    refine wpAnyG.take 4 (v:=.int .i64 (q:Int)) (by decide) (by as_aux_lemma=>kernel_rfl) (fun _ _ _ h=>h) 5 _ (by rfl) (tillA_ind (by decide)) (fun L w' h1 h2=>h2.2) (by as_aux_lemma=>kernel_rfl) (by as_aux_lemma=>kernel_rfl) (by as_aux_lemma=>kernel_rfl) (by rfl) ?y4 ⟨fun _=>HBX _ hc0,HBA _ hc0⟩ (by rfl) ?_
    case y4 =>
     rintro w' q0
     simp only [lgA,lgZ,lgS]
     go_simp
    simp only [lgA,lgZ,lgS,Act.put,lsA,lsZ,lsS]
    refine wpAnyG.take 5 (v:=.pointer (some ⟨rg,q * 6,none⟩)) (by decide) (by as_aux_lemma=>kernel_rfl) (fun _ _ _ h=>h) 14 _ (by rfl) (tillA_ind (by decide)) (fun L w' h1 h2=>h2.1 h1) (by as_aux_lemma=>kernel_rfl) (by as_aux_lemma=>kernel_rfl) (by as_aux_lemma=>kernel_rfl) (by rfl) ?y5 ⟨fun _=>HBX _ hc0,HBA _ hc0⟩ (by rfl) ?_
    case y5 =>
     rintro w' ⟨q0,q1,q2,q3,q4,q5,q6⟩
     simp only [lgA,lgZ,lgS]
     go_simp
    simp only [lgA,lgZ,lgS,Act.put,lsA,lsZ,lsS]
    refine wpAnyG.take 6 (v:=.int .i64 (c:Nat)) (by decide) (by as_aux_lemma=>kernel_rfl) (fun _ _ _ h=>h) 14 _ (by rfl) (tillA_ind (by decide)) (fun L w' h1 h2=>h2.1 h1) (by as_aux_lemma=>kernel_rfl) (by as_aux_lemma=>kernel_rfl) (by as_aux_lemma=>kernel_rfl) (by rfl) ?y6 ⟨fun _=>HBX _ hc0,HBA _ hc0⟩ (by rfl) ?_
    case y6 =>
     rintro w' ⟨q0,q1,q2,q3,q4,q5,q6⟩
     simp only [lgA,lgZ,lgS]
     go_simp
    simp only [lgA,lgZ,lgS,Act.put,lsA,lsZ,lsS]
    refine wpAnyG.take 7 (v:=.pointer (some ⟨f.b,0,none⟩)) (by decide) (by as_aux_lemma=>kernel_rfl) (fun _ _ _ h=>h) 8 _ (by rfl) (tillA_ind (by decide)) (fun L w' h1 h2=>h2.2) (by as_aux_lemma=>kernel_rfl) (by as_aux_lemma=>kernel_rfl) (by as_aux_lemma=>kernel_rfl) (by rfl) ?y7 ⟨fun _=>HBX _ hc0,HBA _ hc0⟩ (by rfl) ?_
    case y7 =>
     rintro w' q0
     simp only [lgA,lgZ,lgS]
     go_simp
    simp only [lgA,lgZ,lgS,Act.put,lsA,lsZ,lsS]
    refine wpAnyG.take 8 (v:=.pointer (some ⟨f.b,0,none⟩)) (by decide) (by as_aux_lemma=>kernel_rfl) (fun _ _ _ h=>h) 9 _ (by rfl) (tillA_ind (by decide)) (fun L w' h1 h2=>h2.2) (by as_aux_lemma=>kernel_rfl) (by as_aux_lemma=>kernel_rfl) (by as_aux_lemma=>kernel_rfl) (by rfl) ?y8 ⟨fun _=>HBX _ hc0,HBA _ hc0⟩ (by rfl) ?_
    case y8 =>
     rintro w' q0
     simp only [lgA,lgZ,lgS]
     go_simp
    simp only [lgA,lgZ,lgS,Act.put,lsA,lsZ,lsS]
    refine wpAnyG.take 9 (v:=.pointer (some ⟨f.b,1,none⟩)) (by decide) (by as_aux_lemma=>kernel_rfl) (fun _ _ _ h=>h) 10 _ (by rfl) (tillA_ind (by decide)) (fun L w' h1 h2=>h2.2) (by as_aux_lemma=>kernel_rfl) (by as_aux_lemma=>kernel_rfl) (by as_aux_lemma=>kernel_rfl) (by rfl) ?y9 ⟨fun _=>HBX _ hc0,HBA _ hc0⟩ (by rfl) ?_
    case y9 =>
     rintro w' q0
     simp only [lgA,lgZ,lgS]
     go_simp
    simp only [lgA,lgZ,lgS,Act.put,lsA,lsZ,lsS]
    refine wpAnyG.take 10 (v:=.slice (some ⟨rg,0,none⟩) m rc) (by decide) (by as_aux_lemma=>kernel_rfl) (fun _ _ _ h=>h) 12 _ (by rfl) (tillA_ind (by decide)) (fun L w' h1 h2=>h2.2) (by as_aux_lemma=>kernel_rfl) (by as_aux_lemma=>kernel_rfl) (by as_aux_lemma=>kernel_rfl) (by rfl) ?y10 ⟨fun _=>HBX _ hc0,HBA _ hc0⟩ (by rfl) ?_
    case y10 =>
     rintro w' q0
     simp only [lgA,lgZ,lgS]
     go_simp
    simp only [lgA,lgZ,lgS,Act.put,lsA,lsZ,lsS]
    refine wpAnyG.take 11 (v:=.int .i64 (i:Nat)) (by decide) (by as_aux_lemma=>kernel_rfl) (fun _ _ _ h=>h) 12 _ (by rfl) (tillA_ind (by decide)) (fun L w' h1 h2=>h2.2) (by as_aux_lemma=>kernel_rfl) (by as_aux_lemma=>kernel_rfl) (by as_aux_lemma=>kernel_rfl) (by rfl) ?y11 ⟨fun _=>HBX _ hc0,HBA _ hc0⟩ (by rfl) ?_
    case y11 =>
     rintro w' q0
     simp only [lgA,lgZ,lgS]
     go_simp
    simp only [lgA,lgZ,lgS,Act.put,lsA,lsZ,lsS]
    refine wpAnyG.take 12 (v:=.pointer (some ⟨rg,i * 6,none⟩)) (by decide) (by as_aux_lemma=>kernel_rfl) (fun _ _ _ h=>h) 13 _ (by rfl) (tillA_ind (by decide)) (fun L w' h1 h2=>h2.2) (by as_aux_lemma=>kernel_rfl) (by as_aux_lemma=>kernel_rfl) (by as_aux_lemma=>kernel_rfl) (by rfl) ?y12 ⟨fun _=>HBX _ hc0,HBA _ hc0⟩ (by rfl) ?_
    case y12 =>
     rintro w' q0
     simp only [lgA,lgZ,lgS]
     go_simp
    simp only [lgA,lgZ,lgS,Act.put,lsA,lsZ,lsS]
    refine wpAnyG.take 13 (v:=.agg #[.slice oa on oc,.bool p,.slice a na ca,.slice d nd cd,.int .i64 ob,.bool ot]) (by decide) (by as_aux_lemma=>kernel_rfl) (fun _ _ _ h=>h) 14 _ (by rfl) (tillA_ind (by decide)) (fun L w' h1 h2=>h2.1 h1) (by as_aux_lemma=>kernel_rfl) (by as_aux_lemma=>kernel_rfl) (by as_aux_lemma=>kernel_rfl) (by rfl) ?y13 ⟨fun _=>HBX _ hc0,HBA _ hc0⟩ (by rfl) ?_
    case y13 =>
     rintro w' ⟨q0,q1,q2,q3,q4,q5,q6⟩
     simp only [lgA,lgZ,lgS]
     go_simp
    simp only [lgA,lgZ,lgS,Act.put,lsA,lsZ,lsS]
    refine wpAnyG.one 14 (by as_aux_lemma=>kernel_rfl) (by decide) (by rfl) (fun K hK=>?_)
    simp only [lgA,lgZ,lgS]
    go_simp
    refine (clearB (q:=q) (rc:=rc) (ob:=ob) (ot:=ot) c z0 (BQ.below hc0) hqm HRVq.out (LO.below hc0) HOR.out (GO.below hc0) ⟨hS.1,by omega⟩ HZ3.out HZ4.out (hTq.below hc0) hTF (by have:=hc0.size;omega) (by rw [HFM.out];exact hN)).mono ?_
    rintro e z1 ⟨rfl,v9,l9,B9,hl9,K9⟩
    dsimp only
    have xn:=(B9.rw.cell 1).trans (show _ = some f'.rv from rfl)
    rw [HFE.out.2.1,HRV.out,← HM.out] at xn
    have xn':z1.cell? ⟨f.b,1,none⟩ = some (.slice (some ⟨rg,0,none⟩) m rc):=by rw [← HFE.out.1];exact xn
    refine hK _ _ ⟨fun h=>absurd h (by decide),xn'⟩ ?_
    clear hK K
    refine wpAnyG.done (by as_aux_lemma=>kernel_rfl) (NoPanic.normal ?_)
    have KN:=(KQ.bel hc0).trans K9
    have HFE2:Hid (({ f' with V:=fun a=>if a = q then v9 else f'.V a }:Bf).b = f.b∧({ f' with V:=fun a=>if a = q then v9 else f'.V a }:Bf).rv = f.rv∧({ f' with V:=fun a=>if a = q then v9 else f'.V a }:Bf).m = f.m∧({ f' with V:=fun a=>if a = q then v9 else f'.V a }:Bf).cv = f.cv):=HFE.out
    have HX2:Hid (upR X' q { X' q with l:=l9,r:=(X' q).r - (X' i).r * lat (X' q).l c } i = X1∧(∀ a,a < m→q + 1≤a→a ≠ i→upR X' q { X' q with l:=l9,r:=(X' q).r - (X' i).r * lat (X' q).l c } a = X a)∧∀ a,a < q + 1→a ≠ i→(∀ k,lat (upR X' q { X' q with l:=l9,r:=(X' q).r - (X' i).r * lat (X' q).l c } a).l k = lat (X a).l k - lat (X a).l c * lat X1.l k)∧(upR X' q { X' q with l:=l9,r:=(X' q).r - (X' i).r * lat (X' q).l c } a).r = (X a).r - X1.r * lat (X a).l c∧(upR X' q { X' q with l:=l9,r:=(X' q).r - (X' i).r * lat (X' q).l c } a).bas = (X a).bas∧(upR X' q { X' q with l:=l9,r:=(X' q).r - (X' i).r * lat (X' q).l c } a).tu = (X a).tu):=by
     have exq:X' q = X q:=HXX.out.2.1 q hlt (Nat.le_refl _) hqi
     refine ⟨by rw [upR_ne _ _ (Ne.symm hqi)];exact HXX.out.1,fun a h1 h2 h3=>by rw [upR_ne _ _ (by omega)];exact HXX.out.2.1 a h1 (by omega) h3,fun a h1 h2=>?_⟩
     by_cases haq:a = q
     ·subst haq
      rw [upR_self]
      refine ⟨fun k=>?_,?_,by rw [exq],by rw [exq]⟩
      ·show lat l9 k = _
       rw [hl9 k,HXX.out.1,exq]
      ·show (X' a).r - (X' i).r * lat (X' a).l c = _
       rw [HXX.out.1,exq]
     ·rw [upR_ne _ _ haq]
      exact HXX.out.2.2 a (by omega) h2
    clear HBX HBA BQ KQ K9 hc0 LO GO y0 y1 y2 y3 y4 y5 xb hTq HXX HFE HZ3 HZ4 hl9
    go_wp2
    go_roundw
    case rel=>first | exact ⟨q + 1,_,_,by omega,by go_num,HFE2,B9,KN,HX2⟩ | ((repeat apply Exists.intro);refine ⟨?_,rfl⟩;exact ⟨q + 1,_,_,by omega,by go_num,HFE2,B9,KN,HX2⟩)
    case measure=>simp [intOf];omega
  ·have hqI:¬ (q:Int) < (m:Int):=by omega
   obtain rfl:q = m:=by omega
   obtain ⟨rg',rc',p,a,na,ca,d,nd,cd,erv',_,_,_,_,y4,_,_⟩:=BQ.get him
   obtain ⟨rfl,rfl⟩:rg = rg'∧rc = rc':=by
    rw [HRVq.out] at erv'
    simp only [Value.slice.injEq,Option.some.injEq,Addr.mk.injEq,and_true,true_and] at erv'
    exact erv'
   obtain ⟨E,s1,_⟩:=id BQ.r
   obtain ⟨cur,hcur⟩:=s1.typ (g:=rg) (by rw [HRVq.out];rfl)
   have f4:=frozen_of_row wr rg (i * 6 + 4) cur 67 hcur
   obtain ⟨BN,O⟩:=BQ.putB HRVq.out him (c:Int) ⟨by omega,by rw [HFM.out];omega⟩
   have KN:=KQ.trans (off_kf (C':=f'.has) (Below.refl _ _) O (.inr (.inl (by rw [HRVq.out];rfl))) (fun k hk=>.inl hk))
   have HP:Hid (PivR X (fun b=>if b = i then { X' i with bas:=(c:Int) } else X' b) f.m i c):=by
    have e1:=HXX.out.1
    have e2:=HX1.out
    have e3:=HIV.out
    refine ⟨fun k=>?_,?_,?_,?_,fun b hb hbi=>?_⟩
    ·simp only [if_true]
     rw [e1,e2]
     show lat (ltim (X i).l iv) k = _
     rw [lat_ltim,e3]
    ·simp only [if_true]
     rw [e1,e2,← e3]
    ·simp only [if_true]
    ·simp only [if_true]
     rw [e1,e2]
    ·simp only [if_neg hbi,if_true]
     have h:=HXX.out.2.2 b (by rw [HM.out];exact hb) hbi
     rw [e1]
     exact h
   clear BQ KQ s1 hcur O HXX
   go_wp2
   go_ret
   exact ⟨rfl,f',_,HFE.out.1,HFE.out.2.1,HFE.out.2.2.1,HFE.out.2.2.2,BN,KN,HP.out⟩
set_option maxRecDepth 100000 in
set_option maxHeartbeats 8000000 in
theorem pivotB {F:Nat} {f:Bf} {n:Nat} {X:Nat→RoD} {lc:List (Nat × Rat)} {S Sc:Nat} {ev0 ev1 ev2:Value} (i j:Int) (w:World) (h:BD w F f n X lc S Sc) (hz:∀ a b,a < f.m→(X a).bas ≠ -1→b < n + f.m→PivZ X f.m S a b) (hS:1≤S∧S + S + S≤6000000) (hN:n + f.m≤3000000) (hT:TB w) (hTF:4 < F) (hF:F≤w.heap.size) (E0:Errs w 0 ev0) (E1:Errs w 1 ev1) (E2:Errs w 2 ev2) :
  Calls Tryz.prog 23 #[.pointer (some ⟨f.b,0,none⟩),.int .i64 i,.int .i64 j] w fun e w'=>PivP w F f n X lc S Sc i j ev0 ev1 e w':=by
 have HE0:=E0.1
 cases ht:thr X f.m i with
 | false =>
  have HP:∀ w',Below w.heap.size w w'→PivP w F f n X lc S Sc i j ev0 ev1 (.returned ev0) w':=fun w' hb=>.inl ⟨.inl ht,rfl,hb⟩
  go_enter Tryz.func23,Tryz.ntmps23
  go_wp2_with fail
  refine (isThereB i w h).mono ?_
  rintro e w1 ⟨rfl,rfl⟩
  rw [ht]
  go_wp2
  go_ret
  exact HP _ (Below.refl _ _)
 | true =>
  by_cases hj:0≤j∧j < ((n + f.m:Nat):Int)
  ·have hr:0≤i∧i < (f.m:Int)∧(X i.toNat).bas ≠ -1:=by
    unfold thr at ht
    simp only [Bool.and_eq_true,decide_eq_true_eq,Bool.not_eq_true',decide_eq_false_iff_not] at ht
    exact ⟨ht.1.1,ht.1.2,ht.2⟩
   obtain ⟨k,rfl⟩:=Int.eq_ofNat_of_zero_le hr.1
   obtain ⟨c,rfl⟩:=Int.eq_ofNat_of_zero_le hj.1
   have hk:k < f.m:=by omega
   have hc:c < n + f.m:=by omega
   have hb:(X k).bas ≠ -1:=by simpa using hr.2.2
   by_cases h0:lat (X k).l c = 0
   ·have HP:∀ w',Below w.heap.size w w'→PivP w F f n X lc S Sc (k:Int) (c:Int) ev0 ev1 (.returned ev1) w':=fun w' hb=>.inr (.inl ⟨ht,hj,by rw [Int.toNat_natCast,Int.toNat_natCast];exact h0,rfl,hb⟩)
    obtain ⟨rg,rc,p0,a0,n0,c0,d0,m0,e0,erv,y0,_,_,_,_,_,_⟩:=h.get hk
    obtain ⟨m,em⟩:∃ m,m = f.m:=⟨_,rfl⟩
    have x1:=(h.rw.cell 1).trans (show _ = some f.rv from rfl)
    rw [erv,← em] at x1
    have hkI:(k:Int) < (m:Int):=by omega
    have hk0:¬ (k:Int) < 0:=by omega
    have hk6:(k:Int) * 6 = ((k * 6:Nat):Int):=by omega
    have hdc:decide (0≤(c:Int)∧(c:Int) < ((n + f.m:Nat):Int)) = true:=decide_eq_true hj
    have LK:=h.t k hk
    have hkk:=h.k k hk
    have hlen:=hkk.1.len _ hkk.2.1
    obtain ⟨va,vc,eva,_⟩:=LK.form
    obtain ⟨vn,evn⟩:∃ vn,vn = (X k).l.length:=⟨_,rfl⟩
    rw [← evn] at eva hlen
    have HVN:Hid (vn = (X k).l.length):=evn
    rw [eva] at LK y0
    clear erv eva evn em hz hr hj hb
    go_enter Tryz.func23,Tryz.ntmps23
    go_wp2_with fail
    refine (isThereB (k:Int) w h).mono ?_
    rintro e w1 ⟨rfl,rfl⟩
    rw [ht]
    go_wp2_with fail
    refine (isColB (c:Int) w1 h hN).mono ?_
    rintro e W1 ⟨rfl,hb1⟩
    rw [hdc]
    have y0':=kept_c hb1 y0
    have x1':=kept_c hb1 x1
    go_wp2_with fail
    refine (atB (c:Int) W1 (LK.below hb1) hkk.1 (by rw [← HVN.out];omega)).mono ?_
    rintro e W2 ⟨tp,ta,tn,tc,td,tm,te,rfl,ZT,hb2⟩
    rw [latI_nat,h0] at ZT
    have hbw2:=bel_tr hb1 hb2
    clear y0' x1'
    go_wp2_with fail
    refine (invE W2 ZT.tr (by omega) hS.1 rfl (E2.below hbw2)).mono ?_
    rintro e w2 ⟨rfl,hb3⟩
    replace hbw2:=bel_tr hbw2 hb3
    obtain ⟨p2,ep2⟩:=E2.2
    subst ep2
    have hz3:=bel_d0 w2 (.cells #[.bool false,.slice none 0 0,.slice none 0 0] 29)
    have hb4:=bel_tr hbw2 hz3
    have k1:=kept_c hb4 E1.1
    replace HP:=HP _ hb4
    clear hb1 hb2 hb3 ZT LK y0 x1 hz3 HE0 hbw2 hb4
    go_wp2
    go_ret
    exact HP
   ·refine (pivotC k c w h hk hb hc (hz k c hk hb hc) h0 hS hN hT hTF hF).mono ?_
    intro e w' hP
    exact .inr (.inr ⟨ht,hj,by rw [Int.toNat_natCast,Int.toNat_natCast];exact h0,by rw [Int.toNat_natCast,Int.toNat_natCast];exact hP⟩)
  ·have HP:∀ w',Below w.heap.size w w'→PivP w F f n X lc S Sc i j ev0 ev1 (.returned ev0) w':=fun w' hb=>.inl ⟨.inr hj,rfl,hb⟩
   have hdc:decide (0≤j∧j < ((n + f.m:Nat):Int)) = false:=decide_eq_false hj
   go_enter Tryz.func23,Tryz.ntmps23
   go_wp2_with fail
   refine (isThereB i w h).mono ?_
   rintro e w1 ⟨rfl,rfl⟩
   rw [ht]
   go_wp2_with fail
   refine (isColB j w1 h hN).mono ?_
   rintro e W1 ⟨rfl,hb1⟩
   rw [hdc]
   have k0:=kept_c hb1 HE0
   replace HP:=HP _ hb1
   clear hdc hj
   go_wp2
   go_ret
   exact HP
end Go.Proofs.YtjiodidemimgmaaGreatDoor

import Derived.Test.YtjiodidemimgmaaGreatDoorBoM
namespace Go.Proofs.YtjiodidemimgmaaGreatDoor
open Go.RowKit
def upR (X:Nat→RoD) (i:Nat) (x:RoD):Nat→RoD:=fun q=>if q = i then x else X q
theorem upR_self (X:Nat→RoD) (i:Nat) (x:RoD):upR X i x i = x:=if_pos rfl
theorem upR_ne (X:Nat→RoD) {i q:Nat} (x:RoD) (h:q ≠ i):upR X i x q = X q:=if_neg h
set_option maxRecDepth 100000 in
set_option maxHeartbeats 8000000 in
theorem rowMulB {F:Nat} {f:Bf} {n:Nat} {X:Nat→RoD} {lc:List (Nat × Rat)} {S Sc:Nat} {p:Bool} {a:Option Addr} {na ca:Nat} {d:Option Addr} {nd cd:Nat} {r:Rat} {R i rg rc:Nat} (w:World) (h:BD w F f n X lc S Sc) (hi:i < f.m) (hrv:f.rv = .slice (some ⟨rg,0,none⟩) f.m rc) (hf:GR w 0 p a na ca d nd cd r R) (hS:1≤S∧1≤R∧S + R≤6000000) (hz:∀ e ∈ (X i).l,SzR (e.2 * r) S) (hzr:SzR ((X i).r * r) S) (hT:TB w) (hTF:4 < F) (hF:F≤w.heap.size) (hN:n + f.m≤3000000) :
  Calls Tryz.prog 55 #[.pointer (some ⟨rg,i * 6,none⟩),.agg #[.bool p,.slice a na ca,.slice d nd cd]] w fun e w'=>e = .returned (.tuple #[])∧BD w' F f n (upR X i { X i with l:=ltim (X i).l r,r:=(X i).r * r }) lc S Sc∧KF f.has f.has w w':=by
 have BU:=box_new w #[.bool p,.slice a na ca,.slice d nd cd] 29
 have hb0:=bel_d0 w (.cells #[.bool p,.slice a na ca,.slice d nd cd] 29)
 have hs0:(w.alloc (.cells #[.bool p,.slice a na ca,.slice d nd cd] 29)).heap.size = w.heap.size + 1:=by simp
 have B0:=h.below hb0
 have hf0:=hf.below hb0
 have hT0:=hT.below hb0
 have HZ:Hid (∀ e ∈ (X i).l,SzR (e.2 * r) S):=hz
 have HZR:Hid (SzR ((X i).r * r) S):=hzr
 have HRV:Hid (f.rv = .slice (some ⟨rg,0,none⟩) f.m rc):=hrv
 clear hz hzr
 obtain ⟨rg',rc',p1,a1,n1,c1,d1,m1,e1,erv,y0,y1,y2,y3,_,_,G⟩:=B0.get hi
 obtain ⟨rfl,rfl⟩:rg = rg'∧rc = rc':=by
  rw [hrv] at erv
  simp only [Value.slice.injEq,Option.some.injEq,Addr.mk.injEq,and_true,true_and] at erv
  exact erv
 have LK:=B0.t i hi
 have hkk:=B0.k i hi
 have hlen:=hkk.1.len _ hkk.2.1
 obtain ⟨va,vc,eva,_⟩:=LK.form
 obtain ⟨vn,evn⟩:∃ vn,vn = (X i).l.length:=⟨_,rfl⟩
 rw [← evn] at eva hlen
 have HV:Hid (f.V i = .slice va vn vc):=eva
 have HVN:Hid (vn = (X i).l.length):=evn
 rw [eva] at LK y0
 have hVl:∀ g,(f.V i).ownBlock = some g→F≤g∧g < w.heap.size:=(h.t i hi).lt
 rw [eva] at hVl
 clear erv hrv eva y1 y2 y3 G evn
 go_enter Tryz.func55,Tryz.ntmps55
 go_wp2_with fail
 generalize w.alloc (.cells #[.bool p,.slice a na ca,.slice d nd cd] 29) = W0 at *
 have HBX:∀ w',Below W0.heap.size W0 w'→(w'.cell? ⟨rg,i * 6,none⟩ = some (.slice va vn vc)∧w'.cell? ⟨w.heap.size,0,none⟩ = some (.bool p)∧w'.cell? ⟨w.heap.size,1,none⟩ = some (.slice a na ca)∧w'.cell? ⟨w.heap.size,2,none⟩ = some (.slice d nd cd)):=fun w' h=>⟨kept_c h y0,kept_c h (BU 0 _ rfl),kept_c h (BU 1 _ rfl),kept_c h (BU 2 _ rfl)⟩
 refine wp_region_noPanic (wp_region_guardT 5 HBX (by as_aux_lemma=>kernel_rfl) ?_)
 have hc0:Below W0.heap.size W0 W0.drew:=bel_d1 _
 generalize W0.drew = z0 at *
 refine wpAnyG.tT 4 (v:=.agg #[.bool p,.slice a na ca,.slice d nd cd]) (by decide) 5 (by as_aux_lemma=>kernel_rfl) (by rfl) ?y4 (HBX _ hc0) ?_
 case y4 =>
  rintro w' ⟨q0,q1,q2,q3⟩
  simp only [lgA,lgZ,lgS]
  go_simp
 simp only [lgA,lgZ,lgS,Act.put,lsA,lsZ,lsS]
 refine wpAnyG.one 0 (by as_aux_lemma=>kernel_rfl) (by decide) (by rfl) (fun K hK=>?_)
 simp only [lgA,lgZ]
 go_simp
 refine hK _ _ ⟨fun _=>HBX _ hc0,fun _=>trivial⟩ ?_
 clear hK K
 refine wpAnyG.one 1 (by as_aux_lemma=>kernel_rfl) (by decide) (by rfl) (fun K hK=>?_)
 simp only [lgA,lgZ,lgS]
 go_simp
 refine hK _ _ ⟨fun _=>HBX _ hc0,fun _=>trivial⟩ ?_
 clear hK K
 refine wpAnyG.one 2 (by as_aux_lemma=>kernel_rfl) (by decide) (by rfl) (fun K hK=>?_)
 simp only [lgA,lgZ,lgS]
 go_simp
 refine hK _ _ ⟨fun _=>HBX _ hc0,fun _=>trivial⟩ ?_
 clear hK K
 refine wpAnyG.tT 3 (v:=.slice va vn vc) (by decide) 5 (by as_aux_lemma=>kernel_rfl) (by rfl) ?y3 (HBX _ hc0) ?_
 case y3 =>
  rintro w' ⟨q0,q1,q2,q3⟩
  simp only [lgA,lgZ,lgS]
  go_simp
 simp only [lgA,lgZ,lgS,Act.put,lsA,lsZ,lsS]
 refine wpAnyG.one 5 (by as_aux_lemma=>kernel_rfl) (by decide) (by rfl) (fun K hK=>?_)
 simp only [lgA,lgZ,lgS]
 go_simp
 refine (mulLB z0 (LK.below hc0) (hf0.below hc0) hS HZ.out (hT0.below hc0) hTF (by have:=hc0.size;omega) (by rw [← HVN.out];omega)).mono ?_
 rintro e z1 ⟨rfl,L1,hg1⟩
 dsimp only
 refine hK _ _ ⟨fun h=>absurd h (by decide),fun _=>trivial⟩ ?_
 clear hK K
 refine wpAnyG.done (by as_aux_lemma=>kernel_rfl) (NoPanic.normal ?_)
 have hbz:=bel_tr hb0 hc0
 have B1:=(B0.below hc0).grow (X:=X) hi (by rw [HV.out];exact hg1) (by rw [HV.out];exact L1) ⟨rise_ltim hkk.1 r,fun e he=>by
  obtain ⟨x,hx,rfl⟩:=List.mem_map.1 he
  exact hkk.2.1 x hx⟩
 have K1:KF f.has f.has w z1:=((KF.refl f.has w).bel hbz).trans (grown_kf hg1 (fun g e=>.inr (.inr (.inr ⟨i,hi,by rw [HV.out];exact e⟩))) (fun k hk=>.inl hk))
 have hf1:=hf.kf K1 h.noU
 have hT1:=hT.bF hTF (K1.below (fun k hk=>(h.lt k hk).1) hF)
 have eb:z1.heap[w.heap.size]? = W0.heap[w.heap.size]?:=by
  have h1:=hg1.block w.heap.size (by have:=hc0.size;omega) (fun e=>by have:=(hVl _ e.symm).2;omega)
  rw [h1,hc0.block w.heap.size (by omega)]
 replace BU:BoxC z1 w.heap.size [.bool p,.slice a na ca,.slice d nd cd]:=fun j u hu=>(World.cell?_of_block (w:=W0) eb).trans (BU j u hu)
 obtain ⟨rg',rc',p1,a1,n1,c1,d1,m1,e1,erv,_,y1',y2',y3',_,_,G1⟩:=B1.get hi
 obtain ⟨rfl,rfl⟩:rg = rg'∧rc = rc':=by
  rw [HRV.out] at erv
  simp only [Value.slice.injEq,Option.some.injEq,Addr.mk.injEq,and_true,true_and] at erv
  exact erv
 simp only [if_true] at G1
 clear erv HBX L1 hg1 hc0 y0 LK B0 hf0 hT0 eb
 have HBX:∀ w',Below z1.heap.size z1 w'→(w'.cell? ⟨rg,i * 6 + 1,none⟩ = some (.bool p1)∧w'.cell? ⟨rg,i * 6 + 1 + 1,none⟩ = some (.slice a1 n1 c1)∧w'.cell? ⟨rg,i * 6 + 1 + 2,none⟩ = some (.slice d1 m1 e1)∧w'.cell? ⟨w.heap.size,0,none⟩ = some (.bool p)∧w'.cell? ⟨w.heap.size,1,none⟩ = some (.slice a na ca)∧w'.cell? ⟨w.heap.size,2,none⟩ = some (.slice d nd cd)):=fun w' h=>⟨kept_c h y1',kept_c h y2',kept_c h y3',kept_c h (BU 0 _ rfl),kept_c h (BU 1 _ rfl),kept_c h (BU 2 _ rfl)⟩
 go_wp2_with fail
 refine wp_region_noPanic (wp_region_guardT 9 HBX (by as_aux_lemma=>kernel_rfl) ?_)
 have hc0:Below z1.heap.size z1 z1.drew:=bel_d1 _
 generalize z1.drew = y0 at *
 refine wpAnyG.tT 0 (v:=.pointer (some ⟨rg,i * 6,none⟩)) (by decide) 9 (by as_aux_lemma=>kernel_rfl) (by rfl) ?y0 (HBX _ hc0) ?_
 case y0 =>
  rintro w' ⟨q0,q1,q2,q3,q4,q5⟩
  simp only [lgA,lgZ]
  go_simp
 simp only [lgA,lgZ,Act.put,lsA,lsZ,lsS]
 refine wpAnyG.tT 1 (v:=.pointer (some ⟨rg,i * 6,none⟩)) (by decide) 9 (by as_aux_lemma=>kernel_rfl) (by rfl) ?y1 (HBX _ hc0) ?_
 case y1 =>
  rintro w' ⟨q0,q1,q2,q3,q4,q5⟩
  simp only [lgA,lgZ,lgS]
  go_simp
 simp only [lgA,lgZ,lgS,Act.put,lsA,lsZ,lsS]
 refine wpAnyG.tT 2 (v:=.pointer (some ⟨rg,i * 6,none⟩)) (by decide) 9 (by as_aux_lemma=>kernel_rfl) (by rfl) ?y2 (HBX _ hc0) ?_
 case y2 =>
  rintro w' ⟨q0,q1,q2,q3,q4,q5⟩
  simp only [lgA,lgZ,lgS]
  go_simp
 simp only [lgA,lgZ,lgS,Act.put,lsA,lsZ,lsS]
 refine wpAnyG.tT 3 (v:=.pointer (some ⟨rg,i * 6 + 1,none⟩)) (by decide) 9 (by as_aux_lemma=>kernel_rfl) (by rfl) ?y3 (HBX _ hc0) ?_
 case y3 =>
  rintro w' ⟨q0,q1,q2,q3,q4,q5⟩
  simp only [lgA,lgZ,lgS]
  go_simp
 simp only [lgA,lgZ,lgS,Act.put,lsA,lsZ,lsS]
 refine wpAnyG.tT 4 (v:=.agg #[.bool p1,.slice a1 n1 c1,.slice d1 m1 e1]) (by decide) 9 (by as_aux_lemma=>kernel_rfl) (by rfl) ?y4 (HBX _ hc0) ?_
 case y4 =>
  rintro w' ⟨q0,q1,q2,q3,q4,q5⟩
  simp only [lgA,lgZ,lgS]
  go_simp
 simp only [lgA,lgZ,lgS,Act.put,lsA,lsZ,lsS]
 refine wpAnyG.tT 5 (v:=.agg #[.bool p,.slice a na ca,.slice d nd cd]) (by decide) 9 (by as_aux_lemma=>kernel_rfl) (by rfl) ?y5 (HBX _ hc0) ?_
 case y5 =>
  rintro w' ⟨q0,q1,q2,q3,q4,q5⟩
  simp only [lgA,lgZ,lgS]
  go_simp
 simp only [lgA,lgZ,lgS,Act.put,lsA,lsZ,lsS]
 refine wpAnyG.one 6 (by as_aux_lemma=>kernel_rfl) (by decide) (by rfl) (fun K hK=>?_)
 simp only [lgA,lgZ,lgS]
 go_simp
 refine (mulQ y0 (G1.tr.below hc0) (hf1.tr.below hc0) hS.2.2 hS.1 hS.2.1 (hT1.below hc0)).mono ?_
 rintro e y1 ⟨g2,u2,i2,j2,o2,t2,x2,rfl,G2,hk1⟩
 have hc1:Below z1.heap.size z1 y1:=bel_tr hc0 hk1
 dsimp only
 refine hK _ _ ⟨fun _=>HBX _ hc1,fun _=>trivial⟩ ?_
 clear hK K
 refine wpAnyG.one 7 (by as_aux_lemma=>kernel_rfl) (by decide) (by rfl) (fun K hK=>?_)
 simp only [lgA,lgZ,lgS]
 go_simp
 refine hK _ _ ⟨fun _=>HBX _ hc1,fun _=>trivial⟩ ?_
 clear hK K
 refine wpAnyG.tT 8 (v:=.pointer (some ⟨rg,i * 6 + 1,none⟩)) (by decide) 9 (by as_aux_lemma=>kernel_rfl) (by rfl) ?y8 (HBX _ hc1) ?_
 case y8 =>
  rintro w' ⟨q0,q1,q2,q3,q4,q5⟩
  simp only [lgA,lgZ,lgS]
  go_simp
 simp only [lgA,lgZ,lgS,Act.put,lsA,lsZ,lsS]
 refine wpAnyG.one 9 (by as_aux_lemma=>kernel_rfl) (by decide) (by rfl) (fun K hK=>?_)
 simp only [lgA,lgZ,lgS]
 have BZ:=B1.below hc1
 obtain ⟨E,s1,_⟩:=id BZ.r
 obtain ⟨cur,hcur⟩:=s1.typ (g:=rg) (by rw [HRV.out];rfl)
 have f1:=frozen_of_row y1 rg (i * 6 + 1) cur 67 hcur
 have f2:=frozen_of_row y1 rg (i * 6 + 1 + 1) cur 67 hcur
 have f3:=frozen_of_row y1 rg (i * 6 + 1 + 2) cur 67 hcur
 have k1:=kept_c hc1 y1'
 have k2:=kept_c hc1 y2'
 have k3:=kept_c hc1 y3'
 go_simp
 refine hK _ _ ⟨fun h=>absurd h (by decide),fun _=>trivial⟩ ?_
 clear hK K
 refine wpAnyG.done (by as_aux_lemma=>kernel_rfl) (NoPanic.normal ?_)
 obtain ⟨BN,O⟩:=BZ.putR HRV.out hi ((G2.fit HZR.out).mono (Nat.zero_le _))
 have KN:KF f.has f.has w _:=K1.trans (off_kf hc1 O (.inr (.inl (by rw [HRV.out];rfl))) (fun k hk=>.inl hk))
 have ex:(fun q=>if q = i then { (fun q=>if q = i then { X i with l:=ltim (X i).l r } else X q) i with r:=(X i).r * r } else (fun q=>if q = i then { X i with l:=ltim (X i).l r } else X q) q) = upR X i { X i with l:=ltim (X i).l r,r:=(X i).r * r }:=by
  funext q
  unfold upR
  by_cases hq:q = i
  ·simp [hq]
  ·simp [hq]
 rw [ex] at BN
 clear HBX BU B1 BZ G1 G2 K1 O f1 f2 f3 k1 k2 k3 y1' y2' y3' hc0 hc1 hk1 hf1 hT1 s1 hcur ex
 go_wp2
 go_end0
 exact ⟨rfl,BN,KN⟩
def ClrP (w:World) (F:Nat) (f:Bf) (n:Nat) (X:Nat→RoD) (lc:List (Nat × Rat)) (S Sc q:Nat) (ol:List (Nat × Rat)) (orr t:Rat) (e:Ending) (w':World):Prop:=e = .returned (.tuple #[])∧∃ v' l',BD w' F { f with V:=fun a=>if a = q then v' else f.V a } n (upR X q { X q with l:=l',r:=(X q).r - orr * t }) lc S Sc∧(∀ c,lat l' c = lat (X q).l c - t * lat ol c)∧KF f.has ({ f with V:=fun a=>if a = q then v' else f.V a }:Bf).has w w'
set_option maxRecDepth 100000 in
set_option maxHeartbeats 8000000 in
theorem clearB {F:Nat} {f:Bf} {n:Nat} {X:Nat→RoD} {lc:List (Nat × Rat)} {S Sc:Nat} {p:Bool} {a:Option Addr} {na ca:Nat} {d:Option Addr} {nd cd:Nat} {r:Rat} {q rg rc:Nat} {oa:Option Addr} {on oc:Nat} {ol:List (Nat × Rat)} {ob:Int} {ot:Bool} (c:Nat) (w:World) (h:BD w F f n X lc S Sc) (hq:q < f.m) (hrv:f.rv = .slice (some ⟨rg,0,none⟩) f.m rc) (ho:LnE w F (.slice oa on oc) ol S) (hor:Rise ol∧Blw ol (n + f.m)) (hr:GR w 0 p a na ca d nd cd r S) (hS:1≤S∧S + S + S≤6000000) (hz:∀ k,SzR (lat (X q).l k - lat (X q).l c * lat ol k) S) (hzr:SzR ((X q).r - r * lat (X q).l c) S) (hT:TB w) (hTF:4 < F) (hF:F≤w.heap.size) (hN:n + f.m≤3000000) :
  Calls Tryz.prog 56 #[.pointer (some ⟨rg,q * 6,none⟩),.int .i64 (c:Nat),.agg #[.slice oa on oc,.bool p,.slice a na ca,.slice d nd cd,.int .i64 ob,.bool ot]] w fun e w'=>ClrP w F f n X lc S Sc q ol r (lat (X q).l c) e w':=by
 have BU:=box_new w #[.slice oa on oc,.bool p,.slice a na ca,.slice d nd cd,.int .i64 ob,.bool ot] 67
 have hb0:=bel_d0 w (.cells #[.slice oa on oc,.bool p,.slice a na ca,.slice d nd cd,.int .i64 ob,.bool ot] 67)
 have hs0:(w.alloc (.cells #[.slice oa on oc,.bool p,.slice a na ca,.slice d nd cd,.int .i64 ob,.bool ot] 67)).heap.size = w.heap.size + 1:=by simp
 have B0:=h.below hb0
 have hT0:=hT.below hb0
 obtain ⟨tt,ett⟩:∃ tt,tt = lat (X q).l c:=⟨_,rfl⟩
 rw [← ett] at hz hzr ⊢
 have HTT:Hid (tt = lat (X q).l c):=ett
 have HZ:Hid (∀ k,SzR (lat (X q).l k - tt * lat ol k) S):=hz
 have HZR:Hid (SzR ((X q).r - r * tt) S):=hzr
 have HRV:Hid (f.rv = .slice (some ⟨rg,0,none⟩) f.m rc):=hrv
 have HOR:Hid (Rise ol∧Blw ol (n + f.m)):=hor
 clear hz hzr ett hor
 obtain ⟨rg',rc',p1,a1,n1,c1,d1,m1,e1,erv,y0,y1,y2,y3,_,_,G⟩:=B0.get hq
 obtain ⟨rfl,rfl⟩:rg = rg'∧rc = rc':=by
  rw [hrv] at erv
  simp only [Value.slice.injEq,Option.some.injEq,Addr.mk.injEq,and_true,true_and] at erv
  exact erv
 have LK:=B0.t q hq
 have hkk:=B0.k q hq
 have hlen:=hkk.1.len _ hkk.2.1
 obtain ⟨va,vc,eva,hvc⟩:=LK.form
 obtain ⟨vn,evn⟩:∃ vn,vn = (X q).l.length:=⟨_,rfl⟩
 rw [← evn] at eva hlen hvc
 have HV:Hid (f.V q = .slice va vn vc):=eva
 have HVN:Hid (vn = (X q).l.length):=evn
 rw [eva] at LK y0
 have HON:Hid (on = ol.length):=by
  obtain ⟨a',c',e,_⟩:=ho.form
  simp only [Value.slice.injEq] at e
  exact e.2.1
 have hoc:on≤oc:=by
  obtain ⟨a',c',e,h1⟩:=ho.form
  simp only [Value.slice.injEq] at e
  omega
 have LO:=ho.rest
 clear erv hrv eva evn y1 y2 y3 G
 go_enter Tryz.func56,Tryz.ntmps56
 go_wp2_with fail
 generalize w.alloc (.cells #[.slice oa on oc,.bool p,.slice a na ca,.slice d nd cd,.int .i64 ob,.bool ot] 67) = W0 at *
 refine (atB (c:Int) W0 LK hkk.1 (by rw [← HVN.out];omega)).mono ?_
 rintro e w2 ⟨tp,ta,tn,tc,td,tm,te,rfl,ZT,hb2⟩
 rw [latI_nat,← HTT.out] at ZT
 have hbw2:=bel_tr hb0 hb2
 have hz3:=bel_d0 w2 (.cells #[.bool tp,.slice ta tn tc,.slice td tm te] 29)
 have BT:=box_new w2 #[.bool tp,.slice ta tn tc,.slice td tm te] 29
 have hs3:(w2.alloc (.cells #[.bool tp,.slice ta tn tc,.slice td tm te] 29)).heap.size = w2.heap.size + 1:=by simp
 have hs2:=hb2.size
 have hb3:=bel_tr hbw2 hz3
 have hb03:=bel_tr hb2 hz3
 replace y0:=kept_c hb03 y0
 replace BU:=BU.below hb03
 have B3:=h.below hb3
 have hT3:=hT.below hb3
 replace LO:=LO.below hb3
 have LS:=(LK.below hb03).rest
 replace ZT:=ZT.below hz3
 clear hb2 hz3 hb03 LK B0 hT0
 obtain ⟨sgn,esgn⟩:∃ sgn,sgn = tt.num.sign:=⟨_,rfl⟩
 have ESG:Hid (sgn = tt.num.sign):=esgn
 clear esgn
 have x0:=BT 0 _ rfl;have x1:=BT 1 _ rfl;have x2:=BT 2 _ rfl
 go_wp2_with fail
 clear x0 x1 x2
 generalize w2.alloc (.cells #[.bool tp,.slice ta tn tc,.slice td tm te] 29) = W2 at *
 refine (rsignB sgn W2 ZT.tr (by omega) hS.1 ESG.out).mono ?_
 rintro e W3 ⟨rfl,hb4⟩
 have hs4:=hb4.size
 replace hb3:=bel_tr hb3 hb4
 replace y0:=kept_c hb4 y0
 replace BU:=BU.below hb4
 replace BT:=BT.below hb4
 replace B3:=B3.below hb4
 replace hT3:=hT3.below hb4
 replace LO:=LO.below hb4
 replace LS:=LS.below hb4
 replace ZT:=ZT.below hb4
 clear hb4
 by_cases hz0:tt = 0
 ·obtain rfl:sgn = 0:=by rw [ESG.out,hz0];rfl
  have BN:BD W3 F { f with V:=fun a=>if a = q then f.V q else f.V a } n (upR X q { X q with l:=(X q).l,r:=(X q).r - r * tt }) lc S Sc:=by
   rw [upd_self]
   have ex:upR X q { X q with l:=(X q).l,r:=(X q).r - r * tt } = X:=by
    funext b
    unfold upR
    by_cases hb:b = q
    ·subst hb
     rw [if_pos rfl,hz0,Rat.mul_zero]
     have:(X b).r - 0 = (X b).r:=by grind
     rw [this]
    ·rw [if_neg hb]
   rw [ex]
   exact B3
  have KN:KF f.has ({ f with V:=fun a=>if a = q then f.V q else f.V a }:Bf).has w W3:=by
   rw [upd_self]
   exact (KF.refl _ _).bel hb3
  clear BU BT B3 LO LS ZT y0
  go_wp2
  exact bodyPost_ret (v:=.tuple #[]) (by simp [results,Tryz.results56,go_sem]) rfl ⟨rfl,_,_,BN,fun k=>by rw [hz0];grind,KN⟩
 ·have hsn:¬ sgn = 0:=fun e=>hz0 (by
   have h1:=ESG.out
   rw [e] at h1
   exact Rat.num_eq_zero.1 (Int.sign_eq_zero_iff_zero.1 h1.symm))
  have hsn2:(sgn == 0) = false:=by simpa using hsn
  have HBX:∀ w',Below W3.heap.size W3 w'→(w'.cell? ⟨rg,q * 6,none⟩ = some (.slice va vn vc)∧w'.cell? ⟨w.heap.size,0,none⟩ = some (.slice oa on oc)∧w'.cell? ⟨w2.heap.size,0,none⟩ = some (.bool tp)∧w'.cell? ⟨w2.heap.size,1,none⟩ = some (.slice ta tn tc)∧w'.cell? ⟨w2.heap.size,2,none⟩ = some (.slice td tm te)):=fun w' h=>⟨kept_c h y0,kept_c h (BU 0 _ rfl),kept_c h (BT 0 _ rfl),kept_c h (BT 1 _ rfl),kept_c h (BT 2 _ rfl)⟩
  go_wp2_with fail
  refine wp_region_noPanic (wp_region_guardT 11 HBX (by as_aux_lemma=>kernel_rfl) ?_)
  have hc0:Below W3.heap.size W3 W3.drew:=bel_d1 _
  generalize W3.drew = z0 at *
  refine wpAnyG.tT 0 (v:=.pointer (some ⟨rg,q * 6,none⟩)) (by decide) 11 (by as_aux_lemma=>kernel_rfl) (by rfl) ?y0 (HBX _ hc0) ?_
  case y0 =>
   rintro w' ⟨q0,q1,q2,q3,q4⟩
   simp only [lgA,lgZ]
   go_simp
  simp only [lgA,lgZ,Act.put,lsA,lsZ,lsS]
  refine wpAnyG.tT 1 (v:=.pointer (some ⟨rg,q * 6,none⟩)) (by decide) 11 (by as_aux_lemma=>kernel_rfl) (by rfl) ?y1 (HBX _ hc0) ?_
  case y1 =>
   rintro w' ⟨q0,q1,q2,q3,q4⟩
   simp only [lgA,lgZ,lgS]
   go_simp
  simp only [lgA,lgZ,lgS,Act.put,lsA,lsZ,lsS]
  refine wpAnyG.tT 2 (v:=.pointer (some ⟨rg,q * 6,none⟩)) (by decide) 11 (by as_aux_lemma=>kernel_rfl) (by rfl) ?y2 (HBX _ hc0) ?_
  case y2 =>
   rintro w' ⟨q0,q1,q2,q3,q4⟩
   simp only [lgA,lgZ,lgS]
   go_simp
  simp only [lgA,lgZ,lgS,Act.put,lsA,lsZ,lsS]
  refine wpAnyG.tT 3 (v:=.pointer (some ⟨rg,q * 6,none⟩)) (by decide) 11 (by as_aux_lemma=>kernel_rfl) (by rfl) ?y3 (HBX _ hc0) ?_
  case y3 =>
   rintro w' ⟨q0,q1,q2,q3,q4⟩
   simp only [lgA,lgZ,lgS]
   go_simp
  simp only [lgA,lgZ,lgS,Act.put,lsA,lsZ,lsS]
  refine wpAnyG.tT 4 (v:=.slice va vn vc) (by decide) 11 (by as_aux_lemma=>kernel_rfl) (by rfl) ?y4 (HBX _ hc0) ?_
  case y4 =>
   rintro w' ⟨q0,q1,q2,q3,q4⟩
   simp only [lgA,lgZ,lgS]
   go_simp
  simp only [lgA,lgZ,lgS,Act.put,lsA,lsZ,lsS]
  refine wpAnyG.tT 5 (v:=.pointer (some ⟨w.heap.size,0,none⟩)) (by decide) 11 (by as_aux_lemma=>kernel_rfl) (by rfl) ?y5 (HBX _ hc0) ?_
  case y5 =>
   rintro w' ⟨q0,q1,q2,q3,q4⟩
   simp only [lgA,lgZ,lgS]
   go_simp
  simp only [lgA,lgZ,lgS,Act.put,lsA,lsZ,lsS]
  refine wpAnyG.tT 6 (v:=.slice oa on oc) (by decide) 11 (by as_aux_lemma=>kernel_rfl) (by rfl) ?y6 (HBX _ hc0) ?_
  case y6 =>
   rintro w' ⟨q0,q1,q2,q3,q4⟩
   simp only [lgA,lgZ,lgS]
   go_simp
  simp only [lgA,lgZ,lgS,Act.put,lsA,lsZ,lsS]
  refine wpAnyG.tT 7 (v:=.agg #[.bool tp,.slice ta tn tc,.slice td tm te]) (by decide) 11 (by as_aux_lemma=>kernel_rfl) (by rfl) ?y7 (HBX _ hc0) ?_
  case y7 =>
   rintro w' ⟨q0,q1,q2,q3,q4⟩
   simp only [lgA,lgZ,lgS]
   go_simp
  simp only [lgA,lgZ,lgS,Act.put,lsA,lsZ,lsS]
  refine wpAnyG.one 8 (by as_aux_lemma=>kernel_rfl) (by decide) (by rfl) (fun K hK=>?_)
  simp only [lgA,lgZ,lgS]
  go_simp
  refine (lessB (N:=n + f.m) z0 (LS.below hc0) (LO.below hc0) ⟨HVN.out,hvc⟩ ⟨HON.out,hoc⟩ ⟨hkk.1,hkk.2.1⟩ HOR.out (ZT.tr.below hc0) ⟨hS.1,hS.1,hS.2⟩ HZ.out hN (hT3.below hc0)).mono ?_
  rintro e z1 ⟨v',l',rfl,LN,hR',hB',hl',hk1⟩
  have hc1:Below W3.heap.size W3 z1:=bel_tr hc0 hk1
  obtain ⟨xa,xn,xc,rfl⟩:∃ xa xn xc,v' = Value.slice xa xn xc:=by obtain ⟨u1,u2,e,_⟩:=LN.form;exact ⟨_,_,_,e⟩
  dsimp only
  refine hK _ _ ⟨fun _=>HBX _ hc1,fun _=>trivial⟩ ?_
  clear hK K
  refine wpAnyG.one 9 (by as_aux_lemma=>kernel_rfl) (by decide) (by rfl) (fun K hK=>?_)
  simp only [lgA,lgZ,lgS]
  go_simp
  refine hK _ _ ⟨fun _=>HBX _ hc1,fun _=>trivial⟩ ?_
  clear hK K
  refine wpAnyG.tT 10 (v:=.pointer (some ⟨rg,q * 6,none⟩)) (by decide) 11 (by as_aux_lemma=>kernel_rfl) (by rfl) ?y10 (HBX _ hc1) ?_
  case y10 =>
   rintro w' ⟨q0,q1,q2,q3,q4⟩
   simp only [lgA,lgZ,lgS]
   go_simp
  simp only [lgA,lgZ,lgS,Act.put,lsA,lsZ,lsS]
  refine wpAnyG.one 11 (by as_aux_lemma=>kernel_rfl) (by decide) (by rfl) (fun K hK=>?_)
  simp only [lgA,lgZ,lgS]
  have BZ:=B3.below hc1
  obtain ⟨E,s1,_⟩:=id BZ.r
  obtain ⟨cur,hcur⟩:=s1.typ (g:=rg) (by rw [HRV.out];rfl)
  have f1:=frozen_of_row z1 rg (q * 6) cur 67 hcur
  have k1:=kept_c hc1 y0
  go_simp
  refine hK _ _ ⟨fun h=>absurd h (by decide),fun _=>trivial⟩ ?_
  clear hK K
  refine wpAnyG.done (by as_aux_lemma=>kernel_rfl) (NoPanic.normal ?_)
  have hw1:=bel_tr hb3 hc1
  have hnew:∀ g,(Value.slice xa xn xc).ownBlock = some g→W3.heap.size≤g:=fun g e=>by have:=(LN.lt g e).1;have:=hc0.size;omega
  obtain ⟨B4,O4⟩:=BZ.putN HRV.out hq (LN.mono (by have:=hc0.size;have:=hb3.size;omega)) ⟨hR',hB'⟩ (fun g e hh=>by have:=(B3.lt g hh).2;have:=hnew g e;omega)
  have K4:KF f.has ({ f with V:=fun a=>if a = q then .slice xa xn xc else f.V a }:Bf).has w (z1.setCell ⟨rg,q * 6,none⟩ (.slice xa xn xc)):=off_kf hw1 O4 (.inr (.inl (by rw [HRV.out];rfl))) (fun k hk=>by
   rcases hk with e | e | e | ⟨j,hj,e⟩
   ·exact .inl (.inl e)
   ·exact .inl (.inr (.inl e))
   ·exact .inl (.inr (.inr (.inl e)))
   ·by_cases hjq:j = q
    ·refine .inr ?_
     have e':(Value.slice xa xn xc).ownBlock = some k:=by simpa [hjq] using e
     have:=hnew k e'
     have:=hb3.size
     omega
    ·exact .inl (.inr (.inr (.inr ⟨j,hj,by simpa [hjq] using e⟩))))
  have hn4:=BZ.noU
  have hK4':KF f.has f.has z1 (z1.setCell ⟨rg,q * 6,none⟩ (.slice xa xn xc)):=off_kf (Below.refl _ _) O4 (.inr (.inl (by rw [HRV.out];rfl))) (fun k hk=>.inl hk)
  have ZT4:=(ZT.below hc1).kf hK4' hn4
  have hr4:=(hr.below hw1).kf hK4' hn4
  have hT4:=hT.bF hTF (K4.below (fun k hk=>(h.lt k hk).1) hF)
  have hrl:rg < w.heap.size:=(h.lt rg (.inr (.inl (by rw [HRV.out];rfl)))).2
  have hlw:w.heap.size ≠ rg:=by omega
  have hlw2:w2.heap.size ≠ rg:=by omega
  replace BU:BoxC (z1.setCell ⟨rg,q * 6,none⟩ (.slice xa xn xc)) w.heap.size (#[.slice oa on oc,.bool p,.slice a na ca,.slice d nd cd,.int .i64 ob,.bool ot]).toList:=fun j u hu=>(World.cell?_of_block (w:=z1) (O4.block _ hlw)).trans (kept_c hc1 (BU j u hu))
  replace BT:BoxC (z1.setCell ⟨rg,q * 6,none⟩ (.slice xa xn xc)) w2.heap.size [.bool tp,.slice ta tn tc,.slice td tm te]:=fun j u hu=>(World.cell?_of_block (w:=z1) (O4.block _ hlw2)).trans (kept_c hc1 (BT j u hu))
  clear HBX BZ B3 O4 hK4' hn4 hc0 hc1 hk1 LN LO LS ZT f1 k1 y0 s1 hcur hT3 hsn hsn2 hnew hb3
  generalize z1.setCell ⟨rg,q * 6,none⟩ (.slice xa xn xc) = W4 at *
  obtain ⟨rg',rc',p1,a1,n1,c1,d1,m1,e1,erv,_,y1',y2',y3',_,_,G4⟩:=B4.get hq
  obtain ⟨rfl,rfl⟩:rg = rg'∧rc = rc':=by
   have erv':f.rv = _:=erv
   rw [HRV.out] at erv'
   simp only [Value.slice.injEq,Option.some.injEq,Addr.mk.injEq,and_true,true_and] at erv'
   exact erv'
  simp only [if_true] at G4
  clear erv
  have HBX:∀ w',Below W4.heap.size W4 w'→(w'.cell? ⟨rg,q * 6 + 1,none⟩ = some (.bool p1)∧w'.cell? ⟨rg,q * 6 + 1 + 1,none⟩ = some (.slice a1 n1 c1)∧w'.cell? ⟨rg,q * 6 + 1 + 2,none⟩ = some (.slice d1 m1 e1)∧w'.cell? ⟨w.heap.size,1,none⟩ = some (.bool p)∧w'.cell? ⟨w.heap.size,1 + 1,none⟩ = some (.slice a na ca)∧w'.cell? ⟨w.heap.size,1 + 2,none⟩ = some (.slice d nd cd)∧w'.cell? ⟨w2.heap.size,0,none⟩ = some (.bool tp)∧w'.cell? ⟨w2.heap.size,1,none⟩ = some (.slice ta tn tc)∧w'.cell? ⟨w2.heap.size,2,none⟩ = some (.slice td tm te)):=fun w' h=>⟨kept_c h y1',kept_c h y2',kept_c h y3',kept_c h (BU 1 _ rfl),kept_c h (BU 2 _ rfl),kept_c h (BU 3 _ rfl),kept_c h (BT 0 _ rfl),kept_c h (BT 1 _ rfl),kept_c h (BT 2 _ rfl)⟩
  go_wp2_with fail
  refine wp_region_noPanic (wp_region_guardT 11 HBX (by as_aux_lemma=>kernel_rfl) ?_)
  have hc0:Below W4.heap.size W4 W4.drew:=bel_d1 _
  generalize W4.drew = y0 at *
  refine wpAnyG.tT 0 (v:=.pointer (some ⟨rg,q * 6,none⟩)) (by decide) 11 (by as_aux_lemma=>kernel_rfl) (by rfl) ?y0 (HBX _ hc0) ?_
  case y0 =>
   rintro w' ⟨q0,q1,q2,q3,q4,q5,q6,q7,q8⟩
   simp only [lgA,lgZ]
   go_simp
  simp only [lgA,lgZ,Act.put,lsA,lsZ,lsS]
  refine wpAnyG.tT 1 (v:=.pointer (some ⟨rg,q * 6,none⟩)) (by decide) 11 (by as_aux_lemma=>kernel_rfl) (by rfl) ?y1 (HBX _ hc0) ?_
  case y1 =>
   rintro w' ⟨q0,q1,q2,q3,q4,q5,q6,q7,q8⟩
   simp only [lgA,lgZ,lgS]
   go_simp
  simp only [lgA,lgZ,lgS,Act.put,lsA,lsZ,lsS]
  refine wpAnyG.tT 2 (v:=.pointer (some ⟨rg,q * 6,none⟩)) (by decide) 11 (by as_aux_lemma=>kernel_rfl) (by rfl) ?y2 (HBX _ hc0) ?_
  case y2 =>
   rintro w' ⟨q0,q1,q2,q3,q4,q5,q6,q7,q8⟩
   simp only [lgA,lgZ,lgS]
   go_simp
  simp only [lgA,lgZ,lgS,Act.put,lsA,lsZ,lsS]
  refine wpAnyG.tT 3 (v:=.pointer (some ⟨rg,q * 6 + 1,none⟩)) (by decide) 11 (by as_aux_lemma=>kernel_rfl) (by rfl) ?y3 (HBX _ hc0) ?_
  case y3 =>
   rintro w' ⟨q0,q1,q2,q3,q4,q5,q6,q7,q8⟩
   simp only [lgA,lgZ,lgS]
   go_simp
  simp only [lgA,lgZ,lgS,Act.put,lsA,lsZ,lsS]
  refine wpAnyG.tT 4 (v:=.agg #[.bool p1,.slice a1 n1 c1,.slice d1 m1 e1]) (by decide) 11 (by as_aux_lemma=>kernel_rfl) (by rfl) ?y4 (HBX _ hc0) ?_
  case y4 =>
   rintro w' ⟨q0,q1,q2,q3,q4,q5,q6,q7,q8⟩
   simp only [lgA,lgZ,lgS]
   go_simp
  simp only [lgA,lgZ,lgS,Act.put,lsA,lsZ,lsS]
  refine wpAnyG.tT 5 (v:=.pointer (some ⟨w.heap.size,1,none⟩)) (by decide) 11 (by as_aux_lemma=>kernel_rfl) (by rfl) ?y5 (HBX _ hc0) ?_
  case y5 =>
   rintro w' ⟨q0,q1,q2,q3,q4,q5,q6,q7,q8⟩
   simp only [lgA,lgZ,lgS]
   go_simp
  simp only [lgA,lgZ,lgS,Act.put,lsA,lsZ,lsS]
  refine wpAnyG.tT 6 (v:=.agg #[.bool p,.slice a na ca,.slice d nd cd]) (by decide) 11 (by as_aux_lemma=>kernel_rfl) (by rfl) ?y6 (HBX _ hc0) ?_
  case y6 =>
   rintro w' ⟨q0,q1,q2,q3,q4,q5,q6,q7,q8⟩
   simp only [lgA,lgZ,lgS]
   go_simp
  simp only [lgA,lgZ,lgS,Act.put,lsA,lsZ,lsS]
  refine wpAnyG.tT 7 (v:=.agg #[.bool tp,.slice ta tn tc,.slice td tm te]) (by decide) 11 (by as_aux_lemma=>kernel_rfl) (by rfl) ?y7 (HBX _ hc0) ?_
  case y7 =>
   rintro w' ⟨q0,q1,q2,q3,q4,q5,q6,q7,q8⟩
   simp only [lgA,lgZ,lgS]
   go_simp
  simp only [lgA,lgZ,lgS,Act.put,lsA,lsZ,lsS]
  refine wpAnyG.one 8 (by as_aux_lemma=>kernel_rfl) (by decide) (by rfl) (fun K hK=>?_)
  simp only [lgA,lgZ,lgS]
  go_simp
  refine (takB (K:=S) y0 (G4.tr.below hc0) (hr4.tr.below hc0) (ZT4.tr.below hc0) ⟨hS.1,hS.1,hS.1⟩ hS.2 HZR.out (hT4.below hc0)).mono ?_
  rintro e y1 ⟨g2,u2,i2,j2,o2,t2,x2,rfl,G2,hk1⟩
  have hc1:Below W4.heap.size W4 y1:=bel_tr hc0 hk1
  dsimp only
  refine hK _ _ ⟨fun _=>HBX _ hc1,fun _=>trivial⟩ ?_
  clear hK K
  refine wpAnyG.one 9 (by as_aux_lemma=>kernel_rfl) (by decide) (by rfl) (fun K hK=>?_)
  simp only [lgA,lgZ,lgS]
  go_simp
  refine hK _ _ ⟨fun _=>HBX _ hc1,fun _=>trivial⟩ ?_
  clear hK K
  refine wpAnyG.tT 10 (v:=.pointer (some ⟨rg,q * 6 + 1,none⟩)) (by decide) 11 (by as_aux_lemma=>kernel_rfl) (by rfl) ?y10 (HBX _ hc1) ?_
  case y10 =>
   rintro w' ⟨q0,q1,q2,q3,q4,q5,q6,q7,q8⟩
   simp only [lgA,lgZ,lgS]
   go_simp
  simp only [lgA,lgZ,lgS,Act.put,lsA,lsZ,lsS]
  refine wpAnyG.one 11 (by as_aux_lemma=>kernel_rfl) (by decide) (by rfl) (fun K hK=>?_)
  simp only [lgA,lgZ,lgS]
  have BZ:=B4.below hc1
  obtain ⟨E,s1,_⟩:=id BZ.r
  obtain ⟨cur,hcur⟩:=s1.typ (g:=rg) (by show f.rv.ownBlock = some rg;rw [HRV.out];rfl)
  have f1:=frozen_of_row y1 rg (q * 6 + 1) cur 67 hcur
  have f2:=frozen_of_row y1 rg (q * 6 + 1 + 1) cur 67 hcur
  have f3:=frozen_of_row y1 rg (q * 6 + 1 + 2) cur 67 hcur
  have k1:=kept_c hc1 y1'
  have k2:=kept_c hc1 y2'
  have k3:=kept_c hc1 y3'
  go_simp
  refine hK _ _ ⟨fun h=>absurd h (by decide),fun _=>trivial⟩ ?_
  clear hK K
  refine wpAnyG.done (by as_aux_lemma=>kernel_rfl) (NoPanic.normal ?_)
  obtain ⟨BN,O⟩:=BZ.putR HRV.out hq (G2.mono (Nat.zero_le _))
  have KN:=K4.trans (off_kf (C':=({ f with V:=fun a=>if a = q then .slice xa xn xc else f.V a }:Bf).has) hc1 O (.inr (.inl (by show f.rv.ownBlock = some rg;rw [HRV.out];rfl))) (fun k hk=>.inl hk))
  have ex:(fun b=>if b = q then { (fun b=>if b = q then { X q with l:=l' } else X b) q with r:=(X q).r - r * tt } else (fun b=>if b = q then { X q with l:=l' } else X b) b) = upR X q { X q with l:=l',r:=(X q).r - r * tt }:=by
   funext b
   unfold upR
   by_cases hb:b = q
   ·simp [hb]
   ·simp [hb]
  rw [ex] at BN
  clear HBX BU BT B4 BZ G4 G2 K4 O f1 f2 f3 k1 k2 k3 y1' y2' y3' hc0 hc1 hk1 hT4 s1 hcur ex ZT4 hr4
  go_wp2
  go_end0
  exact ⟨rfl,_,_,BN,hl',KN⟩
end Go.Proofs.YtjiodidemimgmaaGreatDoor

import Derived.Test.YtnokmjmefipplaaGreatDoorTtJAll
import Derived.Test.YtnokmjmefipplaaGreatDoorTtNAll
import Derived.Test.YtnokmjmefipplaaGreatDoorGuIAll
set_option maxRecDepth 100000
set_option maxHeartbeats 16000000
namespace Go.Proofs.YtnokmjmefipplaaGreatDoor
open Go.RowKit
theorem aL2 {w0 w w':World} {F:Nat} {P:Prob} {T:Nat→Nod} {ZT:Nat→Nat} {x:WyD} {m:Nat} (h:WyQ w0 w F P T ZT x) (hm:m≤x.hn) (e:w' = w.setCell ⟨x.p,8,none⟩ (.slice x.ha m x.hc)):WyQ w0 w' F P T ZT { x with hn:=m }∧Kb F [97] w w':=by
 have O:Off x.p w w':=by rw [e];exact (Off.refl _ _).set 8 _
 have kk:Kb F [97] w w':=jV h.st h.pF O
 refine ⟨⟨?_,h.pF,h.vs.kb kk (by decide),h.vcc,h.ps.kb kk (by decide),h.pl,(h.ah.kb kk (by decide)).take hm,fun i hi=>?_,fun i j hij hj=>h.mo i j hij (Nat.lt_of_lt_of_le hj hm)⟩,kk⟩
 ·have:=qV h.st 8 (.slice x.ha m x.hc)
  rw [e]
  exact this
 ·have hp:=h.pt i (Nat.lt_of_lt_of_le hi hm)
  exact ⟨hp.rc,hp.sp,hp.ad,hp.ap,hp.ia,hp.sd.kb kk (by decide)⟩
theorem WyQ.offR {w0 Y Y':World} {F R:Nat} {P:Prob} {T:Nat→Nod} {ZT:Nat→Nat} {x:WyD} {cs:Array Value} (h:WyQ w0 Y F P T ZT x) (O:Off R Y Y') (Rb:Rw 114 Y R cs) (hF:F≤R) (hne:∀ g,x.ha = some ⟨g,0,none⟩→g ≠ R):WyQ w0 Y' F P T ZT x:=by
 have kk:Kb F [114] Y Y':=jV Rb hF O
 refine ⟨h.st.kb kk (by decide),h.pF,h.vs.kb kk (by decide),h.vcc,h.ps.kb kk (by decide),h.pl,?_,fun i hi=>⟨(h.pt i hi).rc,(h.pt i hi).sp,(h.pt i hi).ad,(h.pt i hi).ap,(h.pt i hi).ia,(h.pt i hi).sd.kb kk (by decide)⟩,h.mo⟩
 obtain ⟨vs,g1,g2⟩:=h.ah
 refine ⟨vs,⟨g1.1,?_⟩,g2⟩
 rcases g1.2 with q | ⟨g,cap,cur,e1,e2,e3,rest⟩
 ·exact .inl q
 ·simp only [Value.slice.injEq] at e1
  exact .inr ⟨g,cap,cur,by rw [← e1.1,← e1.2.2],e2,(O.block g (hne g e1.1)).trans e3,rest⟩
def NxR (w0:World) (F:Nat) (P:Prob) (T:Nat→Nod) (ZT:Nat→Nat) (x:WyD) (m:Nat) (w:World) (e:Ending) (w':World):Prop :=
 e = .returned (.agg #[.int .i64 ((x.f m).par:Nat),.int .i64 ((x.f m).abv:Nat),.bool (x.f m).rt])∧∃ x' Z',WyQ w0 w' F P T ZT x'∧Std w0 w' F P ZT ((x.f m).to T) ((x.f m).box T) Z' x'.C∧x'.d = (x.f m).abv + 1∧x'.hn = m∧x'.p = x.p∧x'.f = x.f∧Below F w w'
structure TrQ (w0:World) (P:Prob) (T:Nat→Nod) (tn:Nat) (ZT:Nat→Nat) (b o:Nat):Prop where
 nd:∀ i,i < tn→NodeAt w0 b (o + i * 13) (T i) (ZT i)
 gd:aH2 P T tn
 sz:tot P.ZV P.vn + tot ZT tn≤1048576
theorem TrQ.zt {w0:World} {P:Prob} {T:Nat→Nod} {tn:Nat} {ZT:Nat→Nat} {b o:Nat} (h:TrQ w0 P T tn ZT b o) {i:Nat} (hi:i < tn):ZT i≤1048576:=by
 have:=bI (Z:=ZT) hi;have:=h.sz;omega
theorem TrQ.tn {w0:World} {P:Prob} {T:Nat→Nod} {tn:Nat} {ZT:Nat→Nat} {b o:Nat} (h:TrQ w0 P T tn ZT b o):tn≤1048576:=by
 have:=aT ZT tn;have:=h.sz;omega
theorem TrQ.z {w0 w:World} {F:Nat} {P:Prob} {T:Nat→Nod} {tn:Nat} {ZT:Nat→Nat} {b o k:Nat} {B:Nat→BxV} {Z:Nat→Nat} {C:Nat→List Value} (h:TrQ w0 P T tn ZT b o) (hk:k≤tn) (hs:Std w0 w F P ZT k B Z C) {v:Nat} (hv:v < P.vn):Z v≤3000000:=by
 have h1:=bI (Z:=Z) hv;have h2:=hs.2;have h3:=pJ ZT hk;have:=h.sz;omega
theorem aR1 {w0:World} {F:Nat} {P:Prob} {T:Nat→Nod} {ZT:Nat→Nat} {x:WyD} {m tn tc b o:Nat} (w:World) (hb0:Below w0.heap.size w0 w) (hFw:w0.heap.size≤F) (hTr:TrQ w0 P T tn ZT b o) (h:WyQ w0 w F P T ZT x) (hF:F≤w.heap.size) (hm:x.hn = m + 1) (hd:x.d≤2000000) (hT:TB w0) :
 Calls Tryz.prog 85 #[.pointer (some ⟨x.p,0,none⟩),.slice (some ⟨b,o,none⟩) tn tc] w fun e w'=>NxR w0 F P T ZT x m w e w':=by
 have hml:m < x.hn:=by omega
 have hp:=h.pt m hml
 have hcap:x.hn≤x.hc:=by obtain ⟨a',cap,e,hc⟩:=h.ah.form;simp only [Value.slice.injEq] at e;omega
 rcases h.ah.cell with q | ⟨gh,hha,hcell⟩
 ·omega
 have hcm:=hcell m hml
 obtain ⟨kP,hK⟩:∃ kP,kP = (x.f m).par:=⟨_,rfl⟩
 obtain ⟨A,hA⟩:∃ A,A = (x.f m).abv:=⟨_,rfl⟩
 obtain ⟨rt,hrt⟩:∃ rt,rt = (x.f m).rt:=⟨_,rfl⟩
 rw [← hK,← hA,← hrt] at hcm
 obtain ⟨hKt,hok0⟩:=hTr.gd.2 _ hp.rc.rch
 have hok:=hok0 hp.sp
 rw [← hK] at hKt hok
 have hN:=hTr.nd kP hKt
 have HF3:Hid (kP = (x.f m).par∧A = (x.f m).abv∧rt = (x.f m).rt):=⟨hK,hA,hrt⟩
 obtain ⟨v,hv⟩:∃ v:Nat,(T kP).var = (v:Int):=⟨(T kP).var.toNat,by have:=hok.v0;omega⟩
 have hvl:v < P.vn:=by have:=hok.vn;omega
 have HVV:Hid ((T kP).var = (v:Int)):=hv
 have htnl:=hTr.tn
 clear hcell hok0 hK hA hrt hv
 have c8:w.cell? ⟨x.p,8,none⟩ = some (.slice x.ha x.hn x.hc):=h.st.cell 8
 rw [hha,hm] at c8
 have f8:=h.st.frozen 8
 have hpw:x.p < w.heap.size:=h.st.lt
 have y0:w.cell? ⟨gh,m * 3,none⟩ = some (.int .i64 (kP:Nat)):=hcm 0 _ rfl
 have y1:w.cell? ⟨gh,m * 3 + 1,none⟩ = some (.int .i64 (A:Nat)):=hcm 1 _ rfl
 have y2:w.cell? ⟨gh,m * 3 + 2,none⟩ = some (.bool rt):=hcm 2 _ rfl
 have hgw:gh < w.heap.size:=block_lt_of_cell y0
 have hm1:(((m + 1:Nat):Int) - 1) = (m:Int):=by omega
 have hmb:m≤2000000:=by have q1:=hp.ia;have q2:=hp.ap;have q3:=HF3.out.1;omega
 have hmI:(m:Int) < ((m + 1:Nat):Int):=by omega
 have hm0:¬ (m:Int) < 0:=by omega
 have hm3:(m:Int) * 3 = ((m * 3:Nat):Int):=by omega
 have hmc:¬ (x.hc:Int) < (m:Int):=by omega
 obtain ⟨h1,k1⟩:=aL2 (m:=m) (w':=w.setCell ⟨x.p,8,none⟩ (.slice (some ⟨gh,0,none⟩) m x.hc)) h (by omega) (by rw [hha])
 obtain ⟨W1,eW1⟩:∃ W1,W1 = w.setCell ⟨x.p,8,none⟩ (.slice (some ⟨gh,0,none⟩) m x.hc):=⟨_,rfl⟩
 have hsW:W1.heap.size = w.heap.size:=by rw [eW1];exact ((Off.refl x.p w).set 8 _).size
 rw [← eW1] at h1 k1
 have Rb:=Rw.new 114 W1 #[.int .i64 0,.int .i64 0,.bool false]
 have hz1:=aG W1 (.cells #[.int .i64 0,.int .i64 0,.bool false] 114)
 have hs1:(W1.alloc (.cells #[.int .i64 0,.int .i64 0,.bool false] 114)).heap.size = w.heap.size + 1:=by rw [World.size_alloc,hsW]
 have Qb:=Rw.new 114 (W1.alloc (.cells #[.int .i64 0,.int .i64 0,.bool false] 114)) #[.int .i64 (kP:Nat),.int .i64 (A:Nat),.bool rt]
 have hz2:=aG (W1.alloc (.cells #[.int .i64 0,.int .i64 0,.bool false] 114)) (.cells #[.int .i64 (kP:Nat),.int .i64 (A:Nat),.bool rt] 114)
 rw [hs1] at Qb
 rw [hsW] at Rb
 replace Rb:=Rb.below hz2
 have hbz:=aB hz1 hz2
 have h2:=h1.below hbz
 have k2:Kb F [97,155,45] w ((W1.alloc (.cells #[.int .i64 0,.int .i64 0,.bool false] 114)).alloc (.cells #[.int .i64 (kP:Nat),.int .i64 (A:Nat),.bool rt] 114)):=(k1.up (by decide)).trans (bZ _ hbz (by omega))
 have hFU:F≤((W1.alloc (.cells #[.int .i64 0,.int .i64 0,.bool false] 114)).alloc (.cells #[.int .i64 (kP:Nat),.int .i64 (A:Nat),.bool rt] 114)).heap.size:=Nat.le_trans hF k2.size
 have hbU:Below w0.heap.size w0 ((W1.alloc (.cells #[.int .i64 0,.int .i64 0,.bool false] 114)).alloc (.cells #[.int .i64 (kP:Nat),.int .i64 (A:Nat),.bool rt] 114)):=hb0.trans (k2.below.mono hFw)
 have hsd:=hp.sd.kb k2 (by decide)
 have HAB:Hid ((∀ i,i < m→(x.f i).abv≤A)∧A≤x.d∧A≤kP):=by
  obtain ⟨q1,q2,q3⟩:=HF3.out
  refine ⟨fun i hi=>by rw [q2];exact h.mo i m (by omega) hml,by rw [q2];exact hp.ad,by rw [q2,q1];exact hp.ap⟩
 rw [eW1] at Rb Qb h2 k2 hFU hbU hsd
 clear hz1 hz2 hs1 hbz h1 k1 hsW eW1 W1 hcm
 go_enter Tryz.func85,Tryz.ntmps85
 go_wp2_with fail
 generalize ((w.setCell ⟨x.p,8,none⟩ (.slice (some ⟨gh,0,none⟩) m x.hc)).alloc (.cells #[.int .i64 0,.int .i64 0,.bool false] 114)).alloc (.cells #[.int .i64 (kP:Nat),.int .i64 (A:Nat),.bool rt] 114) = U at *
 clear c8 f8 y0 y1 y2 hm1 hmI hm0 hm3 hmc
 refine (aR0 (x:={ x with hn:=m }) A U hbU hFw h2 hFU HAB.out.2.1 hd HAB.out.1).mono ?_
 rintro e V ⟨⟨rv,rfl⟩,h4,k4⟩
 have kV:Kb F [97,155,45] w V:=k2.trans (k4.up (by decide))
 replace Rb:=Rb.kb k4 (by decide)
 replace Qb:=Qb.kb k4 (by decide)
 replace hsd:=hsd.kb k4 (by decide)
 have hbV:Below w0.heap.size w0 V:=hbU.trans (k4.below.mono hFw)
 have hFV:F≤V.heap.size:=Nat.le_trans hFU k4.size
 clear k2 k4 h2 hFU hbU
 have HSD:Hid (Std w0 V F P ZT kP (x.f m).B (x.f m).Z (({ x with hn:=m }:WyD).back A).C):=by
  obtain ⟨q1,q2,q3⟩:=HF3.out
  rw [q1,q2]
  exact hsd
 have HZV:Hid ((x.f m).Z v≤3000000):=hTr.z (by omega) HSD.out hvl
 clear hsd
 have HBX:∀ w',Below V.heap.size V w'→(w'.cell? ⟨w.heap.size + 1,0,none⟩ = some (.int .i64 (kP:Nat))∧w'.cell? ⟨w.heap.size + 1,2,none⟩ = some (.bool rt)∧w'.cell? ⟨b,o + kP * 13,none⟩ = some (.bool (T kP).sp)∧w'.cell? ⟨b,o + kP * 13 + 1,none⟩ = some (.int .i64 (T kP).var)∧w'.cell? ⟨b,o + kP * 13 + 2,none⟩ = some (.bool (T kP).p)∧w'.cell? ⟨b,o + kP * 13 + 3,none⟩ = some (.slice (T kP).a (T kP).na (T kP).ca)∧w'.cell? ⟨b,o + kP * 13 + 4,none⟩ = some (.int .i64 (T kP).lf)∧w'.cell? ⟨b,o + kP * 13 + 5,none⟩ = some (.int .i64 (T kP).rt)∧w'.cell? ⟨b,o + kP * 13 + 6,none⟩ = some (.int .i64 (T kP).C.vd)∧w'.cell? ⟨b,o + kP * 13 + 7,none⟩ = some (.bool (T kP).C.p)∧w'.cell? ⟨b,o + kP * 13 + 8,none⟩ = some (.slice (T kP).C.a (T kP).C.na (T kP).C.ca)∧w'.cell? ⟨b,o + kP * 13 + 9,none⟩ = some (.slice (T kP).C.d (T kP).C.nd (T kP).C.cd)∧w'.cell? ⟨b,o + kP * 13 + 10,none⟩ = some (.slice (T kP).C.xa (T kP).C.xn (T kP).C.xc)∧w'.cell? ⟨b,o + kP * 13 + 11,none⟩ = some (.slice (T kP).C.ya (T kP).C.yn (T kP).C.yc)∧w'.cell? ⟨b,o + kP * 13 + 12,none⟩ = some (.slice (T kP).C.za (T kP).C.zn (T kP).C.zc)):=fun w' hw=>by
  have n2:=hN.below (hbV.trans (hw.mono hbV.size))
  exact ⟨(Qb.below hw).cell 0,(Qb.below hw).cell 2,n2.c 0 _ rfl,n2.c 1 _ rfl,n2.c 2 _ rfl,n2.c 3 _ rfl,n2.c 4 _ rfl,n2.c 5 _ rfl,n2.c 6 _ rfl,n2.c 7 _ rfl,n2.c 8 _ rfl,n2.c 9 _ rfl,n2.c 10 _ rfl,n2.c 11 _ rfl,n2.c 12 _ rfl⟩
 have hKI:(kP:Int) < (tn:Int):=by omega
 have hK0:¬ (kP:Int) < 0:=by omega
 have hK13:(kP:Int) * 13 = ((kP * 13:Nat):Int):=by omega
 have q1':=Qb.cell 1
 go_wp2_with fail
 clear q1'
 refine wp_region_noPanic (aY (fun _ w'=>w'.cell? ⟨w.heap.size + 1,0,none⟩ = some (.int .i64 (kP:Nat))∧w'.cell? ⟨w.heap.size + 1,2,none⟩ = some (.bool rt)∧w'.cell? ⟨b,o + kP * 13,none⟩ = some (.bool (T kP).sp)∧w'.cell? ⟨b,o + kP * 13 + 1,none⟩ = some (.int .i64 (T kP).var)∧w'.cell? ⟨b,o + kP * 13 + 2,none⟩ = some (.bool (T kP).p)∧w'.cell? ⟨b,o + kP * 13 + 3,none⟩ = some (.slice (T kP).a (T kP).na (T kP).ca)∧w'.cell? ⟨b,o + kP * 13 + 4,none⟩ = some (.int .i64 (T kP).lf)∧w'.cell? ⟨b,o + kP * 13 + 5,none⟩ = some (.int .i64 (T kP).rt)∧w'.cell? ⟨b,o + kP * 13 + 6,none⟩ = some (.int .i64 (T kP).C.vd)∧w'.cell? ⟨b,o + kP * 13 + 7,none⟩ = some (.bool (T kP).C.p)∧w'.cell? ⟨b,o + kP * 13 + 8,none⟩ = some (.slice (T kP).C.a (T kP).C.na (T kP).C.ca)∧w'.cell? ⟨b,o + kP * 13 + 9,none⟩ = some (.slice (T kP).C.d (T kP).C.nd (T kP).C.cd)∧w'.cell? ⟨b,o + kP * 13 + 10,none⟩ = some (.slice (T kP).C.xa (T kP).C.xn (T kP).C.xc)∧w'.cell? ⟨b,o + kP * 13 + 11,none⟩ = some (.slice (T kP).C.ya (T kP).C.yn (T kP).C.yc)∧w'.cell? ⟨b,o + kP * 13 + 12,none⟩ = some (.slice (T kP).C.za (T kP).C.zn (T kP).C.zc)) (by kernel_rfl) ?_)
 have hc0:Below V.heap.size V V.drew:=aK _
 generalize V.drew = z0 at *
 refine wpAnyG.tA 0 (v:=.pointer (some ⟨x.p,0,none⟩)) (by decide) 8 (by kernel_rfl) (by rfl) ?y0 (HBX _ hc0) ?_
 case y0 =>
  rintro w' ⟨q0,q1,q2,q3,q4,q5,q6,q7,q8,q9,q10,q11,q12,q13,q14⟩
  simp only [lgA,lgZ]
  go_simp
 simp only [lgA,lgZ,Act.put,lsA,lsZ,lsS]
 refine wpAnyG.tA 1 (v:=.slice (some ⟨b,o,none⟩) tn tc) (by decide) 4 (by kernel_rfl) (by rfl) ?y1 (HBX _ hc0) ?_
 case y1 =>
  rintro w' ⟨q0,q1,q2,q3,q4,q5,q6,q7,q8,q9,q10,q11,q12,q13,q14⟩
  simp only [lgA,lgZ,lgS]
  go_simp
 simp only [lgA,lgZ,lgS,Act.put,lsA,lsZ,lsS]
 refine wpAnyG.tA 2 (v:=.pointer (some ⟨w.heap.size + 1,0,none⟩)) (by decide) 3 (by kernel_rfl) (by rfl) ?y2 (HBX _ hc0) ?_
 case y2 =>
  rintro w' ⟨q0,q1,q2,q3,q4,q5,q6,q7,q8,q9,q10,q11,q12,q13,q14⟩
  simp only [lgA,lgZ,lgS]
  go_simp
 simp only [lgA,lgZ,lgS,Act.put,lsA,lsZ,lsS]
 refine wpAnyG.tA 3 (v:=.int .i64 (kP:Nat)) (by decide) 4 (by kernel_rfl) (by rfl) ?y3 (HBX _ hc0) ?_
 case y3 =>
  rintro w' ⟨q0,q1,q2,q3,q4,q5,q6,q7,q8,q9,q10,q11,q12,q13,q14⟩
  simp only [lgA,lgZ,lgS]
  go_simp
 simp only [lgA,lgZ,lgS,Act.put,lsA,lsZ,lsS]
 refine wpAnyG.tA 4 (v:=.pointer (some ⟨b,o + kP * 13,none⟩)) (by decide) 5 (by kernel_rfl) (by rfl) ?y4 (HBX _ hc0) ?_
 case y4 =>
  rintro w' ⟨q0,q1,q2,q3,q4,q5,q6,q7,q8,q9,q10,q11,q12,q13,q14⟩
  simp only [lgA,lgZ,lgS]
  go_simp
 simp only [lgA,lgZ,lgS,Act.put,lsA,lsZ,lsS]
 refine wpAnyG.tA 5 (v:=.agg #[.bool (T kP).sp,.int .i64 (T kP).var,.bool (T kP).p,.slice (T kP).a (T kP).na (T kP).ca,.int .i64 (T kP).lf,.int .i64 (T kP).rt,.int .i64 (T kP).C.vd,.bool (T kP).C.p,.slice (T kP).C.a (T kP).C.na (T kP).C.ca,.slice (T kP).C.d (T kP).C.nd (T kP).C.cd,.slice (T kP).C.xa (T kP).C.xn (T kP).C.xc,.slice (T kP).C.ya (T kP).C.yn (T kP).C.yc,.slice (T kP).C.za (T kP).C.zn (T kP).C.zc]) (by decide) 8 (by kernel_rfl) (by rfl) ?y5 (HBX _ hc0) ?_
 case y5 =>
  rintro w' ⟨q0,q1,q2,q3,q4,q5,q6,q7,q8,q9,q10,q11,q12,q13,q14⟩
  simp only [lgA,lgZ,lgS]
  go_simp
 simp only [lgA,lgZ,lgS,Act.put,lsA,lsZ,lsS]
 refine wpAnyG.tA 6 (v:=.pointer (some ⟨w.heap.size + 1,2,none⟩)) (by decide) 7 (by kernel_rfl) (by rfl) ?y6 (HBX _ hc0) ?_
 case y6 =>
  rintro w' ⟨q0,q1,q2,q3,q4,q5,q6,q7,q8,q9,q10,q11,q12,q13,q14⟩
  simp only [lgA,lgZ,lgS]
  go_simp
 simp only [lgA,lgZ,lgS,Act.put,lsA,lsZ,lsS]
 refine wpAnyG.tA 7 (v:=.bool rt) (by decide) 8 (by kernel_rfl) (by rfl) ?y7 (HBX _ hc0) ?_
 case y7 =>
  rintro w' ⟨q0,q1,q2,q3,q4,q5,q6,q7,q8,q9,q10,q11,q12,q13,q14⟩
  simp only [lgA,lgZ,lgS]
  go_simp
 simp only [lgA,lgZ,lgS,Act.put,lsA,lsZ,lsS]
 refine wpAnyG.one 8 (by kernel_rfl) (by decide) (by rfl) (fun K hK=>?_)
 simp only [lgA,lgZ,lgS]
 go_simp
 have hps:=aQ9 (x:=({ x with hn:=m }:WyD).back A) (k:=kP) (v:=v) (tn:=tn) (B:=(x.f m).B) (Z:=(x.f m).Z) rt z0 (hbV.trans (hc0.mono hbV.size)) (h4.below hc0) (Nat.le_trans hFV hc0.size) (HSD.out.kb (bZ [] hc0 hFV) (by decide)) hok HVV.out hN (by show A≤2000000;have:=HAB.out.2.1;omega) HZV.out (hTr.zt hKt) (fun i hi=>HAB.out.1 i hi) hT hFw
 refine hps.mono ?_
 rintro e Y ⟨⟨rv2,rfl⟩,x',Z',h5,s5,d5,n5,p5,f5,a5,k5⟩
 dsimp only
 have Rb5:=(Rb.below hc0).kb k5 (by decide)
 have Qb5:=(Qb.below hc0).kb k5 (by decide)
 have kY:Kb F [97,155,45] w Y:=(kV.trans (bZ _ hc0 hFV)).trans k5
 have HFA:Hid (x'.d = A + 1∧x'.hn = m∧x'.p = x.p∧x'.f = x.f∧x'.ha = x.ha∧Below F w Y):=⟨d5,n5,p5,f5,a5,kY.below⟩
 have n6:=hN.below ((hb0.trans (kY.below.mono hFw)))
 refine hK _ _ ⟨Qb5.cell 0,Qb5.cell 2,n6.c 0 _ rfl,n6.c 1 _ rfl,n6.c 2 _ rfl,n6.c 3 _ rfl,n6.c 4 _ rfl,n6.c 5 _ rfl,n6.c 6 _ rfl,n6.c 7 _ rfl,n6.c 8 _ rfl,n6.c 9 _ rfl,n6.c 10 _ rfl,n6.c 11 _ rfl,n6.c 12 _ rfl⟩ ?_
 clear hps d5 n5 p5 f5 a5 k5 kY n6
 clear hK K
 refine wpAnyG.done (by kernel_rfl) (NoPanic.normal ?_)
 try simp only [Act.put,List.setIfInBounds_toArray,List.set_cons_zero,List.set_cons_succ]
 have q0:=Qb5.cell 0
 have q1:=Qb5.cell 1
 have q2:=Qb5.cell 2
 have r0:=Rb5.cell 0
 have r1:=Rb5.cell 1
 have r2:=Rb5.cell 2
 have g0:=Rb5.frozen 0
 have g1:=Rb5.frozen 1
 have g2:=Rb5.frozen 2
 have O5:Off w.heap.size Y (((Y.setCell ⟨w.heap.size,0,none⟩ (.int .i64 (kP:Nat))).setCell ⟨w.heap.size,1,none⟩ (.int .i64 (A:Nat))).setCell ⟨w.heap.size,2,none⟩ (.bool rt)):=(((Off.refl _ Y).set 0 _).set 1 _).set 2 _
 have kO:Kb F [114] Y _:=jV Rb5 hF O5
 have h6:=h5.offR O5 Rb5 hF (fun g e=>by
  have q:g = gh:=congrArg (fun q:Option Addr=>(q.getD ⟨0,0,none⟩).block) (e.symm.trans (HFA.out.2.2.2.2.1.trans hha))
  omega)
 have s6:=s5.kb kO (by decide)
 have HEND:Hid (NxR w0 F P T ZT x m w (.returned (.agg #[.int .i64 (kP:Nat),.int .i64 (A:Nat),.bool rt])) (((Y.setCell ⟨w.heap.size,0,none⟩ (.int .i64 (kP:Nat))).setCell ⟨w.heap.size,1,none⟩ (.int .i64 (A:Nat))).setCell ⟨w.heap.size,2,none⟩ (.bool rt))):=by
  obtain ⟨q1,q2,q3⟩:=HF3.out
  obtain ⟨p1,p2,p3,p4,p5,p6⟩:=HFA.out
  refine ⟨by rw [q1,q2,q3],x',Z',h6,?_,by rw [p1,q2],p2,p3,p4,p6.trans kO.below⟩
  have et:(⟨kP,0,rt,(x.f m).B,(x.f m).Z⟩:Prt).to T = (x.f m).to T:=by unfold Prt.to;rw [q1,q3]
  have eb:(⟨kP,0,rt,(x.f m).B,(x.f m).Z⟩:Prt).box T = (x.f m).box T:=by unfold Prt.box;rw [q1,q3]
  rw [← et,← eb]
  exact s6
 clear HFA HF3 h5 s5 h6 s6 O5 kO HBX HAB HSD HZV Rb Qb h4 kV hbV hFV hp hok hN hTr h hc0
 go_wp2
 refine bodyPost_ret (v:=.agg #[.int .i64 (kP:Nat),.int .i64 (A:Nat),.bool rt]) ?_ rfl HEND.out
 simp [results,Tryz.results85,go_sem,r0,r1,r2]
def FlR (w0:World) (F:Nat) (P:Prob) (T:Nat→Nod) (ZT:Nat→Nat) (x:WyD) (m:Nat) (w:World) (e:Ending) (w':World):Prop :=
 e = .returned (.int .i64 ((x.f m).to T:Nat))∧∃ x' Z',WyQ w0 w' F P T ZT x'∧Std w0 w' F P ZT ((x.f m).to T) ((x.f m).box T) Z' x'.C∧x'.d = (x.f m).abv + 1∧x'.hn = m∧x'.p = x.p∧x'.f = x.f∧Below F w w'
theorem aD0 {w0:World} {F:Nat} {P:Prob} {T:Nat→Nod} {ZT:Nat→Nat} {x:WyD} {m tn tc b o:Nat} (w:World) (hb0:Below w0.heap.size w0 w) (hFw:w0.heap.size≤F) (hTr:TrQ w0 P T tn ZT b o) (h:WyQ w0 w F P T ZT x) (hF:F≤w.heap.size) (hm:x.hn = m + 1) (hd:x.d≤2000000) (hT:TB w0) :
 Calls Tryz.prog 57 #[.pointer (some ⟨x.p,0,none⟩),.slice (some ⟨b,o,none⟩) tn tc] w fun e w'=>FlR w0 F P T ZT x m w e w':=by
 have hml:m < x.hn:=by omega
 have hp:=h.pt m hml
 obtain ⟨hKt,hok0⟩:=hTr.gd.2 _ hp.rc.rch
 have hok:=hok0 hp.sp
 have hN:=hTr.nd _ hKt
 have htnl:=hTr.tn
 go_enter Tryz.func57,Tryz.ntmps57
 go_wp2_with fail
 refine (aR1 w hb0 hFw hTr h hF hm hd hT).mono ?_
 rintro e Y ⟨rfl,x',Z',h1,s1,d1,n1,p1,f1,b1⟩
 obtain ⟨kP,hK⟩:∃ kP,kP = (x.f m).par:=⟨_,rfl⟩
 obtain ⟨A,hA⟩:∃ A,A = (x.f m).abv:=⟨_,rfl⟩
 obtain ⟨rt,hrt⟩:∃ rt,rt = (x.f m).rt:=⟨_,rfl⟩
 rw [← hK,← hA,← hrt]
 rw [← hK] at hKt hok hN
 have hto:(x.f m).to T = if rt = true then (T kP).rt.toNat else (T kP).lf.toNat:=by unfold Prt.to;rw [← hK,← hrt]
 have hbY:Below w0.heap.size w0 Y:=hb0.trans (b1.mono hFw)
 have hz:=aG Y (.cells #[.int .i64 (kP:Nat),.int .i64 (A:Nat),.bool rt] 114)
 have hFY:F≤Y.heap.size:=Nat.le_trans hF b1.size
 have HR:Hid (∃ x' Z',WyQ w0 (Y.alloc (.cells #[.int .i64 (kP:Nat),.int .i64 (A:Nat),.bool rt] 114)) F P T ZT x'∧Std w0 (Y.alloc (.cells #[.int .i64 (kP:Nat),.int .i64 (A:Nat),.bool rt] 114)) F P ZT ((x.f m).to T) ((x.f m).box T) Z' x'.C∧x'.d = (x.f m).abv + 1∧x'.hn = m∧x'.p = x.p∧x'.f = x.f∧Below F w (Y.alloc (.cells #[.int .i64 (kP:Nat),.int .i64 (A:Nat),.bool rt] 114))):=⟨x',Z',h1.below hz,s1.kb (bZ [] hz hFY) (by decide),d1,n1,p1,f1,b1.trans (hz.mono hFY)⟩
 have n2:=hN.below hbY
 have y4:Y.cell? ⟨b,o + kP * 13 + 4,none⟩ = some (.int .i64 (T kP).lf):=n2.c 4 _ rfl
 have y5:Y.cell? ⟨b,o + kP * 13 + 5,none⟩ = some (.int .i64 (T kP).rt):=n2.c 5 _ rfl
 have hbl:b < Y.heap.size:=block_lt_of_cell y4
 have hKI:(kP:Int) < (tn:Int):=by omega
 have hK0:¬ (kP:Int) < 0:=by omega
 have hK13:(kP:Int) * 13 = ((kP * 13:Nat):Int):=by omega
 have HTO:Hid ((x.f m).to T = if rt = true then (T kP).rt.toNat else (T kP).lf.toNat):=hto
 have HOK:Hid (0≤(T kP).lf∧0≤(T kP).rt):=by have q1:=hok.l0;have q2:=hok.r0;exact ⟨by omega,by omega⟩
 clear hK hA hrt hto hz h1 s1 d1 n1 p1 f1 b1 hok hok0 hp hN n2 hTr h
 cases rt
 ·have e1:Hid (((T kP).lf.toNat:Int) = (T kP).lf):=Int.toNat_of_nonneg HOK.out.1
  have HT2:Hid ((x.f m).to T = (T kP).lf.toNat):=HTO.out.trans (if_neg Bool.false_ne_true)
  clear HTO
  go_wp2
  go_ret
  exact ⟨by rw [HT2.out];simp [e1.out],HR.out⟩
 ·have e1:Hid (((T kP).rt.toNat:Int) = (T kP).rt):=Int.toNat_of_nonneg HOK.out.2
  have HT2:Hid ((x.f m).to T = (T kP).rt.toNat):=HTO.out.trans (if_pos rfl)
  clear HTO
  go_wp2
  go_ret
  exact ⟨by rw [HT2.out];simp [e1.out],HR.out⟩
end Go.Proofs.YtnokmjmefipplaaGreatDoor
namespace Go.Proofs.YtnokmjmefipplaaGreatDoor
open Go.RowKit Go.Shelf
attribute [local go_sem] Oper.semAt_some
theorem lvIn (P:Prob) (ta:Option Addr) (tn tc:Nat) (k:Nat) (w:World) :
 CallsIn Fence.wide k Tryz.prog 26 #[P.val,.slice ta tn tc] w fun e w'=>e = .returned (.func (.func 53) #[] #[.pointer (some ⟨w.heap.size,0,none⟩),.pointer (some ⟨w.heap.size + 1,0,none⟩)])∧w' = (w.alloc (.cells #[.bool P.mx,.string P.nm,.bool P.p,.slice P.a P.na P.ca,.slice P.d P.nd P.cd,.slice P.va P.vn P.vc,.slice P.ra P.rn P.rc] 31)).alloc (.cells #[.slice ta tn tc] 33):=by
 unfold Prob.val
 refine callsIn_of_wp Tryz.func26 rfl trivial ?_ rfl
 simp only [Tryz.ntmps26,List.size_toArray,List.length_cons,List.length_nil,Nat.reduceAdd,Nat.reduceSub,Array.replicate_succ,Array.replicate_zero,List.push_toArray,List.append_toArray,List.nil_append,List.cons_append]
 gi_wp2
 go_ret
 exact ⟨by simp,rfl⟩
theorem WyQ.pq {w0 w w':World} {F:Nat} {P:Prob} {T:Nat→Nod} {ZT:Nat→Nat} {x:WyD} {k:Nat} {B:Nat→BxV} {Z:Nat→Nat} (h:WyQ w0 w F P T ZT x) (hs:Std w0 w F P ZT k B Z x.C) (hP:PQ w0 P) (hb:Below w0.heap.size w0 w') (hk:KeptY F w w'):PQ w' (x.prob P B Z (P.K + tot ZT k)):=by
 have hV:=h.vs.keptY hk
 have hS:=hs.keptY hk
 refine ⟨hP.k.below hb,hP.s1,hP.sk,?_,hP.r.below hb,?_,h.vcc,hP.rc⟩
 ·rcases hV with q | ⟨g,cur,e1,_,_,e4⟩
  ·exact .inl q
  ·exact .inr ⟨g,0,e1,fun j hj=>by rw [Nat.zero_add];exact (hS.1 j hj).var hb (e4 j hj).2⟩
 ·have h1:=hP.all
  have h2:=hs.2
  show P.S + tot Z P.vn + tot P.ZR P.rn + P.nm.size≤P.K + tot ZT k
  omega
def LvO (w0:World) (P:Prob) (T:Nat→Nod) (tn:Nat) (ZT:Nat→Nat) (C:Nat) (_:Unit) (b:Nat × (Nat→BxV)) (u v:Value) (W:World):Prop :=
 ∃ (x:WyD) (Z:Nat→Nat),u = (x.prob P b.2 Z (P.K + tot ZT b.1)).val∧v = (T b.1).C.val∧Bx P T b.1 b.2∧(T b.1).sp = false∧b.1 < tn∧∀ W',Below w0.heap.size w0 W'→KeptY C W W'→PQ W' (x.prob P b.2 Z (P.K + tot ZT b.1))
def lvA (T:Nat→Nod) (tn:Nat) (g:Nat) (W:World) (i:Nat):Nat :=
 match W.cell? ⟨g,i * 3,none⟩,W.cell? ⟨g,i * 3 + 2,none⟩ with
 | some (.int _ q),some (.bool r)=>wgt tn (if r = true then (T q.toNat).rt.toNat else (T q.toNat).lf.toNat)
 | _,_=>0
def lvS (T:Nat→Nod) (tn:Nat) (g:Nat) (W:World):Nat→Nat
 | 0=>0
 | n + 1=>lvS T tn g W n + lvA T tn g W n
def lvM (T:Nat→Nod) (tn p:Nat) (s:Value) (W:World):Nat:=wgt tn (intOf s).toNat + match W.cell? ⟨p,8,none⟩ with
 | some (.slice (some ⟨g,_,_⟩) n _)=>lvS T tn g W n
 | _=>0
theorem aI0 {w0 W:World} {F:Nat} {P:Prob} {T:Nat→Nod} {ZT:Nat→Nat} {x:WyD} {tn k:Nat} (h:WyQ w0 W F P T ZT x):lvM T tn x.p (.int .i64 (k:Nat)) W = wgt tn k + lK T tn x.f x.hn:=by
 have c8:W.cell? ⟨x.p,8,none⟩ = some (.slice x.ha x.hn x.hc):=h.st.cell 8
 unfold lvM
 rw [c8]
 have e1:(intOf (.int .i64 (k:Nat))).toNat = k:=by simp [intOf]
 rw [e1]
 congr 1
 rcases h.ah.cell with q | ⟨g,e2,hc⟩
 ·rw [q]
  show (match (some (Value.slice x.ha 0 x.hc)) with | some (.slice (some ⟨g,_,_⟩) n _)=>lvS T tn g W n | _=>0) = 0
  cases x.ha <;> rfl
 ·rw [e2]
  show lvS T tn g W x.hn = lK T tn x.f x.hn
  have key:∀ n,n≤x.hn→lvS T tn g W n = lK T tn x.f n:=by
   intro n
   induction n with
   | zero=>intro _;rfl
   | succ n ih =>
    intro hn
    show lvS T tn g W n + lvA T tn g W n = lK T tn x.f n + wgt tn ((x.f n).to T)
    rw [ih (by omega)]
    congr 1
    have y0:W.cell? ⟨g,n * 3,none⟩ = some (.int .i64 ((x.f n).par:Nat)):=hc n (by omega) 0 _ rfl
    have y2:W.cell? ⟨g,n * 3 + 2,none⟩ = some (.bool (x.f n).rt):=hc n (by omega) 2 _ rfl
    unfold lvA
    rw [y0,y2]
    rfl
  exact key _ (Nat.le_refl _)
def LvI (w0:World) (F:Nat) (P:Prob) (T:Nat→Nod) (tn:Nat) (ZT:Nat→Nat) (inf:Bool) (sv:Rat) (p k:Nat) (W:World):Prop :=
 ∃ x B Z,x.p = p∧WyQ w0 W F P T ZT x∧Std w0 W F P ZT k B Z x.C∧Bx P T k B∧x.hn≤x.d∧x.d≤k∧k < tn∧Due P T inf sv x.f x.hn (Cov P B inf sv→Cov P (box0 P) inf sv)
theorem aM1 {w0 V V':World} {F:Nat} {P:Prob} {T:Nat→Nod} {tn:Nat} {ZT:Nat→Nat} {b o:Nat} {inf:Bool} {sv:Rat} {x:WyD} {m:Nat} {e:Ending} (hTr:TrQ w0 P T tn ZT b o) (h:WyQ w0 V F P T ZT x) (hm:x.hn = m + 1) (hdue:Due P T inf sv x.f (m + 1) (Cov P (box0 P) inf sv)) (hf:FlR w0 F P T ZT x m V e V') :
 ∃ k:Nat,e = .returned (.int .i64 (k:Nat))∧LvI w0 F P T tn ZT inf sv x.p k V'∧Below F V V'∧lvM T tn x.p (.int .i64 (k:Nat)) V' = lK T tn x.f (m + 1):=by
 obtain ⟨rfl,x',Z',h1,s1,d1,n1,p1,f1,b1⟩:=hf
 have hp:=h.pt m (by omega)
 have hBx:=Bx.part (f:=x.f m) hp.rc hp.sp
 obtain ⟨hKt,hok0⟩:=hTr.gd.2 _ hp.rc.rch
 have hok:=hok0 hp.sp
 have hto:(x.f m).par < (x.f m).to T:=by
  have q1:=hok.l0;have q2:=hok.r0
  unfold Prt.to
  split <;> omega
 refine ⟨(x.f m).to T,rfl,⟨x',_,Z',p1,h1,s1,hBx,?_,?_,(hTr.gd.2 _ hBx.rch).1,?_⟩,b1,?_⟩
 ·rw [n1,d1];exact hp.ia
 ·rw [d1];have:=hp.ap;omega
 ·rw [n1,f1];exact hdue.last
 ·rw [← p1,aI0 h1,n1,f1]
  exact Nat.add_comm _ _
theorem aI1 {P:Prob} {T:Nat→Nod} {tn:Nat} {inf:Bool} {sv:Rat} {x:WyD} {k:Nat} {B:Nat→BxV} {Z:Nat→Nat} {ha:Option Addr} {hc:Nat} {G:Prop} (hok:OkN P T tn k) (h:Due P T inf sv x.f x.hn (Cov P B inf sv→G)):Due P T inf sv (x.fork k B Z ha hc).f (x.hn + 2) G:=fun hall=>by
 have e0:∀ i,i < x.hn→(x.fork k B Z ha hc).f i = x.f i:=fun i hi=>if_pos hi
 have e1:(x.fork k B Z ha hc).f x.hn = ⟨k,x.d,true,B,Z⟩:=by
  show (if x.hn < x.hn then _ else if x.hn = x.hn then _ else _) = _
  rw [if_neg (Nat.lt_irrefl _),if_pos rfl]
 have e2:(x.fork k B Z ha hc).f (x.hn + 1) = ⟨k,x.d,false,B,Z⟩:=by
  show (if x.hn + 1 < x.hn then _ else if x.hn + 1 = x.hn then _ else _) = _
  rw [if_neg (by omega),if_neg (by omega)]
 have hR:=hall x.hn (by omega)
 have hL:=hall (x.hn + 1) (by omega)
 rw [e1] at hR
 rw [e2] at hL
 have hv0:=hok.v0
 have hvn:=hok.vn
 refine h (fun i hi=>by rw [← e0 i hi];exact hall i (by omega)) (Cov.split (v:=(T k).var.toNat) (a:=(T k).at') (by omega) hok.wh ?_ ?_)
 ·have:Prt.box ⟨k,x.d,false,B,Z⟩ T = gU B (T k).var.toNat (T k).at':=if_neg Bool.false_ne_true
  rw [this] at hL;exact hL
 ·have:Prt.box ⟨k,x.d,true,B,Z⟩ T = gV B (T k).var.toNat (T k).at':=if_pos rfl
  rw [this] at hR;exact hR
theorem aE4 {P:Prob} {T:Nat→Nod} {tn:Nat} {x:WyD} {k:Nat} {B:Nat→BxV} {Z:Nat→Nat} {ha:Option Addr} {hc:Nat} (hok:OkN P T tn k):lK T tn (x.fork k B Z ha hc).f (x.hn + 2) < wgt tn k + lK T tn x.f x.hn:=by
 have e0:lK T tn (x.fork k B Z ha hc).f x.hn = lK T tn x.f x.hn:=aA6 fun i hi=>if_pos hi
 have e1:(x.fork k B Z ha hc).f x.hn = ⟨k,x.d,true,B,Z⟩:=by
  show (if x.hn < x.hn then _ else if x.hn = x.hn then _ else _) = _
  rw [if_neg (Nat.lt_irrefl _),if_pos rfl]
 have e2:(x.fork k B Z ha hc).f (x.hn + 1) = ⟨k,x.d,false,B,Z⟩:=by
  show (if x.hn + 1 < x.hn then _ else if x.hn + 1 = x.hn then _ else _) = _
  rw [if_neg (by omega),if_neg (by omega)]
 show lK T tn (x.fork k B Z ha hc).f x.hn + wgt tn (((x.fork k B Z ha hc).f x.hn).to T) + wgt tn (((x.fork k B Z ha hc).f (x.hn + 1)).to T) < _
 rw [e0,e1,e2]
 have hr:Prt.to ⟨k,x.d,true,B,Z⟩ T = (T k).rt.toNat:=if_pos rfl
 have hl:Prt.to ⟨k,x.d,false,B,Z⟩ T = (T k).lf.toNat:=if_neg Bool.false_ne_true
 rw [hr,hl]
 have q1:=hok.l0;have q2:=hok.l1;have q3:=hok.r0;have q4:=hok.r1
 have:=aK4 (tn:=tn) (k:=k) (l:=(T k).rt.toNat) (r:=(T k).lf.toNat) (by omega) (by omega) (by omega) (by omega)
 omega
theorem aR2 {P:Prob} {T:Nat→Nod} {tn tc:Nat} {ZT:Nat→Nat} {b o bp bt:Nat} (inf:Bool) (sv:Rat) (w0:World) (hP:PQ w0 P) (hTr:TrQ w0 P T tn ZT b o) (hT:TB w0) (hK:P.K≤1048576) (hbp:BoxC w0 bp (#[.bool P.mx,.string P.nm,.bool P.p,.slice P.a P.na P.ca,.slice P.d P.nd P.cd,.slice P.va P.vn P.vc,.slice P.ra P.rn P.rc]:Array Value).toList) (hbt:w0.cell? ⟨bt,0,none⟩ = some (.slice (some ⟨b,o,none⟩) tn tc)) :
 SeqY Fence.wide Tryz.prog 53 #[.pointer (some ⟨bp,0,none⟩),.pointer (some ⟨bt,0,none⟩)] (fun _ (q:Nat × (Nat→BxV)) _=>Cov P q.2 inf sv) (fun _=>Cov P (box0 P) inf sv) (fun _ _=>True) (LvO w0 P T tn ZT) () w0:=by
 intro N0 l J Jx W hW hJ hJx hM hY h0
 refine callsIn_of_wp Tryz.func53 rfl trivial ?_ rfl
 simp only [Tryz.ntmps53,List.size_toArray,List.length_cons,List.length_nil,Nat.reduceAdd,Nat.reduceSub,Array.replicate_succ,Array.replicate_zero,List.push_toArray,List.append_toArray,List.nil_append,List.cons_append]
 have htn:=hTr.tn
 have hFw:=hW.size
 have q0:=aF hW (hbp 0 _ rfl)
 have q1:=aF hW (hbp 1 _ rfl)
 have q2:=aF hW (hbp 2 _ rfl)
 have q3:=aF hW (hbp 3 _ rfl)
 have q4:=aF hW (hbp 4 _ rfl)
 have q5:=aF hW (hbp 5 _ rfl)
 have q6:=aF hW (hbp 6 _ rfl)
 gi_wp2
 refine ⟨trivial,fun h=>(by cases h),?_⟩
 refine (callsIn_wide.2 (aO1 (T:=T) (ZT:=ZT) (F:=W.heap.size) W hP hW (Nat.le_refl _) hK)).mono ?_
 rintro e W1 ⟨x,rfl,hd0,hh0,hx,hs,hb1⟩
 have hW1:Below w0.heap.size w0 W1:=hW.trans (hb1.mono hFw)
 have h1:=hJ _ _ _ h0 hb1
 have hsz1:=hb1.size
 have HL0:Hid (LvI w0 W.heap.size P T tn ZT inf sv x.p 0 W1):=by
  refine ⟨x,box0 P,P.ZV,rfl,hx,hs,.root,by omega,by omega,hTr.gd.1,?_⟩
  rw [hh0]
  exact fun _ hc=>hc
 obtain ⟨p,ep⟩:∃ p,x.p = p:=⟨_,rfl⟩
 rw [ep] at HL0 ⊢
 clear q0 q1 q2 q3 q4 q5 q6 hx hs hd0 hh0 ep x h0 hb1
 gi_wp2
 gi_loopw [5] (fun s5 wr=>∃ (k:Nat),s5 = .int .i64 (k:Nat)∧Hid (LvI w0 W.heap.size P T tn ZT inf sv p k wr)∧J () wr∧Below w0.heap.size w0 wr∧W.heap.size≤wr.heap.size) (fun s5 wr=>lvM T tn p s5 wr)
 case atStart=>exact ⟨0,rfl,HL0,h1,hW1,hsz1⟩
 case round =>
  clear HL0 h1 hW1 hsz1
  obtain ⟨k,rfl,HL,hj,hbel,hsz⟩:=hrel
  obtain ⟨x,B,Z,ep,hx,hs,hBx,hhd,hdk,hkt,hdue⟩:=HL.out
  have hN:=(hTr.nd k hkt).below hbel
  have HME:Hid (lvM T tn p (.int .i64 (k:Nat)) wr = wgt tn k + lK T tn x.f x.hn):=by rw [← ep];exact aI0 hx
  obtain ⟨sp,esp⟩:∃ sp,sp = (T k).sp:=⟨_,rfl⟩
  have y0:wr.cell? ⟨b,o + k * 13,none⟩ = some (.bool (T k).sp):=hN.c 0 _ rfl
  rw [← esp] at y0
  have y1:=hN.c 1 _ rfl
  have y2:=hN.c 2 _ rfl
  have y3:=hN.c 3 _ rfl
  have y4:=hN.c 4 _ rfl
  have y5:=hN.c 5 _ rfl
  have y6:=hN.c 6 _ rfl
  have y7:=hN.c 7 _ rfl
  have y8:=hN.c 8 _ rfl
  have y9:=hN.c 9 _ rfl
  have y10:=hN.c 10 _ rfl
  have y11:=hN.c 11 _ rfl
  have y12:=hN.c 12 _ rfl
  have t0:=aF hbel hbt
  have hkI:(k:Int) < (tn:Int):=by omega
  have hk0:¬ (k:Int) < 0:=by omega
  have hk13:(k:Int) * 13 = ((k * 13:Nat):Int):=by omega
  have hz:=aG wr (.cells #[.bool sp,.int .i64 (T k).var,.bool (T k).p,.slice (T k).a (T k).na (T k).ca,.int .i64 (T k).lf,.int .i64 (T k).rt,.int .i64 (T k).C.vd,.bool (T k).C.p,.slice (T k).C.a (T k).C.na (T k).C.ca,.slice (T k).C.d (T k).C.nd (T k).C.cd,.slice (T k).C.xa (T k).C.xn (T k).C.xc,.slice (T k).C.ya (T k).C.yn (T k).C.yc,.slice (T k).C.za (T k).C.zn (T k).C.zc] 49)
  have Nb:=Rw.new 49 wr #[.bool sp,.int .i64 (T k).var,.bool (T k).p,.slice (T k).a (T k).na (T k).ca,.int .i64 (T k).lf,.int .i64 (T k).rt,.int .i64 (T k).C.vd,.bool (T k).C.p,.slice (T k).C.a (T k).C.na (T k).C.ca,.slice (T k).C.d (T k).C.nd (T k).C.cd,.slice (T k).C.xa (T k).C.xn (T k).C.xc,.slice (T k).C.ya (T k).C.yn (T k).C.yc,.slice (T k).C.za (T k).C.zn (T k).C.zc]
  have hbU:Below w0.heap.size w0 (wr.alloc (.cells #[.bool sp,.int .i64 (T k).var,.bool (T k).p,.slice (T k).a (T k).na (T k).ca,.int .i64 (T k).lf,.int .i64 (T k).rt,.int .i64 (T k).C.vd,.bool (T k).C.p,.slice (T k).C.a (T k).C.na (T k).C.ca,.slice (T k).C.d (T k).C.nd (T k).C.cd,.slice (T k).C.xa (T k).C.xn (T k).C.xc,.slice (T k).C.ya (T k).C.yn (T k).C.yc,.slice (T k).C.za (T k).C.zn (T k).C.zc] 49)):=hbel.trans (hz.mono hbel.size)
  have hxU:=hx.below hz
  have hsU:=hs.kb (bZ [] hz hsz) (by decide)
  have hjU:=hJ _ _ _ hj (hz.mono hsz)
  have hszU:W.heap.size≤(wr.alloc (.cells #[.bool sp,.int .i64 (T k).var,.bool (T k).p,.slice (T k).a (T k).na (T k).ca,.int .i64 (T k).lf,.int .i64 (T k).rt,.int .i64 (T k).C.vd,.bool (T k).C.p,.slice (T k).C.a (T k).C.na (T k).C.ca,.slice (T k).C.d (T k).C.nd (T k).C.cd,.slice (T k).C.xa (T k).C.xn (T k).C.xc,.slice (T k).C.ya (T k).C.yn (T k).C.yc,.slice (T k).C.za (T k).C.zn (T k).C.zc] 49)).heap.size:=Nat.le_trans hsz hz.size
  have HE:Hid (sp = (T k).sp):=esp
  clear HL hx hs hj hbel hN esp
  obtain ⟨H,hH⟩:∃ H,wr.heap.size = H:=⟨_,rfl⟩
  cases sp
  ·have n0:=Nb.cell 0
   gi_wp2
   rw [hH] at Nb
   clear t0 n0 y0 y1 y2 y3 y4 y5 y6 y7 y8 y9 y10 y11 y12 hz
   generalize wr.alloc (.cells #[.bool false,.int .i64 (T k).var,.bool (T k).p,.slice (T k).a (T k).na (T k).ca,.int .i64 (T k).lf,.int .i64 (T k).rt,.int .i64 (T k).C.vd,.bool (T k).C.p,.slice (T k).C.a (T k).C.na (T k).C.ca,.slice (T k).C.d (T k).C.nd (T k).C.cd,.slice (T k).C.xa (T k).C.xn (T k).C.xc,.slice (T k).C.ya (T k).C.yn (T k).C.yc,.slice (T k).C.za (T k).C.zn (T k).C.zc] 49) = U at *
   have hUsp:(T k).sp = false:=HE.out.symm
   have hjD:=hJ _ _ _ hjU ((aK U).mono hszU)
   have hbD:Below w0.heap.size w0 U.drew:=hbU.trans ((aK U).mono hbU.size)
   have hsD:W.heap.size≤U.drew.heap.size:=hszU
   have hkD:KeptY W.heap.size U U.drew:=KeptY.of_below (aK U)
   have hxD:=hxU.keptY hkD
   have hsdD:=hsU.keptY hkD
   obtain ⟨fn,tmps,assign,body,hyr,hRd⟩:=hY (N0 - 1) () (k,B) (.agg #[.bool P.mx,.string P.nm,.bool P.p,.slice P.a P.na P.ca,.slice P.d P.nd P.cd,.slice x.va P.vn x.vc,.slice P.ra P.rn P.rc]) (.agg #[.int .i64 (T k).C.vd,.bool (T k).C.p,.slice (T k).C.a (T k).C.na (T k).C.ca,.slice (T k).C.d (T k).C.nd (T k).C.cd,.slice (T k).C.xa (T k).C.xn (T k).C.xc,.slice (T k).C.ya (T k).C.yn (T k).C.yc,.slice (T k).C.za (T k).C.zn (T k).C.zc]) U.drew hjD hbD hsD ⟨x,Z,rfl,rfl,hBx,hUsp,hkt,fun W' q1 q2=>hxD.pq hsdD hP q1 q2⟩
   have NbD:=Nb.keptY hkD (by omega:W.heap.size≤H)
   have hS1:U.drew.cell? ⟨p,0,none⟩ = some (.bool P.mx)∧U.drew.cell? ⟨p,1,none⟩ = some (.string P.nm)∧U.drew.cell? ⟨p,2,none⟩ = some (.bool P.p)∧U.drew.cell? ⟨p,3,none⟩ = some (.slice P.a P.na P.ca)∧U.drew.cell? ⟨p,4,none⟩ = some (.slice P.d P.nd P.cd)∧U.drew.cell? ⟨p,5,none⟩ = some (.slice x.va P.vn x.vc)∧U.drew.cell? ⟨p,6,none⟩ = some (.slice P.ra P.rn P.rc)∧U.drew.cell? ⟨H,6,none⟩ = some (.int .i64 (T k).C.vd)∧U.drew.cell? ⟨H,7,none⟩ = some (.bool (T k).C.p)∧U.drew.cell? ⟨H,8,none⟩ = some (.slice (T k).C.a (T k).C.na (T k).C.ca)∧U.drew.cell? ⟨H,9,none⟩ = some (.slice (T k).C.d (T k).C.nd (T k).C.cd)∧U.drew.cell? ⟨H,10,none⟩ = some (.slice (T k).C.xa (T k).C.xn (T k).C.xc)∧U.drew.cell? ⟨H,11,none⟩ = some (.slice (T k).C.ya (T k).C.yn (T k).C.yc)∧U.drew.cell? ⟨H,12,none⟩ = some (.slice (T k).C.za (T k).C.zn (T k).C.zc):=by
    have st:Rw 97 U.drew p (x.cells P):=by rw [← ep];exact hxD.st
    exact ⟨st.cell 0,st.cell 1,st.cell 2,st.cell 3,st.cell 4,st.cell 5,st.cell 6,NbD.cell 6,NbD.cell 7,NbD.cell 8,NbD.cell 9,NbD.cell 10,NbD.cell 11,NbD.cell 12⟩
   refine Code.wpIn_mono NoPanic.imp (oN (S:=fun w'=>w'.cell? ⟨p,0,none⟩ = some (.bool P.mx)∧w'.cell? ⟨p,1,none⟩ = some (.string P.nm)∧w'.cell? ⟨p,2,none⟩ = some (.bool P.p)∧w'.cell? ⟨p,3,none⟩ = some (.slice P.a P.na P.ca)∧w'.cell? ⟨p,4,none⟩ = some (.slice P.d P.nd P.cd)∧w'.cell? ⟨p,5,none⟩ = some (.slice x.va P.vn x.vc)∧w'.cell? ⟨p,6,none⟩ = some (.slice P.ra P.rn P.rc)∧w'.cell? ⟨H,6,none⟩ = some (.int .i64 (T k).C.vd)∧w'.cell? ⟨H,7,none⟩ = some (.bool (T k).C.p)∧w'.cell? ⟨H,8,none⟩ = some (.slice (T k).C.a (T k).C.na (T k).C.ca)∧w'.cell? ⟨H,9,none⟩ = some (.slice (T k).C.d (T k).C.nd (T k).C.cd)∧w'.cell? ⟨H,10,none⟩ = some (.slice (T k).C.xa (T k).C.xn (T k).C.xc)∧w'.cell? ⟨H,11,none⟩ = some (.slice (T k).C.ya (T k).C.yn (T k).C.yc)∧w'.cell? ⟨H,12,none⟩ = some (.slice (T k).C.za (T k).C.zn (T k).C.zc)) (by kernel_rfl) ?_)
   clear hjU hbU hszU hxU hsU hjD hY hM hUsp
   generalize U.drew = z0 at *
   refine wpAnyJ.take 0 7 (v:=.func (.yield l) #[] #[]) (by kernel_rfl) (by decide) (fun _ _ _ h=>h) (by kernel_rfl) (by rfl) (by rfl) ?y0 hS1 ?_
   case y0 =>
    rintro w' ⟨q0,q1,q2,q3,q4,q5,q6,q7,q8,q9,q10,q11,q12,q13⟩
    simp only [lgA,lgZ]
    go_simp
   simp only [lgA,lgZ,Act.put,lsA,lsZ,lsS]
   refine wpAnyJ.take 1 2 (v:=.pointer (some ⟨p,0,none⟩)) (by kernel_rfl) (by decide) (fun _ _ _ h=>h) (by kernel_rfl) (by rfl) (by rfl) ?y1 hS1 ?_
   case y1 =>
    rintro w' ⟨q0,q1,q2,q3,q4,q5,q6,q7,q8,q9,q10,q11,q12,q13⟩
    simp only [lgA,lgZ,lgS]
    go_simp
   simp only [lgA,lgZ,lgS,Act.put,lsA,lsZ,lsS]
   refine wpAnyJ.take 2 3 (v:=.pointer (some ⟨p,0,none⟩)) (by kernel_rfl) (by decide) (fun _ _ _ h=>h) (by kernel_rfl) (by rfl) (by rfl) ?y2 hS1 ?_
   case y2 =>
    rintro w' ⟨q0,q1,q2,q3,q4,q5,q6,q7,q8,q9,q10,q11,q12,q13⟩
    simp only [lgA,lgZ,lgS]
    go_simp
   simp only [lgA,lgZ,lgS,Act.put,lsA,lsZ,lsS]
   refine wpAnyJ.take 3 4 (v:=.pointer (some ⟨p,0,none⟩)) (by kernel_rfl) (by decide) (fun _ _ _ h=>h) (by kernel_rfl) (by rfl) (by rfl) ?y3 hS1 ?_
   case y3 =>
    rintro w' ⟨q0,q1,q2,q3,q4,q5,q6,q7,q8,q9,q10,q11,q12,q13⟩
    simp only [lgA,lgZ,lgS]
    go_simp
   simp only [lgA,lgZ,lgS,Act.put,lsA,lsZ,lsS]
   refine wpAnyJ.take 4 7 (v:=.agg #[.bool P.mx,.string P.nm,.bool P.p,.slice P.a P.na P.ca,.slice P.d P.nd P.cd,.slice x.va P.vn x.vc,.slice P.ra P.rn P.rc]) (by kernel_rfl) (by decide) (fun _ _ _ h=>h) (by kernel_rfl) (by rfl) (by rfl) ?y4 hS1 ?_
   case y4 =>
    rintro w' ⟨q0,q1,q2,q3,q4,q5,q6,q7,q8,q9,q10,q11,q12,q13⟩
    simp only [lgA,lgZ,lgS]
    go_simp
   simp only [lgA,lgZ,lgS,Act.put,lsA,lsZ,lsS]
   refine wpAnyJ.take 5 6 (v:=.pointer (some ⟨H,6,none⟩)) (by kernel_rfl) (by decide) (fun _ _ _ h=>h) (by kernel_rfl) (by rfl) (by rfl) ?y5 hS1 ?_
   case y5 =>
    rintro w' ⟨q0,q1,q2,q3,q4,q5,q6,q7,q8,q9,q10,q11,q12,q13⟩
    simp only [lgA,lgZ,lgS]
    go_simp
   simp only [lgA,lgZ,lgS,Act.put,lsA,lsZ,lsS]
   refine wpAnyJ.take 6 7 (v:=.agg #[.int .i64 (T k).C.vd,.bool (T k).C.p,.slice (T k).C.a (T k).C.na (T k).C.ca,.slice (T k).C.d (T k).C.nd (T k).C.cd,.slice (T k).C.xa (T k).C.xn (T k).C.xc,.slice (T k).C.ya (T k).C.yn (T k).C.yc,.slice (T k).C.za (T k).C.zn (T k).C.zc]) (by kernel_rfl) (by decide) (fun _ _ _ h=>h) (by kernel_rfl) (by rfl) (by rfl) ?y6 hS1 ?_
   case y6 =>
    rintro w' ⟨q0,q1,q2,q3,q4,q5,q6,q7,q8,q9,q10,q11,q12,q13⟩
    simp only [lgA,lgZ,lgS]
    go_simp
   simp only [lgA,lgZ,lgS,Act.put,lsA,lsZ,lsS]
   refine wpAnyJ.one 7 (by kernel_rfl) (by decide) (by rfl) (fun K hK=>?_)
   simp only [lgA,lgZ,lgS]
   go_simp
   refine ⟨fun h=>(by cases h),?_⟩
   refine hRd.mono ?_
   rintro e W3 (⟨rfl,⟨_,hcov,hj3⟩,hk3,hb3⟩ | ⟨rfl,hx3,hk3⟩)
   ·dsimp only
    have hx3:=hxD.keptY hk3
    have Nb3:=NbD.keptY hk3 (by omega:W.heap.size≤H)
    have hS3:W3.cell? ⟨p,0,none⟩ = some (.bool P.mx)∧W3.cell? ⟨p,1,none⟩ = some (.string P.nm)∧W3.cell? ⟨p,2,none⟩ = some (.bool P.p)∧W3.cell? ⟨p,3,none⟩ = some (.slice P.a P.na P.ca)∧W3.cell? ⟨p,4,none⟩ = some (.slice P.d P.nd P.cd)∧W3.cell? ⟨p,5,none⟩ = some (.slice x.va P.vn x.vc)∧W3.cell? ⟨p,6,none⟩ = some (.slice P.ra P.rn P.rc)∧W3.cell? ⟨H,6,none⟩ = some (.int .i64 (T k).C.vd)∧W3.cell? ⟨H,7,none⟩ = some (.bool (T k).C.p)∧W3.cell? ⟨H,8,none⟩ = some (.slice (T k).C.a (T k).C.na (T k).C.ca)∧W3.cell? ⟨H,9,none⟩ = some (.slice (T k).C.d (T k).C.nd (T k).C.cd)∧W3.cell? ⟨H,10,none⟩ = some (.slice (T k).C.xa (T k).C.xn (T k).C.xc)∧W3.cell? ⟨H,11,none⟩ = some (.slice (T k).C.ya (T k).C.yn (T k).C.yc)∧W3.cell? ⟨H,12,none⟩ = some (.slice (T k).C.za (T k).C.zn (T k).C.zc):=by
     have st:Rw 97 W3 p (x.cells P):=by rw [← ep];exact hx3.st
     exact ⟨st.cell 0,st.cell 1,st.cell 2,st.cell 3,st.cell 4,st.cell 5,st.cell 6,Nb3.cell 6,Nb3.cell 7,Nb3.cell 8,Nb3.cell 9,Nb3.cell 10,Nb3.cell 11,Nb3.cell 12⟩
    refine hK _ _ hS3 ?_
    clear hK K
    refine wpAnyJ.one 8 (by kernel_rfl) (by decide) (by rfl) (fun K hK=>?_)
    simp only [lgA,lgZ,lgS]
    go_simp
    refine hK _ _ hS3 ?_
    clear hK K
    refine wpAnyJ.done (by kernel_rfl) (NoPanic.normal ?_)
    have hsz3:W.heap.size≤W3.heap.size:=Nat.le_trans hsD hk3.size
    have t1:=aF hb3 hbt
    have HDU:Hid (Due P T inf sv x.f x.hn (Cov P (box0 P) inf sv)):=fun hall=>hdue hall hcov
    have HWS:Hid (lK T tn x.f x.hn < lvM T tn p (.int .i64 (k:Nat)) wr):=by
     have:=aK3 tn k
     show _ < _
     rw [HME.out];omega
    clear hRd hyr hS1 hS3 hxD hsdD hkD NbD Nb3 Nb hk3 hdue hcov HME HE hbD hsD
    cases hhn:x.hn with
    | zero =>
     have HG:=aH8 hx3
     rw [ep,hhn,decide_eq_false (by omega:¬ 0 < 0)] at HG
     rw [hhn] at HDU
     have HF:Hid (Cov P (box0 P) inf sv):=HDU.out (fun i hi=>absurd hi (Nat.not_lt_zero _))
     have HJ3:Hid (J () W3):=hj3
     clear hhn HDU HWS hj3 t1 hJ hJx
     gi_wp2
     refine ⟨trivial,fun h=>(by cases h),?_⟩
     refine (callsIn_wide.2 HG).mono ?_
     rintro e V1 ⟨rfl,rfl⟩
     clear HG
     gi_wp2
     exact bodyPost_ret (results_none rfl _ _ _) rfl ⟨⟨_,rfl⟩,.inl ⟨(),HF.out,HJ3.out,hb3⟩⟩
    | succ m =>
     have HG:=aH8 hx3
     rw [ep,hhn,decide_eq_true (by omega:0 < m + 1)] at HG
     have HFL:=aD0 (m:=m) (tc:=tc) W3 hb3 hFw hTr hx3 hsz3 hhn (by omega) hT
     rw [ep] at HFL
     rw [hhn] at HDU HWS
     have H3:Hid (WyQ w0 W3 W.heap.size P T ZT x∧x.hn = m + 1):=⟨hx3,hhn⟩
     clear hhn hx3
     gi_wp2
     refine ⟨trivial,fun h=>(by cases h),?_⟩
     refine (callsIn_wide.2 HG).mono ?_
     rintro e V1 ⟨rfl,rfl⟩
     gi_wp2
     refine ⟨trivial,fun h=>(by cases h),?_⟩
     refine (callsIn_wide.2 HFL).mono ?_
     rintro e V2 hfl
     obtain ⟨k2,rfl,hL2,b2,hm2⟩:=aM1 hTr H3.out.1 H3.out.2 HDU.out hfl
     rw [ep] at hL2 hm2
     have hjW:=hJ _ _ _ hj3 b2
     have hbW:=hb3.trans (b2.mono hFw)
     have hszW:W.heap.size≤V2.heap.size:=Nat.le_trans hsz3 b2.size
     have HL2:Hid (LvI w0 W.heap.size P T tn ZT inf sv p k2 V2∧lvM T tn p (.int .i64 (k2:Nat)) V2 < lvM T tn p (.int .i64 (k:Nat)) wr):=⟨hL2,by rw [hm2];exact HWS.out⟩
     clear HG HFL hfl hL2 hm2 HWS H3 HDU t1 hj3 hb3 hsz3 b2
     gi_wp2
     go_roundw
     case rel=>exact ⟨k2,rfl,HL2.out.1,hjW,hbW,hszW⟩
     case measure=>exact HL2.out.2
   ·dsimp only
    have hx4:=hxD.keptY hk3
    have Nb3:=NbD.keptY hk3 (by omega:W.heap.size≤H)
    have hS3:W3.cell? ⟨p,0,none⟩ = some (.bool P.mx)∧W3.cell? ⟨p,1,none⟩ = some (.string P.nm)∧W3.cell? ⟨p,2,none⟩ = some (.bool P.p)∧W3.cell? ⟨p,3,none⟩ = some (.slice P.a P.na P.ca)∧W3.cell? ⟨p,4,none⟩ = some (.slice P.d P.nd P.cd)∧W3.cell? ⟨p,5,none⟩ = some (.slice x.va P.vn x.vc)∧W3.cell? ⟨p,6,none⟩ = some (.slice P.ra P.rn P.rc)∧W3.cell? ⟨H,6,none⟩ = some (.int .i64 (T k).C.vd)∧W3.cell? ⟨H,7,none⟩ = some (.bool (T k).C.p)∧W3.cell? ⟨H,8,none⟩ = some (.slice (T k).C.a (T k).C.na (T k).C.ca)∧W3.cell? ⟨H,9,none⟩ = some (.slice (T k).C.d (T k).C.nd (T k).C.cd)∧W3.cell? ⟨H,10,none⟩ = some (.slice (T k).C.xa (T k).C.xn (T k).C.xc)∧W3.cell? ⟨H,11,none⟩ = some (.slice (T k).C.ya (T k).C.yn (T k).C.yc)∧W3.cell? ⟨H,12,none⟩ = some (.slice (T k).C.za (T k).C.zn (T k).C.zc):=by
     have st:Rw 97 W3 p (x.cells P):=by rw [← ep];exact hx4.st
     exact ⟨st.cell 0,st.cell 1,st.cell 2,st.cell 3,st.cell 4,st.cell 5,st.cell 6,Nb3.cell 6,Nb3.cell 7,Nb3.cell 8,Nb3.cell 9,Nb3.cell 10,Nb3.cell 11,Nb3.cell 12⟩
    refine hK _ _ hS3 ?_
    clear hK K
    refine wpAnyJ.one 8 (by kernel_rfl) (by decide) (by rfl) (fun K hK=>?_)
    simp only [lgA,lgZ,lgS]
    go_simp
    refine hK _ _ hS3 ?_
    clear hK K
    refine wpAnyJ.done (by kernel_rfl) (NoPanic.normal ?_)
    have HX3:Hid (Jx W3):=hx3
    clear hRd hyr hS1 hS3 hxD hsdD hkD NbD Nb3 Nb hk3 hdue HME HE hbD hsD hx4 hx3 hJ hJx
    gi_wp2
    exact bodyPost_ret (results_none rfl _ _ _) rfl ⟨⟨_,rfl⟩,.inr HX3.out⟩
  ·have n0:=Nb.cell 0
   gi_wp2
   clear t0 n0 y0 y1 y2 y3 y4 y5 y6 y7 y8 y9 y10 y11 y12
   generalize wr.alloc (.cells #[.bool true,.int .i64 (T k).var,.bool (T k).p,.slice (T k).a (T k).na (T k).ca,.int .i64 (T k).lf,.int .i64 (T k).rt,.int .i64 (T k).C.vd,.bool (T k).C.p,.slice (T k).C.a (T k).C.na (T k).C.ca,.slice (T k).C.d (T k).C.nd (T k).C.cd,.slice (T k).C.xa (T k).C.xn (T k).C.xc,.slice (T k).C.ya (T k).C.yn (T k).C.yc,.slice (T k).C.za (T k).C.zn (T k).C.zc] 49) = U at *
   have hokk:=(hTr.gd.2 _ hBx.rch).2 HE.out.symm
   have HFK:=aQ6 (k:=k) U hxU hszU hsU hBx HE.out.symm hhd hdk (by omega)
   rw [ep] at HFK
   refine ⟨trivial,fun h=>(by cases h),?_⟩
   refine (callsIn_wide.2 HFK).mono ?_
   rintro e V ⟨⟨rv,rfl⟩,ha,hc,h3,b3⟩
   have hbV:Below w0.heap.size w0 V:=hbU.trans (b3.mono hFw)
   have hjV:=hJ _ _ _ hjU b3
   have hszV:W.heap.size≤V.heap.size:=Nat.le_trans hszU b3.size
   have HG:=aH8 h3
   rw [show (x.fork k B Z ha hc).p = p from ep,show (x.fork k B Z ha hc).hn = x.hn + 2 from rfl,decide_eq_true (by omega:0 < x.hn + 2)] at HG
   have HFL:=aD0 (m:=x.hn + 1) (tc:=tc) V hbV hFw hTr h3 hszV rfl (by show x.d≤2000000;omega) hT
   rw [show (x.fork k B Z ha hc).p = p from ep] at HFL
   have t1:=aF hbV hbt
   have HDU:Hid (Due P T inf sv (x.fork k B Z ha hc).f (x.hn + 1 + 1) (Cov P (box0 P) inf sv)):=aI1 hokk hdue
   have HWS:Hid (lK T tn (x.fork k B Z ha hc).f (x.hn + 1 + 1) < lvM T tn p (.int .i64 (k:Nat)) wr):=by
    show _ < _
    rw [HME.out];exact aE4 (P:=P) hokk
   have H3:Hid (WyQ w0 V W.heap.size P T ZT (x.fork k B Z ha hc)):=h3
   clear HFK hxU hsU hjU hszU hbU Nb HE HME h3 hdue hokk hz b3
   gi_wp2
   refine ⟨trivial,fun h=>(by cases h),?_⟩
   refine (callsIn_wide.2 HG).mono ?_
   rintro e V1 ⟨rfl,rfl⟩
   gi_wp2
   refine ⟨trivial,fun h=>(by cases h),?_⟩
   refine (callsIn_wide.2 HFL).mono ?_
   rintro e V2 hfl
   obtain ⟨k2,rfl,hL2,b2,hm2⟩:=aM1 hTr H3.out rfl HDU.out hfl
   rw [show (x.fork k B Z ha hc).p = p from ep] at hL2 hm2
   have hjW:=hJ _ _ _ hjV b2
   have hbW:=hbV.trans (b2.mono hFw)
   have hszW:W.heap.size≤V2.heap.size:=Nat.le_trans hszV b2.size
   have HL2:Hid (LvI w0 W.heap.size P T tn ZT inf sv p k2 V2∧lvM T tn p (.int .i64 (k2:Nat)) V2 < lvM T tn p (.int .i64 (k:Nat)) wr):=⟨hL2,by rw [hm2];exact HWS.out⟩
   clear HG HFL hfl hL2 hm2 HWS H3 HDU t1 hjV hbV hszV b2
   gi_wp2
   go_roundw
   case rel=>exact ⟨k2,rfl,HL2.out.1,hjW,hbW,hszW⟩
   case measure=>exact HL2.out.2
end Go.Proofs.YtnokmjmefipplaaGreatDoor

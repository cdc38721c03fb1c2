import Derived.Test.YtmeimjakdheidaaGreatDoorShFAll
namespace Go.Proofs.YtmeimjakdheidaaGreatDoor
open Go.RowKit
def K3 (w:World) (k1 k2 k3:Value) (r:Rat) (T:Nat):Prop:=∃ f c n k c' n' k',k1 = .bool f∧k2 = .slice c n k∧k3 = .slice c' n' k'∧GR w 0 f c n k c' n' k' r T
def sgn (b:Bool) (r:Rat):Rat:=if b then -r else r
theorem TM.len {w:World} {B:Nat} {a:Option Addr} {m cap:Nat} {l:List PT} {S:Nat} (h:TM w B (.slice a m cap) l S):m=l.length:=by
 obtain ⟨a',c',e,_⟩:=h.form
 simp only [Value.slice.injEq] at e
 exact e.2.1
theorem TM.app' {w:World} {B:Nat} {v:Value} {l k:List PT} {S m q:Nat} {E D:Nat→List Value} (hm:m=l.length) (hq:q=k.length) (h:SL w B 52 4 v (m+q) (fun i=>if i<m then E i else D (i-m))) (hE:∀ i t,l[i]? = some t→TC w 0 (E i) t S) (hD:∀ i t,k[i]? = some t→TC w 0 (D i) t S):TM w B v (l++k) S:=by
 subst hm hq
 exact TM.app h hE hD
set_option maxRecDepth 100000 in
set_option maxHeartbeats 16000000 in
theorem setCostsQ (P:Prob) {S R F T:Nat} {r:Rat} {sa:Option Addr} {sc:Nat} {a5' c6' a7':Value} {xa:Option Addr} {xn xc:Nat} (w0 w:World) (hV:LG w0 P.va P.vn P.V S) (hb0:Below w0.heap.size w0 w) (hR0:w0.heap.size≤R) (hr:Rw 61 w R #[.slice sa P.vn sc,.slice none 0 0,.bool false,.slice none 0 0,.slice none 0 0,a5',c6',a7']) (hs:StQ w R F P.V P.vn S (.slice sa P.vn sc)) (hRF:R<F) (hF:F≤w.heap.size)
 (HVAL:∀ w1,Below w.heap.size w w1→Calls Tryz.prog 49 #[P.val,.slice xa xn xc] w1 fun e w'=>∃ f c n k c' n' k',e = .returned (.agg #[.bool f,.slice c n k,.slice c' n' k'])∧GR w' w1.heap.size f c n k c' n' k' r T∧Below w1.heap.size w1 w')
 (hvn:P.vn≤1048576) (hS:S≤7000000) (hS1:1≤S) (hT7:T≤7000000) (hT1:1≤T) (hT:TB w) (hTR:2<R) :
 Calls Tryz.prog 18 #[.pointer (some ⟨R,0,none⟩),P.val,.slice xa xn xc] w fun e w'=>e = .returned (.tuple #[])∧∃ cv k1 k2 k3,Rw 61 w' R #[.slice sa P.vn sc,cv,k1,k2,k3,a5',c6',a7']∧TM w' F cv (tC P.V (fun q=>sgn P.mx (P.V q).obj) P.vn) S∧K3 w' k1 k2 k3 (sgn P.mx r) T∧Kx R F [61,52] w w':=by
 obtain ⟨mx,emx⟩:∃ mx,mx=P.mx:=⟨_,rfl⟩
 have HMX0:Hid (P.mx=mx):=emx.symm
 clear emx
 cases mx
 ·have hmx:P.mx=false:=HMX0.out
  have eV:P.val = .agg #[.bool false,.string P.nm,.bool P.p,.slice P.a P.na P.ca,.slice P.d P.nd P.cd,.slice P.va P.vn P.vc,.slice P.ra P.rn P.rc]:=by unfold Prob.val;rw [hmx]
  rw [eV] at HVAL ⊢
  have HMX:Hid (P.mx=false):=hmx
  clear hmx HMX0 eV
  have Pb:=aQ w #[.bool false,.string P.nm,.bool P.p,.slice P.a P.na P.ca,.slice P.d P.nd P.cd,.slice P.va P.vn P.vc,.slice P.ra P.rn P.rc] 31
  have hbP:=aI w (.cells #[.bool false,.string P.nm,.bool P.p,.slice P.a P.na P.ca,.slice P.d P.nd P.cd,.slice P.va P.vn P.vc,.slice P.ra P.rn P.rc] 31)
  have hsP:(w.alloc (.cells #[.bool false,.string P.nm,.bool P.p,.slice P.a P.na P.ca,.slice P.d P.nd P.cd,.slice P.va P.vn P.vc,.slice P.ra P.rn P.rc] 31)).heap.size=w.heap.size+1:=by simp
  have y0:=Pb 0 _ rfl;have y1:=Pb 1 _ rfl;have y2:=Pb 2 _ rfl;have y3:=Pb 3 _ rfl;have y4:=Pb 4 _ rfl;have y5:=Pb 5 _ rfl;have y6:=Pb 6 _ rfl
  have HV1:=HVAL _ hbP
  clear HVAL
  go_enter Tryz.func18,Tryz.ntmps18
  go_wp2_with fail
  clear y0 y1 y2 y3 y4 y6 Pb
  generalize w.alloc (.cells #[.bool false,.string P.nm,.bool P.p,.slice P.a P.na P.ca,.slice P.d P.nd P.cd,.slice P.va P.vn P.vc,.slice P.ra P.rn P.rc] 31)=W1 at *
  refine HV1.mono ?_
  clear HV1
  rintro e w1 ⟨f1,c1,n1,k1,d1,m1,l1,rfl,G1,hk1⟩
  have hb1:=aF hbP hk1
  go_wp2_with fail
  refine (lF w1 G1.tr (by omega) hT1 (hT.below hb1)).mono ?_
  rintro e w2 ⟨fK,cK,nK,kK,dK,mK,lK,rfl,GK,hk2⟩
  have hb2:=aF hb1 hk2
  have R2:=hr.below hb2
  have y5':=aG (aF hk1 hk2) y5
  have hs2:=hb2.size
  have hRl:=hr.lt
  have ho2:=(R2.cell 2).trans (show _=some (.bool false) from rfl)
  have ho3:=(R2.cell 3).trans (show _=some (.slice none 0 0) from rfl)
  have ho4:=(R2.cell 4).trans (show _=some (.slice none 0 0) from rfl)
  have hf2:=R2.frozen 2;have hf3:=R2.frozen 3;have hf4:=R2.frozen 4
  have R3:=(R2.set 2 (.bool fK)).1
  have O3:=(R2.set 2 (.bool fK)).2
  have R3':=(R3.set 3 (.slice cK nK kK)).1
  have O3':=(R3.set 3 (.slice cK nK kK)).2
  have R4:=(R3'.set 4 (.slice dK mK lK)).1
  have O4:=(R3'.set 4 (.slice dK mK lK)).2
  have K4:=(((dU (R:=R) (F:=F) (L:=[61,52]) hb2 (by omega)).off R2 (by simp) O3).off R3 (by simp) O3').off R3' (by simp) O4
  have K5:=(((Kx.refl R F [61] w2).off R2 (by simp) O3).off R3 (by simp) O3').off R3' (by simp) O4
  have GK4:=(GK.mono (Nat.zero_le _)).kx K5 (by decide)
  rw [← (show sgn P.mx r=r by rw [HMX.out];rfl)] at GK4
  have y5n:(((w2.setCell ⟨R,2,none⟩ (.bool fK)).setCell ⟨R,3,none⟩ (.slice cK nK kK)).setCell ⟨R,4,none⟩ (.slice dK mK lK)).cell? ⟨w.heap.size,5,none⟩=some (.slice P.va P.vn P.vc):=(World.cell?_of_block (w:=w2) (((O4.block w.heap.size (by omega)).trans (O3'.block w.heap.size (by omega))).trans (O3.block w.heap.size (by omega)))).trans y5'
  replace R4:Rw 61 (((w2.setCell ⟨R,2,none⟩ (.bool fK)).setCell ⟨R,3,none⟩ (.slice cK nK kK)).setCell ⟨R,4,none⟩ (.slice dK mK lK)) R #[.slice sa P.vn sc,.slice none 0 0,.bool fK,.slice cK nK kK,.slice dK mK lK,a5',c6',a7']:=by simpa using R4
  clear R2 R3 R3' O3 O3' O4 K5 GK G1 hk1 hk2 hb1 hb2 hbP y5 y5' hr hsP
  go_wp2_with fail
  clear ho2 ho3 ho4 hf2 hf3 hf4 y5n
  generalize ((w2.setCell ⟨R,2,none⟩ (.bool fK)).setCell ⟨R,3,none⟩ (.slice cK nK kK)).setCell ⟨R,4,none⟩ (.slice dK mK lK)=W4 at *
  go_loopw [22] (fun s wr=>∃ (j:Nat) (ca:Option Addr) (cm cc:Nat),j≤P.vn∧s = .int .i64 j∧Rw 61 wr R #[.slice sa P.vn sc,.slice ca cm cc,.bool fK,.slice cK nK kK,.slice dK mK lK,a5',c6',a7']∧TM wr F (.slice ca cm cc) (tC P.V (fun q=>sgn P.mx (P.V q).obj) j) S∧GR wr 0 fK cK nK kK dK mK lK (sgn P.mx r) T∧Kx R F [61,52] w wr) (fun t _=>P.vn-(intOf t).toNat)
  case atStart=>exact ⟨0,none,0,0,Nat.zero_le _,rfl,R4,TM.nil _ _ _,GK4,K4⟩
  case round =>
   clear R4 GK4 K4
   obtain ⟨j,ca,cm,cc,hj,rfl,RW,TMj,GK,KU⟩:=hrel
   by_cases hlt:j<P.vn
   ·have hkI:(j:Int)<(P.vn:Int):=by omega
    have hkI2:(j:Int)*13=((j*13:Nat):Int):=by omega
    have hkI3:(j:Int)*5=((j*5:Nat):Int):=by omega
    have HCM:Hid (cm=clm P.V j):=by rw [TMj.len,lM];exact rfl
    have hclb:cm≤2*j:=by rw [HCM.out];exact sZ P.V j
    have hwid:wid (P.V j)≤2:=by unfold wid;split <;> (try split) <;> omega
    have hRw:=RW.lt
    have hbw:Below w0.heap.size w0 wr:=hb0.trans (((KU.below (by omega)).mono hR0))
    rcases hV.below hbw with h00|⟨vg,hva,hev⟩
    ·omega
    obtain ⟨p1,a1,n1,k1,d1,m1,l1,p2,a2,n2,k2,d2,m2,l2,p3,a3,n3,k3,d3,m3,l3,hc13,GV1,GV2,GV3⟩:=hev j hlt
    obtain ⟨nm,enm⟩:∃ nm,nm=(P.V j).nm:=⟨_,rfl⟩
    obtain ⟨hl,ehl⟩:∃ hl,hl=(P.V j).hlo:=⟨_,rfl⟩
    obtain ⟨hh,ehh⟩:∃ hh,hh=(P.V j).hhi:=⟨_,rfl⟩
    obtain ⟨wh,ewh⟩:∃ wh,wh=(P.V j).whole:=⟨_,rfl⟩
    rw [← enm,← ehl,← ehh,← ewh] at hc13
    have r0:=hc13 0 _ rfl;have r1:=hc13 1 _ rfl;have r2:=hc13 2 _ rfl;have r3:=hc13 3 _ rfl;have r4:=hc13 4 _ rfl;have r5:=hc13 5 _ rfl;have r6:=hc13 6 _ rfl;have r7:=hc13 7 _ rfl;have r8:=hc13 8 _ rfl;have r9:=hc13 9 _ rfl;have r10:=hc13 10 _ rfl;have r11:=hc13 11 _ rfl;have r12:=hc13 12 _ rfl
    clear hc13 hev enm ehl ehh ewh
    have hva':P.va=some ⟨vg,0,none⟩:=hva
    clear hva
    rw [Nat.add_zero] at r0
    have BU:=aQ wr #[.string nm,.bool p1,.slice a1 n1 k1,.slice d1 m1 l1,.bool hl,.bool p2,.slice a2 n2 k2,.slice d2 m2 l2,.bool hh,.bool p3,.slice a3 n3 k3,.slice d3 m3 l3,.bool wh] 50
    have hz:=aI wr (.cells #[.string nm,.bool p1,.slice a1 n1 k1,.slice d1 m1 l1,.bool hl,.bool p2,.slice a2 n2 k2,.slice d2 m2 l2,.bool hh,.bool p3,.slice a3 n3 k3,.slice d3 m3 l3,.bool wh] 50)
    have hsW:(wr.alloc (.cells #[.string nm,.bool p1,.slice a1 n1 k1,.slice d1 m1 l1,.bool hl,.bool p2,.slice a2 n2 k2,.slice d2 m2 l2,.bool hh,.bool p3,.slice a3 n3 k3,.slice d3 m3 l3,.bool wh] 50)).heap.size=wr.heap.size+1:=by simp
    have hFw:F≤wr.heap.size:=Nat.le_trans hF KU.size
    have SQr:=hs.kxh KU (by decide) (by decide) (by decide) (by decide)
    obtain ⟨g,c0,c1,c2,c3,c4,hsa,SC,_,_,_,_,_,_,t4⟩:=SQr.at hlt
    obtain ⟨E,SLU,TE⟩:=TMj
    rw [← TM.len ⟨E,SLU,TE⟩] at SLU
    have hgF:(.slice ca cm cc:Value).ownBlock≠some g:=fun e=>by
     obtain ⟨E2,S2,_⟩:=SQr
     rw [hsa] at S2
     obtain ⟨vs,h1,_⟩:=SLU
     obtain ⟨us,h2,_⟩:=S2
     exact rD h1 h2 (by decide) g e rfl
    have hgl2:=World.block_lt_of_cell? _ _ t4
    have RU:=RW.below hz
    have KU2:=KU.bel hz hFw
    replace SC:=SC.below hz
    have SLU2:=SLU.below hz
    have hzz:=hz
    have hbF:(.slice ca cm cc:Value).ownBlock≠some wr.heap.size:=fun e=>by have:=(SLU.lt _ e).2;omega
    have hT2:=(hT.kx KU (by omega) (by omega)).below hz
    have t4':=aG hz t4
    replace GV1:=GV1.below hz
    go_wp2_with fail
    clear r0 r1 r2 r3 r4 r5 r6 r7 r8 r9 r10 r11 r12 hz RW SQr t4
    have r4:=t4'
    have SLU:=SLU2
    rw [hsa] at RU
    generalize wr.alloc (.cells #[.string nm,.bool p1,.slice a1 n1 k1,.slice d1 m1 l1,.bool hl,.bool p2,.slice a2 n2 k2,.slice d2 m2 l2,.bool hh,.bool p3,.slice a3 n3 k3,.slice d3 m3 l3,.bool wh] 50)=W2 at *
    have HBX:∀ w',Below W2.heap.size W2 w'→(w'.cell? ⟨R,1,none⟩=some (.slice ca cm cc)∧w'.cell? ⟨R,0,none⟩=some (.slice (some ⟨g,0,none⟩) P.vn sc)∧w'.cell? ⟨g,j*5+4,none⟩=some (c4)∧w'.cell? ⟨wr.heap.size,1,none⟩=some (.bool p1)∧w'.cell? ⟨wr.heap.size,2,none⟩=some (.slice a1 n1 k1)∧w'.cell? ⟨wr.heap.size,3,none⟩=some (.slice d1 m1 l1)):=fun w' h=>⟨aG h ((RU.cell 1).trans rfl),aG h ((RU.cell 0).trans rfl),aG h r4,aG h (BU 1 _ rfl),aG h (BU 2 _ rfl),aG h (BU 3 _ rfl)⟩
    have KUo:=KU
    have KU:=KU2
    refine wp_region_noPanic (aS 19 HBX (by as_aux_lemma=>kernel_rfl) ?_)
    have hc0:Below W2.heap.size W2 W2.drew:=aK _
    generalize W2.drew=z0 at *
    refine wpAnyG.tT 0 (v:=.pointer (some ⟨R,0,none⟩)) (by decide) 19 (by as_aux_lemma=>kernel_rfl) (by rfl) ?y0 (HBX _ hc0) ?_
    case y0 =>
     rintro w' ⟨q0,q1,q2,q3,q4,q5⟩
     simp only [lgA,lgZ]
     go_simp
    simp only [lgA,lgZ,Act.put,lsA,lsZ,lsS]
    refine wpAnyG.tT 1 (v:=.pointer (some ⟨R,0,none⟩)) (by decide) 19 (by as_aux_lemma=>kernel_rfl) (by rfl) ?y1 (HBX _ hc0) ?_
    case y1 =>
     rintro w' ⟨q0,q1,q2,q3,q4,q5⟩
     simp only [lgA,lgZ,lgS]
     go_simp
    simp only [lgA,lgZ,lgS,Act.put,lsA,lsZ,lsS]
    refine wpAnyG.tT 2 (v:=.pointer (some ⟨R,0,none⟩)) (by decide) 19 (by as_aux_lemma=>kernel_rfl) (by rfl) ?y2 (HBX _ hc0) ?_
    case y2 =>
     rintro w' ⟨q0,q1,q2,q3,q4,q5⟩
     simp only [lgA,lgZ,lgS]
     go_simp
    simp only [lgA,lgZ,lgS,Act.put,lsA,lsZ,lsS]
    refine wpAnyG.tT 3 (v:=.pointer (some ⟨R,1,none⟩)) (by decide) 19 (by as_aux_lemma=>kernel_rfl) (by rfl) ?y3 (HBX _ hc0) ?_
    case y3 =>
     rintro w' ⟨q0,q1,q2,q3,q4,q5⟩
     simp only [lgA,lgZ,lgS]
     go_simp
    simp only [lgA,lgZ,lgS,Act.put,lsA,lsZ,lsS]
    refine wpAnyG.tT 4 (v:=.slice ca cm cc) (by decide) 19 (by as_aux_lemma=>kernel_rfl) (by rfl) ?y4 (HBX _ hc0) ?_
    case y4 =>
     rintro w' ⟨q0,q1,q2,q3,q4,q5⟩
     simp only [lgA,lgZ,lgS]
     go_simp
    simp only [lgA,lgZ,lgS,Act.put,lsA,lsZ,lsS]
    refine wpAnyG.tT 5 (v:=.pointer (some ⟨R,0,none⟩)) (by decide) 19 (by as_aux_lemma=>kernel_rfl) (by rfl) ?y5 (HBX _ hc0) ?_
    case y5 =>
     rintro w' ⟨q0,q1,q2,q3,q4,q5⟩
     simp only [lgA,lgZ,lgS]
     go_simp
    simp only [lgA,lgZ,lgS,Act.put,lsA,lsZ,lsS]
    refine wpAnyG.tT 6 (v:=.pointer (some ⟨R,0,none⟩)) (by decide) 19 (by as_aux_lemma=>kernel_rfl) (by rfl) ?y6 (HBX _ hc0) ?_
    case y6 =>
     rintro w' ⟨q0,q1,q2,q3,q4,q5⟩
     simp only [lgA,lgZ,lgS]
     go_simp
    simp only [lgA,lgZ,lgS,Act.put,lsA,lsZ,lsS]
    refine wpAnyG.tT 7 (v:=.pointer (some ⟨R,0,none⟩)) (by decide) 19 (by as_aux_lemma=>kernel_rfl) (by rfl) ?y7 (HBX _ hc0) ?_
    case y7 =>
     rintro w' ⟨q0,q1,q2,q3,q4,q5⟩
     simp only [lgA,lgZ,lgS]
     go_simp
    simp only [lgA,lgZ,lgS,Act.put,lsA,lsZ,lsS]
    refine wpAnyG.tT 8 (v:=.slice (some ⟨g,0,none⟩) P.vn sc) (by decide) 19 (by as_aux_lemma=>kernel_rfl) (by rfl) ?y8 (HBX _ hc0) ?_
    case y8 =>
     rintro w' ⟨q0,q1,q2,q3,q4,q5⟩
     simp only [lgA,lgZ,lgS]
     go_simp
    simp only [lgA,lgZ,lgS,Act.put,lsA,lsZ,lsS]
    refine wpAnyG.tT 9 (v:=.int .i64 (j:Int)) (by decide) 19 (by as_aux_lemma=>kernel_rfl) (by rfl) ?y9 (HBX _ hc0) ?_
    case y9 =>
     rintro w' ⟨q0,q1,q2,q3,q4,q5⟩
     simp only [lgA,lgZ,lgS]
     go_simp
    simp only [lgA,lgZ,lgS,Act.put,lsA,lsZ,lsS]
    refine wpAnyG.tT 10 (v:=.pointer (some ⟨g,j*5,none⟩)) (by decide) 19 (by as_aux_lemma=>kernel_rfl) (by rfl) ?y10 (HBX _ hc0) ?_
    case y10 =>
     rintro w' ⟨q0,q1,q2,q3,q4,q5⟩
     simp only [lgA,lgZ,lgS]
     go_simp
    simp only [lgA,lgZ,lgS,Act.put,lsA,lsZ,lsS]
    refine wpAnyG.tT 11 (v:=.pointer (some ⟨g,j*5+4,none⟩)) (by decide) 19 (by as_aux_lemma=>kernel_rfl) (by rfl) ?y11 (HBX _ hc0) ?_
    case y11 =>
     rintro w' ⟨q0,q1,q2,q3,q4,q5⟩
     simp only [lgA,lgZ,lgS]
     go_simp
    simp only [lgA,lgZ,lgS,Act.put,lsA,lsZ,lsS]
    refine wpAnyG.tT 12 (v:=c4) (by decide) 19 (by as_aux_lemma=>kernel_rfl) (by rfl) ?y12 (HBX _ hc0) ?_
    case y12 =>
     rintro w' ⟨q0,q1,q2,q3,q4,q5⟩
     simp only [lgA,lgZ,lgS]
     go_simp
    simp only [lgA,lgZ,lgS,Act.put,lsA,lsZ,lsS]
    refine wpAnyG.tT 13 (v:=.func (.func 23) #[] #[]) (by decide) 19 (by as_aux_lemma=>kernel_rfl) (by rfl) ?y13 (HBX _ hc0) ?_
    case y13 =>
     rintro w' ⟨q0,q1,q2,q3,q4,q5⟩
     simp only [lgA,lgZ,lgS]
     go_simp
    simp only [lgA,lgZ,lgS,Act.put,lsA,lsZ,lsS]
    refine wpAnyG.tT 14 (v:=.pointer (some ⟨wr.heap.size,1,none⟩)) (by decide) 19 (by as_aux_lemma=>kernel_rfl) (by rfl) ?y14 (HBX _ hc0) ?_
    case y14 =>
     rintro w' ⟨q0,q1,q2,q3,q4,q5⟩
     simp only [lgA,lgZ,lgS]
     go_simp
    simp only [lgA,lgZ,lgS,Act.put,lsA,lsZ,lsS]
    refine wpAnyG.tT 15 (v:=.agg #[.bool p1,.slice a1 n1 k1,.slice d1 m1 l1]) (by decide) 19 (by as_aux_lemma=>kernel_rfl) (by rfl) ?y15 (HBX _ hc0) ?_
    case y15 =>
     rintro w' ⟨q0,q1,q2,q3,q4,q5⟩
     simp only [lgA,lgZ,lgS]
     go_simp
    simp only [lgA,lgZ,lgS,Act.put,lsA,lsZ,lsS]
    refine wpAnyG.one 16 (by as_aux_lemma=>kernel_rfl) (by decide) (by rfl) (fun K hK=>?_)
    simp only [lgA,lgZ,lgS]
    go_simp
    refine (lF z0 (GV1.tr.below hc0) (by omega) hS1 (hT2.below hc0)).mono ?_
    rintro e z1 ⟨fA,cA,nA,kA,dA,mA,lA,rfl,GA,hk1⟩
    have hc1:Below W2.heap.size W2 z1:=aF hc0 hk1
    dsimp only
    refine hK _ _ ⟨fun _=>HBX _ hc1,fun _=>trivial⟩ ?_
    clear hK K
    refine wpAnyG.one 17 (by as_aux_lemma=>kernel_rfl) (by decide) (by rfl) (fun K hK=>?_)
    simp only [lgA,lgZ,lgS]
    refine tJ _ _ _ rfl (SC.below hc1) rfl rfl rfl (GA.mono (Nat.zero_le _)) (by omega) hS1 (hT2.below hc1) ?_
    intro z2 h SPh hk2
    have hc2:Below W2.heap.size W2 z2:=aF hc1 hk2
    refine hK _ _ ⟨fun _=>HBX _ hc2,fun _=>trivial⟩ ?_
    clear hK K
    refine wpAnyG.one 18 (by as_aux_lemma=>kernel_rfl) (by decide) (by rfl) (fun K hK=>?_)
    simp only [lgA,lgZ,lgS]
    obtain ⟨hl,hq,cs,D,hcs,hD,h1s,hbox,hTC⟩:=SPh
    have SLZ:=SLU.below hc2
    have RZ:=RU.below hc2
    have KZ:=KU.bel hc2 (by omega)
    have hs2:=hc2.size
    refine nP z2 _ _ 53 52 4 64 (wid (P.V j)) rfl Tryz.underlying53 kJ (by decide) (by decide) hq F (.slice ca cm cc) cm E rfl SLZ h _ rfl D cs hcs hD h1s hbox (by omega) (by omega) _ rfl ?_
    intro g6 cap6 w6 SN hg hat hgl
    have hne:(.slice ca cm cc:Value).ownBlock≠some R:=SLZ.neR RZ (by decide)
    have RZ6:=RZ.kept hg hne
    have KG:=(Kx.refl R F [61,52] z2).grown SLZ (by simp) (Nat.le_refl F) (by omega) hg
    have e0:=(RZ6.cell 1).trans (show _=some (.slice ca cm cc) from rfl)
    have e1:=RZ6.frozen 1
    have e2:=(RZ6.cell 0).trans (show _=some (.slice (some ⟨g,0,none⟩) P.vn sc) from rfl)
    have e3:w6.cell? ⟨g,j*5+4,none⟩=some c4:=(World.cell?_of_block (w:=z2) (hg.block g (by omega) (fun e=>hgF e.symm))).trans (aG hc2 r4)
    have eb:w6.heap[wr.heap.size]? = z2.heap[wr.heap.size]?:=hg.block _ (by omega) (fun e=>hbF e.symm)
    refine hK _ _ ⟨fun _=>⟨e0,e2,e3,(World.cell?_of_block (w:=z2) eb).trans (aG hc2 (BU 1 _ rfl)),(World.cell?_of_block (w:=z2) eb).trans (aG hc2 (BU 2 _ rfl)),(World.cell?_of_block (w:=z2) eb).trans (aG hc2 (BU 3 _ rfl))⟩,fun _=>trivial⟩ ?_
    clear hK K
    refine wpAnyG.one 19 (by as_aux_lemma=>kernel_rfl) (by decide) (by rfl) (fun K hK=>?_)
    simp only [lgA,lgZ,lgS]
    go_simp
    refine hK _ _ ⟨fun h=>absurd h (by decide),fun _=>trivial⟩ ?_
    clear hK K
    refine wpAnyG.one 20 (by as_aux_lemma=>kernel_rfl) (by decide) (by rfl) (fun K hK=>?_)
    simp only [lgA,lgZ,lgS]
    go_simp
    refine hK _ _ ⟨fun h=>absurd h (by decide),fun _=>trivial⟩ ?_
    clear hK K
    refine wpAnyG.one 21 (by as_aux_lemma=>kernel_rfl) (by decide) (by rfl) (fun K hK=>?_)
    simp only [lgA,lgZ,lgS]
    go_simp
    refine hK _ _ ⟨fun h=>absurd h (by decide),fun _=>trivial⟩ ?_
    clear hK K
    refine wpAnyG.done (by as_aux_lemma=>kernel_rfl) (NoPanic.normal ?_)
    obtain ⟨RN,ON⟩:=RZ6.set 1 (.slice (some ⟨g6,0,none⟩) (cm+wid (P.V j)) cap6)
    replace RN:Rw 61 (w6.setCell ⟨R,1,none⟩ (.slice (some ⟨g6,0,none⟩) (cm+wid (P.V j)) cap6)) R #[.slice (some ⟨g,0,none⟩) P.vn sc,.slice (some ⟨g6,0,none⟩) (cm+wid (P.V j)) cap6,.bool fK,.slice cK nK kK,.slice dK mK lK,a5',c6',a7']:=by simpa using RN
    have KNN:=(KZ.trans KG).off RZ6 (by simp) ON
    have KL:=KG.off RZ6 (by simp) ON
    have SNN:=SN.kxh ((Kx.refl R F [61] w6).off RZ6 (by simp) ON) (by decide)
    have hK6:Kx R F [61,52] wr (w6.setCell ⟨R,1,none⟩ (.slice (some ⟨g6,0,none⟩) (cm+wid (P.V j)) cap6)):=((dU (R:=R) (F:=F) (L:=[61,52]) (Below.refl _ wr) hFw).bel hzz hFw).trans ((dU (R:=R) (F:=F) (L:=[61,52]) hc2 (by omega)).trans KL)
    have GKN:=GK.kx hK6 (by decide)
    have TMN:TM (w6.setCell ⟨R,1,none⟩ (.slice (some ⟨g6,0,none⟩) (cm+wid (P.V j)) cap6)) F (.slice (some ⟨g6,0,none⟩) (cm+wid (P.V j)) cap6) (tC P.V (fun q=>sgn P.mx (P.V q).obj) (j+1)) S:=by
     refine TM.app' (m:=cm) (q:=wid (P.V j)) (by rw [HCM.out,lM]) (oK _ _ _).symm SNN (fun i t ht=>(TE i t ht).kx hK6 (by decide)) (fun i t ht=>?_)
     dsimp only at ht
     rw [show sgn P.mx (P.V j).obj=(P.V j).obj by rw [HMX.out];rfl] at ht
     exact (hTC i t ht).kx KL (by decide)
    rw [← hsa] at RN
    clear RZ RZ6 KZ KG e0 e1 e2 e3 eb ON KL SNN hK6 SN hg hat hgl hne SLZ hbox hTC hD h1s hcs hl hq HBX hc0 hc1 hc2 hk1 hk2 GA SLU SLU2 BU RU SC TE GK KU KU2 hs2 r4
    generalize w6.setCell ⟨R,1,none⟩ (.slice (some ⟨g6,0,none⟩) (cm+wid (P.V j)) cap6)=w7 at *
    try rw [← hva']
    clear hva'
    go_wp2
    go_roundw
    case rel=>first|exact ⟨j+1,_,_,_,by omega,by go_num,RN,TMN,GKN,KNN⟩|((repeat apply Exists.intro);refine ⟨?_,rfl⟩;exact ⟨j+1,_,_,_,by omega,by go_num,RN,TMN,GKN,KNN⟩)
    case measure=>simp [intOf];omega
   ·obtain rfl:j=P.vn:=by omega
    have hkI:¬ (P.vn:Int)<(P.vn:Int):=by omega
    go_wp2
    go_end0
    exact ⟨rfl,_,_,_,_,RW,TMj,⟨_,_,_,_,_,_,_,rfl,rfl,rfl,GK⟩,KU⟩
 ·have hmx:P.mx=true:=HMX0.out
  have eV:P.val = .agg #[.bool true,.string P.nm,.bool P.p,.slice P.a P.na P.ca,.slice P.d P.nd P.cd,.slice P.va P.vn P.vc,.slice P.ra P.rn P.rc]:=by unfold Prob.val;rw [hmx]
  rw [eV] at HVAL ⊢
  have HMX:Hid (P.mx=true):=hmx
  clear hmx HMX0 eV
  have Pb:=aQ w #[.bool true,.string P.nm,.bool P.p,.slice P.a P.na P.ca,.slice P.d P.nd P.cd,.slice P.va P.vn P.vc,.slice P.ra P.rn P.rc] 31
  have hbP:=aI w (.cells #[.bool true,.string P.nm,.bool P.p,.slice P.a P.na P.ca,.slice P.d P.nd P.cd,.slice P.va P.vn P.vc,.slice P.ra P.rn P.rc] 31)
  have hsP:(w.alloc (.cells #[.bool true,.string P.nm,.bool P.p,.slice P.a P.na P.ca,.slice P.d P.nd P.cd,.slice P.va P.vn P.vc,.slice P.ra P.rn P.rc] 31)).heap.size=w.heap.size+1:=by simp
  have y0:=Pb 0 _ rfl;have y1:=Pb 1 _ rfl;have y2:=Pb 2 _ rfl;have y3:=Pb 3 _ rfl;have y4:=Pb 4 _ rfl;have y5:=Pb 5 _ rfl;have y6:=Pb 6 _ rfl
  have HV1:=HVAL _ hbP
  clear HVAL
  go_enter Tryz.func18,Tryz.ntmps18
  go_wp2_with fail
  clear y0 y1 y2 y3 y4 y6 Pb
  generalize w.alloc (.cells #[.bool true,.string P.nm,.bool P.p,.slice P.a P.na P.ca,.slice P.d P.nd P.cd,.slice P.va P.vn P.vc,.slice P.ra P.rn P.rc] 31)=W1 at *
  refine HV1.mono ?_
  clear HV1
  rintro e w1 ⟨f1,c1,n1,k1,d1,m1,l1,rfl,G1,hk1⟩
  have hb1:=aF hbP hk1
  go_wp2_with fail
  refine (negQ w1 G1.tr (by omega) hT1 (hT.below hb1)).mono ?_
  rintro e w2 ⟨fK,cK,nK,kK,dK,mK,lK,rfl,GK,hk2⟩
  have hb2:=aF hb1 hk2
  have R2:=hr.below hb2
  have y5':=aG (aF hk1 hk2) y5
  have hs2:=hb2.size
  have hRl:=hr.lt
  have ho2:=(R2.cell 2).trans (show _=some (.bool false) from rfl)
  have ho3:=(R2.cell 3).trans (show _=some (.slice none 0 0) from rfl)
  have ho4:=(R2.cell 4).trans (show _=some (.slice none 0 0) from rfl)
  have hf2:=R2.frozen 2;have hf3:=R2.frozen 3;have hf4:=R2.frozen 4
  have R3:=(R2.set 2 (.bool fK)).1
  have O3:=(R2.set 2 (.bool fK)).2
  have R3':=(R3.set 3 (.slice cK nK kK)).1
  have O3':=(R3.set 3 (.slice cK nK kK)).2
  have R4:=(R3'.set 4 (.slice dK mK lK)).1
  have O4:=(R3'.set 4 (.slice dK mK lK)).2
  have K4:=(((dU (R:=R) (F:=F) (L:=[61,52]) hb2 (by omega)).off R2 (by simp) O3).off R3 (by simp) O3').off R3' (by simp) O4
  have K5:=(((Kx.refl R F [61] w2).off R2 (by simp) O3).off R3 (by simp) O3').off R3' (by simp) O4
  have GK4:=(GK.mono (Nat.zero_le _)).kx K5 (by decide)
  rw [← (show sgn P.mx r = -r by rw [HMX.out];rfl)] at GK4
  have y5n:(((w2.setCell ⟨R,2,none⟩ (.bool fK)).setCell ⟨R,3,none⟩ (.slice cK nK kK)).setCell ⟨R,4,none⟩ (.slice dK mK lK)).cell? ⟨w.heap.size,5,none⟩=some (.slice P.va P.vn P.vc):=(World.cell?_of_block (w:=w2) (((O4.block w.heap.size (by omega)).trans (O3'.block w.heap.size (by omega))).trans (O3.block w.heap.size (by omega)))).trans y5'
  replace R4:Rw 61 (((w2.setCell ⟨R,2,none⟩ (.bool fK)).setCell ⟨R,3,none⟩ (.slice cK nK kK)).setCell ⟨R,4,none⟩ (.slice dK mK lK)) R #[.slice sa P.vn sc,.slice none 0 0,.bool fK,.slice cK nK kK,.slice dK mK lK,a5',c6',a7']:=by simpa using R4
  clear R2 R3 R3' O3 O3' O4 K5 GK G1 hk1 hk2 hb1 hb2 hbP y5 y5' hr hsP
  go_wp2_with fail
  clear ho2 ho3 ho4 hf2 hf3 hf4 y5n
  generalize ((w2.setCell ⟨R,2,none⟩ (.bool fK)).setCell ⟨R,3,none⟩ (.slice cK nK kK)).setCell ⟨R,4,none⟩ (.slice dK mK lK)=W4 at *
  go_loopw [22] (fun s wr=>∃ (j:Nat) (ca:Option Addr) (cm cc:Nat),j≤P.vn∧s = .int .i64 j∧Rw 61 wr R #[.slice sa P.vn sc,.slice ca cm cc,.bool fK,.slice cK nK kK,.slice dK mK lK,a5',c6',a7']∧TM wr F (.slice ca cm cc) (tC P.V (fun q=>sgn P.mx (P.V q).obj) j) S∧GR wr 0 fK cK nK kK dK mK lK (sgn P.mx r) T∧Kx R F [61,52] w wr) (fun t _=>P.vn-(intOf t).toNat)
  case atStart=>exact ⟨0,none,0,0,Nat.zero_le _,rfl,R4,TM.nil _ _ _,GK4,K4⟩
  case round =>
   clear R4 GK4 K4
   obtain ⟨j,ca,cm,cc,hj,rfl,RW,TMj,GK,KU⟩:=hrel
   by_cases hlt:j<P.vn
   ·have hkI:(j:Int)<(P.vn:Int):=by omega
    have hkI2:(j:Int)*13=((j*13:Nat):Int):=by omega
    have hkI3:(j:Int)*5=((j*5:Nat):Int):=by omega
    have HCM:Hid (cm=clm P.V j):=by rw [TMj.len,lM];exact rfl
    have hclb:cm≤2*j:=by rw [HCM.out];exact sZ P.V j
    have hwid:wid (P.V j)≤2:=by unfold wid;split <;> (try split) <;> omega
    have hRw:=RW.lt
    have hbw:Below w0.heap.size w0 wr:=hb0.trans (((KU.below (by omega)).mono hR0))
    rcases hV.below hbw with h00|⟨vg,hva,hev⟩
    ·omega
    obtain ⟨p1,a1,n1,k1,d1,m1,l1,p2,a2,n2,k2,d2,m2,l2,p3,a3,n3,k3,d3,m3,l3,hc13,GV1,GV2,GV3⟩:=hev j hlt
    obtain ⟨nm,enm⟩:∃ nm,nm=(P.V j).nm:=⟨_,rfl⟩
    obtain ⟨hl,ehl⟩:∃ hl,hl=(P.V j).hlo:=⟨_,rfl⟩
    obtain ⟨hh,ehh⟩:∃ hh,hh=(P.V j).hhi:=⟨_,rfl⟩
    obtain ⟨wh,ewh⟩:∃ wh,wh=(P.V j).whole:=⟨_,rfl⟩
    rw [← enm,← ehl,← ehh,← ewh] at hc13
    have r0:=hc13 0 _ rfl;have r1:=hc13 1 _ rfl;have r2:=hc13 2 _ rfl;have r3:=hc13 3 _ rfl;have r4:=hc13 4 _ rfl;have r5:=hc13 5 _ rfl;have r6:=hc13 6 _ rfl;have r7:=hc13 7 _ rfl;have r8:=hc13 8 _ rfl;have r9:=hc13 9 _ rfl;have r10:=hc13 10 _ rfl;have r11:=hc13 11 _ rfl;have r12:=hc13 12 _ rfl
    clear hc13 hev enm ehl ehh ewh
    have hva':P.va=some ⟨vg,0,none⟩:=hva
    clear hva
    rw [Nat.add_zero] at r0
    have BU:=aQ wr #[.string nm,.bool p1,.slice a1 n1 k1,.slice d1 m1 l1,.bool hl,.bool p2,.slice a2 n2 k2,.slice d2 m2 l2,.bool hh,.bool p3,.slice a3 n3 k3,.slice d3 m3 l3,.bool wh] 50
    have hz:=aI wr (.cells #[.string nm,.bool p1,.slice a1 n1 k1,.slice d1 m1 l1,.bool hl,.bool p2,.slice a2 n2 k2,.slice d2 m2 l2,.bool hh,.bool p3,.slice a3 n3 k3,.slice d3 m3 l3,.bool wh] 50)
    have hsW:(wr.alloc (.cells #[.string nm,.bool p1,.slice a1 n1 k1,.slice d1 m1 l1,.bool hl,.bool p2,.slice a2 n2 k2,.slice d2 m2 l2,.bool hh,.bool p3,.slice a3 n3 k3,.slice d3 m3 l3,.bool wh] 50)).heap.size=wr.heap.size+1:=by simp
    have hFw:F≤wr.heap.size:=Nat.le_trans hF KU.size
    have SQr:=hs.kxh KU (by decide) (by decide) (by decide) (by decide)
    obtain ⟨g,c0,c1,c2,c3,c4,hsa,SC,_,_,_,_,_,_,t4⟩:=SQr.at hlt
    obtain ⟨E,SLU,TE⟩:=TMj
    rw [← TM.len ⟨E,SLU,TE⟩] at SLU
    have hgF:(.slice ca cm cc:Value).ownBlock≠some g:=fun e=>by
     obtain ⟨E2,S2,_⟩:=SQr
     rw [hsa] at S2
     obtain ⟨vs,h1,_⟩:=SLU
     obtain ⟨us,h2,_⟩:=S2
     exact rD h1 h2 (by decide) g e rfl
    have hgl2:=World.block_lt_of_cell? _ _ t4
    have RU:=RW.below hz
    have KU2:=KU.bel hz hFw
    replace SC:=SC.below hz
    have SLU2:=SLU.below hz
    have hzz:=hz
    have hbF:(.slice ca cm cc:Value).ownBlock≠some wr.heap.size:=fun e=>by have:=(SLU.lt _ e).2;omega
    have hT2:=(hT.kx KU (by omega) (by omega)).below hz
    have t4':=aG hz t4
    replace GV1:=GV1.below hz
    go_wp2_with fail
    clear r0 r1 r2 r3 r4 r5 r6 r7 r8 r9 r10 r11 r12 hz RW SQr t4
    have r4:=t4'
    have SLU:=SLU2
    rw [hsa] at RU
    generalize wr.alloc (.cells #[.string nm,.bool p1,.slice a1 n1 k1,.slice d1 m1 l1,.bool hl,.bool p2,.slice a2 n2 k2,.slice d2 m2 l2,.bool hh,.bool p3,.slice a3 n3 k3,.slice d3 m3 l3,.bool wh] 50)=W2 at *
    have HBX:∀ w',Below W2.heap.size W2 w'→(w'.cell? ⟨R,1,none⟩=some (.slice ca cm cc)∧w'.cell? ⟨R,0,none⟩=some (.slice (some ⟨g,0,none⟩) P.vn sc)∧w'.cell? ⟨g,j*5+4,none⟩=some (c4)∧w'.cell? ⟨wr.heap.size,1,none⟩=some (.bool p1)∧w'.cell? ⟨wr.heap.size,2,none⟩=some (.slice a1 n1 k1)∧w'.cell? ⟨wr.heap.size,3,none⟩=some (.slice d1 m1 l1)):=fun w' h=>⟨aG h ((RU.cell 1).trans rfl),aG h ((RU.cell 0).trans rfl),aG h r4,aG h (BU 1 _ rfl),aG h (BU 2 _ rfl),aG h (BU 3 _ rfl)⟩
    have KUo:=KU
    have KU:=KU2
    refine wp_region_noPanic (aS 19 HBX (by as_aux_lemma=>kernel_rfl) ?_)
    have hc0:Below W2.heap.size W2 W2.drew:=aK _
    generalize W2.drew=z0 at *
    refine wpAnyG.tT 0 (v:=.pointer (some ⟨R,0,none⟩)) (by decide) 19 (by as_aux_lemma=>kernel_rfl) (by rfl) ?y0 (HBX _ hc0) ?_
    case y0 =>
     rintro w' ⟨q0,q1,q2,q3,q4,q5⟩
     simp only [lgA,lgZ]
     go_simp
    simp only [lgA,lgZ,Act.put,lsA,lsZ,lsS]
    refine wpAnyG.tT 1 (v:=.pointer (some ⟨R,0,none⟩)) (by decide) 19 (by as_aux_lemma=>kernel_rfl) (by rfl) ?y1 (HBX _ hc0) ?_
    case y1 =>
     rintro w' ⟨q0,q1,q2,q3,q4,q5⟩
     simp only [lgA,lgZ,lgS]
     go_simp
    simp only [lgA,lgZ,lgS,Act.put,lsA,lsZ,lsS]
    refine wpAnyG.tT 2 (v:=.pointer (some ⟨R,0,none⟩)) (by decide) 19 (by as_aux_lemma=>kernel_rfl) (by rfl) ?y2 (HBX _ hc0) ?_
    case y2 =>
     rintro w' ⟨q0,q1,q2,q3,q4,q5⟩
     simp only [lgA,lgZ,lgS]
     go_simp
    simp only [lgA,lgZ,lgS,Act.put,lsA,lsZ,lsS]
    refine wpAnyG.tT 3 (v:=.pointer (some ⟨R,1,none⟩)) (by decide) 19 (by as_aux_lemma=>kernel_rfl) (by rfl) ?y3 (HBX _ hc0) ?_
    case y3 =>
     rintro w' ⟨q0,q1,q2,q3,q4,q5⟩
     simp only [lgA,lgZ,lgS]
     go_simp
    simp only [lgA,lgZ,lgS,Act.put,lsA,lsZ,lsS]
    refine wpAnyG.tT 4 (v:=.slice ca cm cc) (by decide) 19 (by as_aux_lemma=>kernel_rfl) (by rfl) ?y4 (HBX _ hc0) ?_
    case y4 =>
     rintro w' ⟨q0,q1,q2,q3,q4,q5⟩
     simp only [lgA,lgZ,lgS]
     go_simp
    simp only [lgA,lgZ,lgS,Act.put,lsA,lsZ,lsS]
    refine wpAnyG.tT 5 (v:=.pointer (some ⟨R,0,none⟩)) (by decide) 19 (by as_aux_lemma=>kernel_rfl) (by rfl) ?y5 (HBX _ hc0) ?_
    case y5 =>
     rintro w' ⟨q0,q1,q2,q3,q4,q5⟩
     simp only [lgA,lgZ,lgS]
     go_simp
    simp only [lgA,lgZ,lgS,Act.put,lsA,lsZ,lsS]
    refine wpAnyG.tT 6 (v:=.pointer (some ⟨R,0,none⟩)) (by decide) 19 (by as_aux_lemma=>kernel_rfl) (by rfl) ?y6 (HBX _ hc0) ?_
    case y6 =>
     rintro w' ⟨q0,q1,q2,q3,q4,q5⟩
     simp only [lgA,lgZ,lgS]
     go_simp
    simp only [lgA,lgZ,lgS,Act.put,lsA,lsZ,lsS]
    refine wpAnyG.tT 7 (v:=.pointer (some ⟨R,0,none⟩)) (by decide) 19 (by as_aux_lemma=>kernel_rfl) (by rfl) ?y7 (HBX _ hc0) ?_
    case y7 =>
     rintro w' ⟨q0,q1,q2,q3,q4,q5⟩
     simp only [lgA,lgZ,lgS]
     go_simp
    simp only [lgA,lgZ,lgS,Act.put,lsA,lsZ,lsS]
    refine wpAnyG.tT 8 (v:=.slice (some ⟨g,0,none⟩) P.vn sc) (by decide) 19 (by as_aux_lemma=>kernel_rfl) (by rfl) ?y8 (HBX _ hc0) ?_
    case y8 =>
     rintro w' ⟨q0,q1,q2,q3,q4,q5⟩
     simp only [lgA,lgZ,lgS]
     go_simp
    simp only [lgA,lgZ,lgS,Act.put,lsA,lsZ,lsS]
    refine wpAnyG.tT 9 (v:=.int .i64 (j:Int)) (by decide) 19 (by as_aux_lemma=>kernel_rfl) (by rfl) ?y9 (HBX _ hc0) ?_
    case y9 =>
     rintro w' ⟨q0,q1,q2,q3,q4,q5⟩
     simp only [lgA,lgZ,lgS]
     go_simp
    simp only [lgA,lgZ,lgS,Act.put,lsA,lsZ,lsS]
    refine wpAnyG.tT 10 (v:=.pointer (some ⟨g,j*5,none⟩)) (by decide) 19 (by as_aux_lemma=>kernel_rfl) (by rfl) ?y10 (HBX _ hc0) ?_
    case y10 =>
     rintro w' ⟨q0,q1,q2,q3,q4,q5⟩
     simp only [lgA,lgZ,lgS]
     go_simp
    simp only [lgA,lgZ,lgS,Act.put,lsA,lsZ,lsS]
    refine wpAnyG.tT 11 (v:=.pointer (some ⟨g,j*5+4,none⟩)) (by decide) 19 (by as_aux_lemma=>kernel_rfl) (by rfl) ?y11 (HBX _ hc0) ?_
    case y11 =>
     rintro w' ⟨q0,q1,q2,q3,q4,q5⟩
     simp only [lgA,lgZ,lgS]
     go_simp
    simp only [lgA,lgZ,lgS,Act.put,lsA,lsZ,lsS]
    refine wpAnyG.tT 12 (v:=c4) (by decide) 19 (by as_aux_lemma=>kernel_rfl) (by rfl) ?y12 (HBX _ hc0) ?_
    case y12 =>
     rintro w' ⟨q0,q1,q2,q3,q4,q5⟩
     simp only [lgA,lgZ,lgS]
     go_simp
    simp only [lgA,lgZ,lgS,Act.put,lsA,lsZ,lsS]
    refine wpAnyG.tT 13 (v:=.func (.func 26) #[] #[]) (by decide) 19 (by as_aux_lemma=>kernel_rfl) (by rfl) ?y13 (HBX _ hc0) ?_
    case y13 =>
     rintro w' ⟨q0,q1,q2,q3,q4,q5⟩
     simp only [lgA,lgZ,lgS]
     go_simp
    simp only [lgA,lgZ,lgS,Act.put,lsA,lsZ,lsS]
    refine wpAnyG.tT 14 (v:=.pointer (some ⟨wr.heap.size,1,none⟩)) (by decide) 19 (by as_aux_lemma=>kernel_rfl) (by rfl) ?y14 (HBX _ hc0) ?_
    case y14 =>
     rintro w' ⟨q0,q1,q2,q3,q4,q5⟩
     simp only [lgA,lgZ,lgS]
     go_simp
    simp only [lgA,lgZ,lgS,Act.put,lsA,lsZ,lsS]
    refine wpAnyG.tT 15 (v:=.agg #[.bool p1,.slice a1 n1 k1,.slice d1 m1 l1]) (by decide) 19 (by as_aux_lemma=>kernel_rfl) (by rfl) ?y15 (HBX _ hc0) ?_
    case y15 =>
     rintro w' ⟨q0,q1,q2,q3,q4,q5⟩
     simp only [lgA,lgZ,lgS]
     go_simp
    simp only [lgA,lgZ,lgS,Act.put,lsA,lsZ,lsS]
    refine wpAnyG.one 16 (by as_aux_lemma=>kernel_rfl) (by decide) (by rfl) (fun K hK=>?_)
    simp only [lgA,lgZ,lgS]
    go_simp
    refine (negQ z0 (GV1.tr.below hc0) (by omega) hS1 (hT2.below hc0)).mono ?_
    rintro e z1 ⟨fA,cA,nA,kA,dA,mA,lA,rfl,GA,hk1⟩
    have hc1:Below W2.heap.size W2 z1:=aF hc0 hk1
    dsimp only
    refine hK _ _ ⟨fun _=>HBX _ hc1,fun _=>trivial⟩ ?_
    clear hK K
    refine wpAnyG.one 17 (by as_aux_lemma=>kernel_rfl) (by decide) (by rfl) (fun K hK=>?_)
    simp only [lgA,lgZ,lgS]
    refine tJ _ _ _ rfl (SC.below hc1) rfl rfl rfl (GA.mono (Nat.zero_le _)) (by omega) hS1 (hT2.below hc1) ?_
    intro z2 h SPh hk2
    have hc2:Below W2.heap.size W2 z2:=aF hc1 hk2
    refine hK _ _ ⟨fun _=>HBX _ hc2,fun _=>trivial⟩ ?_
    clear hK K
    refine wpAnyG.one 18 (by as_aux_lemma=>kernel_rfl) (by decide) (by rfl) (fun K hK=>?_)
    simp only [lgA,lgZ,lgS]
    obtain ⟨hl,hq,cs,D,hcs,hD,h1s,hbox,hTC⟩:=SPh
    have SLZ:=SLU.below hc2
    have RZ:=RU.below hc2
    have KZ:=KU.bel hc2 (by omega)
    have hs2:=hc2.size
    refine nP z2 _ _ 53 52 4 64 (wid (P.V j)) rfl Tryz.underlying53 kJ (by decide) (by decide) hq F (.slice ca cm cc) cm E rfl SLZ h _ rfl D cs hcs hD h1s hbox (by omega) (by omega) _ rfl ?_
    intro g6 cap6 w6 SN hg hat hgl
    have hne:(.slice ca cm cc:Value).ownBlock≠some R:=SLZ.neR RZ (by decide)
    have RZ6:=RZ.kept hg hne
    have KG:=(Kx.refl R F [61,52] z2).grown SLZ (by simp) (Nat.le_refl F) (by omega) hg
    have e0:=(RZ6.cell 1).trans (show _=some (.slice ca cm cc) from rfl)
    have e1:=RZ6.frozen 1
    have e2:=(RZ6.cell 0).trans (show _=some (.slice (some ⟨g,0,none⟩) P.vn sc) from rfl)
    have e3:w6.cell? ⟨g,j*5+4,none⟩=some c4:=(World.cell?_of_block (w:=z2) (hg.block g (by omega) (fun e=>hgF e.symm))).trans (aG hc2 r4)
    have eb:w6.heap[wr.heap.size]? = z2.heap[wr.heap.size]?:=hg.block _ (by omega) (fun e=>hbF e.symm)
    refine hK _ _ ⟨fun _=>⟨e0,e2,e3,(World.cell?_of_block (w:=z2) eb).trans (aG hc2 (BU 1 _ rfl)),(World.cell?_of_block (w:=z2) eb).trans (aG hc2 (BU 2 _ rfl)),(World.cell?_of_block (w:=z2) eb).trans (aG hc2 (BU 3 _ rfl))⟩,fun _=>trivial⟩ ?_
    clear hK K
    refine wpAnyG.one 19 (by as_aux_lemma=>kernel_rfl) (by decide) (by rfl) (fun K hK=>?_)
    simp only [lgA,lgZ,lgS]
    go_simp
    refine hK _ _ ⟨fun h=>absurd h (by decide),fun _=>trivial⟩ ?_
    clear hK K
    refine wpAnyG.one 20 (by as_aux_lemma=>kernel_rfl) (by decide) (by rfl) (fun K hK=>?_)
    simp only [lgA,lgZ,lgS]
    go_simp
    refine hK _ _ ⟨fun h=>absurd h (by decide),fun _=>trivial⟩ ?_
    clear hK K
    refine wpAnyG.one 21 (by as_aux_lemma=>kernel_rfl) (by decide) (by rfl) (fun K hK=>?_)
    simp only [lgA,lgZ,lgS]
    go_simp
    refine hK _ _ ⟨fun h=>absurd h (by decide),fun _=>trivial⟩ ?_
    clear hK K
    refine wpAnyG.done (by as_aux_lemma=>kernel_rfl) (NoPanic.normal ?_)
    obtain ⟨RN,ON⟩:=RZ6.set 1 (.slice (some ⟨g6,0,none⟩) (cm+wid (P.V j)) cap6)
    replace RN:Rw 61 (w6.setCell ⟨R,1,none⟩ (.slice (some ⟨g6,0,none⟩) (cm+wid (P.V j)) cap6)) R #[.slice (some ⟨g,0,none⟩) P.vn sc,.slice (some ⟨g6,0,none⟩) (cm+wid (P.V j)) cap6,.bool fK,.slice cK nK kK,.slice dK mK lK,a5',c6',a7']:=by simpa using RN
    have KNN:=(KZ.trans KG).off RZ6 (by simp) ON
    have KL:=KG.off RZ6 (by simp) ON
    have SNN:=SN.kxh ((Kx.refl R F [61] w6).off RZ6 (by simp) ON) (by decide)
    have hK6:Kx R F [61,52] wr (w6.setCell ⟨R,1,none⟩ (.slice (some ⟨g6,0,none⟩) (cm+wid (P.V j)) cap6)):=((dU (R:=R) (F:=F) (L:=[61,52]) (Below.refl _ wr) hFw).bel hzz hFw).trans ((dU (R:=R) (F:=F) (L:=[61,52]) hc2 (by omega)).trans KL)
    have GKN:=GK.kx hK6 (by decide)
    have TMN:TM (w6.setCell ⟨R,1,none⟩ (.slice (some ⟨g6,0,none⟩) (cm+wid (P.V j)) cap6)) F (.slice (some ⟨g6,0,none⟩) (cm+wid (P.V j)) cap6) (tC P.V (fun q=>sgn P.mx (P.V q).obj) (j+1)) S:=by
     refine TM.app' (m:=cm) (q:=wid (P.V j)) (by rw [HCM.out,lM]) (oK _ _ _).symm SNN (fun i t ht=>(TE i t ht).kx hK6 (by decide)) (fun i t ht=>?_)
     dsimp only at ht
     rw [show sgn P.mx (P.V j).obj = -(P.V j).obj by rw [HMX.out];rfl] at ht
     exact (hTC i t ht).kx KL (by decide)
    rw [← hsa] at RN
    clear RZ RZ6 KZ KG e0 e1 e2 e3 eb ON KL SNN hK6 SN hg hat hgl hne SLZ hbox hTC hD h1s hcs hl hq HBX hc0 hc1 hc2 hk1 hk2 GA SLU SLU2 BU RU SC TE GK KU KU2 hs2 r4
    generalize w6.setCell ⟨R,1,none⟩ (.slice (some ⟨g6,0,none⟩) (cm+wid (P.V j)) cap6)=w7 at *
    try rw [← hva']
    clear hva'
    go_wp2
    go_roundw
    case rel=>first|exact ⟨j+1,_,_,_,by omega,by go_num,RN,TMN,GKN,KNN⟩|((repeat apply Exists.intro);refine ⟨?_,rfl⟩;exact ⟨j+1,_,_,_,by omega,by go_num,RN,TMN,GKN,KNN⟩)
    case measure=>simp [intOf];omega
   ·obtain rfl:j=P.vn:=by omega
    have hkI:¬ (P.vn:Int)<(P.vn:Int):=by omega
    go_wp2
    go_end0
    exact ⟨rfl,_,_,_,_,RW,TMj,⟨_,_,_,_,_,_,_,rfl,rfl,rfl,GK⟩,KU⟩
end Go.Proofs.YtmeimjakdheidaaGreatDoor

import Derived.Test.YtlfobaanbmfafaaGreatDoorPrAAll
import Derived.Test.YtlfobaanbmfafaaGreatDoorShEAll
namespace Go.Proofs.YtlfobaanbmfafaaGreatDoor
open Go.RowKit
theorem wp_appendK (w:World) {o:Oper} {a:Act} {K:Act→World→Prop} {Q:Exit→Act→World→Prop} (s x:Operand) (L T:TypeId) (c y q:Nat)
  (ho:o.op = .call { callee:=.builtin .append,args:=#[s,x],argTypes:=#[L,L] }) (hL:Tryz.prog.underlying L = some (.slice T)) (hI:Inf T c y) (hc0:0 < c) (hy:y≤1000) (hq:0 < q∧q≤10)
  (B:Nat) (v:Value) (n:Nat) (E:Nat→List Value) (hs:a.eval s = v) (hown:SL w B T c v n E) (h k:Nat) (hx:a.eval x = .slice (some ⟨h,0,none⟩) q k)
  (D:Nat→List Value) (cs:List Value) (hcs:cs.length = q * c) (hD:∀ i,i < q→∀ j u,(D i)[j]? = some u→j < c∧cs[i * c + j]? = some u) (h1:∀ u ∈ cs,u.oneCell' = true) (hbox:BoxC w h cs)
  (hlen:n≤1000000000) (hB:B≤w.heap.size) (H:Nat) (hH:w.heap.size = H)
  (hK:∀ g cap w',SL w' B T c (.slice (some ⟨g,0,none⟩) (n + q) cap) (n + q) (fun i=>if i < n then E i else D (i - n))→w.grownBy w' v.ownBlock→(v.ownBlock = some g∨g = H)→g < w'.heap.size→K (a.put o.dst (.slice (some ⟨g,0,none⟩) (n + q) cap)) w') :
  Oper.wp Tryz.prog o a w K Q:=by
 obtain ⟨vs,g1,g2⟩:=hown
 obtain ⟨i0,z,hi,hz,hs3,hb56,hz3⟩:=hI
 have hyn:(n + q) * y≤1000000010 * 1000:=Nat.mul_le_mul (by omega) hy
 refine wp_append_lies w s x L ho B T i0 z c y hL hi hz hs3 hb56 hz3 hc0 v n vs hs g1 ⟨h,0,none⟩ q k cs hx (by omega) ?_ h1 hq.1 (by unfold maxLen;omega) (by omega) hB H hH ?_
 ·intro j u hj
  have:=hbox j u hj
  by_cases e:j = 0
  ·subst e;simpa [Addr.add] using this
  ·simpa [Addr.add,e] using this
 ·intro g cap w' r1 r2 r3 r4
  refine hK g cap w' ⟨_,r1,fun i hi j u hu=>?_⟩ r2 r3 r4
  have hl:vs.length = n * c:=g1.1
  by_cases e:i < n
  ·simp only [e,if_true] at hu
   obtain ⟨k1,k2⟩:=g2 i e j u hu
   have hlt:i * c + j < vs.length:=(List.getElem?_eq_some_iff.1 k2).1
   exact ⟨k1,by rw [List.getElem?_append_left hlt];exact k2⟩
  ·simp only [e,if_false] at hu
   obtain ⟨k1,k2⟩:=hD (i - n) (by omega) j u hu
   refine ⟨k1,?_⟩
   have e2:i * c = n * c + (i - n) * c:=by rw [← Nat.add_mul,Nat.add_sub_cancel' (Nat.le_of_not_lt e)]
   rw [e2,List.getElem?_append_right (by omega),hl,show n * c + (i - n) * c + j - n * c = (i - n) * c + j by omega]
   exact k2
def K3 (w:World) (k1 k2 k3:Value) (r:Rat) (T:Nat):Prop:=∃ f c n k c' n' k',k1 = .bool f∧k2 = .slice c n k∧k3 = .slice c' n' k'∧GR w 0 f c n k c' n' k' r T
def sgn (b:Bool) (r:Rat):Rat:=if b then -r else r
theorem TM.len {w:World} {B:Nat} {a:Option Addr} {m cap:Nat} {l:List PT} {S:Nat} (h:TM w B (.slice a m cap) l S):m = l.length:=by
 obtain ⟨a',c',e,_⟩:=h.form
 simp only [Value.slice.injEq] at e
 exact e.2.1
theorem TM.app' {w:World} {B:Nat} {v:Value} {l k:List PT} {S m q:Nat} {E D:Nat→List Value} (hm:m = l.length) (hq:q = k.length) (h:SL w B 58 4 v (m + q) (fun i=>if i < m then E i else D (i - m))) (hE:∀ i t,l[i]? = some t→TC w 0 (E i) t S) (hD:∀ i t,k[i]? = some t→TC w 0 (D i) t S):TM w B v (l ++ k) S:=by
 subst hm hq
 exact TM.app h hE hD
set_option maxRecDepth 100000 in
set_option maxHeartbeats 16000000 in
theorem setCostsQ (P:Prob) {S R F T:Nat} {r:Rat} {sa:Option Addr} {sc:Nat} {a5' c6' a7':Value} {xa:Option Addr} {xn xc:Nat} (w0 w:World) (hV:LG w0 P.va P.vn P.V S) (hb0:Below w0.heap.size w0 w) (hR0:w0.heap.size≤R) (hr:Rw 67 w R #[.slice sa P.vn sc,.slice none 0 0,.bool false,.slice none 0 0,.slice none 0 0,a5',c6',a7']) (hs:StQ w R F P.V P.vn S (.slice sa P.vn sc)) (hRF:R < F) (hF:F≤w.heap.size)
  (HVAL:∀ w1,Below w.heap.size w w1→Calls Tryz.prog 14 #[P.val,.slice xa xn xc] w1 fun e w'=>∃ f c n k c' n' k',e = .returned (.agg #[.bool f,.slice c n k,.slice c' n' k'])∧GR w' w1.heap.size f c n k c' n' k' r T∧Below w1.heap.size w1 w')
  (hvn:P.vn≤1048576) (hS:S≤7000000) (hS1:1≤S) (hT7:T≤7000000) (hT1:1≤T) (hT:TB w) (hTR:2 < R) :
  Calls Tryz.prog 26 #[.pointer (some ⟨R,0,none⟩),P.val,.slice xa xn xc] w fun e w'=>e = .returned (.tuple #[])∧∃ cv k1 k2 k3,Rw 67 w' R #[.slice sa P.vn sc,cv,k1,k2,k3,a5',c6',a7']∧TM w' F cv (cstL P.V (fun q=>sgn P.mx (P.V q).obj) P.vn) S∧K3 w' k1 k2 k3 (sgn P.mx r) T∧Kx R F [67,58] w w':=by
 obtain ⟨mx,emx⟩:∃ mx,mx = P.mx:=⟨_,rfl⟩
 have HMX0:Hid (P.mx = mx):=emx.symm
 clear emx
 cases mx
 ·have hmx:P.mx = false:=HMX0.out
  have eV:P.val = .agg #[.bool false,.string P.nm,.bool P.p,.slice P.a P.na P.ca,.slice P.d P.nd P.cd,.slice P.va P.vn P.vc,.slice P.ra P.rn P.rc]:=by unfold Prob.val;rw [hmx]
  rw [eV] at HVAL ⊢
  have HMX:Hid (P.mx = false):=hmx
  clear hmx HMX0 eV
  have Pb:=box_new w #[.bool false,.string P.nm,.bool P.p,.slice P.a P.na P.ca,.slice P.d P.nd P.cd,.slice P.va P.vn P.vc,.slice P.ra P.rn P.rc] 31
  have hbP:=bel_d0 w (.cells #[.bool false,.string P.nm,.bool P.p,.slice P.a P.na P.ca,.slice P.d P.nd P.cd,.slice P.va P.vn P.vc,.slice P.ra P.rn P.rc] 31)
  have hsP:(w.alloc (.cells #[.bool false,.string P.nm,.bool P.p,.slice P.a P.na P.ca,.slice P.d P.nd P.cd,.slice P.va P.vn P.vc,.slice P.ra P.rn P.rc] 31)).heap.size = w.heap.size + 1:=by simp
  have y0:=Pb 0 _ rfl;have y1:=Pb 1 _ rfl;have y2:=Pb 2 _ rfl;have y3:=Pb 3 _ rfl;have y4:=Pb 4 _ rfl;have y5:=Pb 5 _ rfl;have y6:=Pb 6 _ rfl
  have HV1:=HVAL _ hbP
  clear HVAL
  go_enter Tryz.func26,Tryz.ntmps26
  go_wp2_with fail
  clear y0 y1 y2 y3 y4 y6 Pb
  generalize w.alloc (.cells #[.bool false,.string P.nm,.bool P.p,.slice P.a P.na P.ca,.slice P.d P.nd P.cd,.slice P.va P.vn P.vc,.slice P.ra P.rn P.rc] 31) = W1 at *
  refine HV1.mono ?_
  clear HV1
  rintro e w1 ⟨f1,c1,n1,k1,d1,m1,l1,rfl,G1,hk1⟩
  have hb1:=bel_tr hbP hk1
  go_wp2_with fail
  refine (normR w1 G1.tr (by omega) hT1 (hT.below hb1)).mono ?_
  rintro e w2 ⟨fK,cK,nK,kK,dK,mK,lK,rfl,GK,hk2⟩
  have hb2:=bel_tr hb1 hk2
  have R2:=hr.below hb2
  have y5':=kept_c (bel_tr hk1 hk2) y5
  have hs2:=hb2.size
  have hRl:=hr.lt
  have ho2:=(R2.cell 2).trans (show _ = some (.bool false) from rfl)
  have ho3:=(R2.cell 3).trans (show _ = some (.slice none 0 0) from rfl)
  have ho4:=(R2.cell 4).trans (show _ = some (.slice none 0 0) from rfl)
  have hf2:=R2.frozen 2;have hf3:=R2.frozen 3;have hf4:=R2.frozen 4
  have R3:=(R2.set 2 (.bool fK)).1
  have O3:=(R2.set 2 (.bool fK)).2
  have R3':=(R3.set 3 (.slice cK nK kK)).1
  have O3':=(R3.set 3 (.slice cK nK kK)).2
  have R4:=(R3'.set 4 (.slice dK mK lK)).1
  have O4:=(R3'.set 4 (.slice dK mK lK)).2
  have K4:=(((kx_of (R:=R) (F:=F) (L:=[67,58]) hb2 (by omega)).off R2 (by simp) O3).off R3 (by simp) O3').off R3' (by simp) O4
  have K5:=(((Kx.refl R F [67] w2).off R2 (by simp) O3).off R3 (by simp) O3').off R3' (by simp) O4
  have GK4:=(GK.mono (Nat.zero_le _)).kx K5 (by decide)
  rw [← (show sgn P.mx r = r by rw [HMX.out];rfl)] at GK4
  have y5n:(((w2.setCell ⟨R,2,none⟩ (.bool fK)).setCell ⟨R,3,none⟩ (.slice cK nK kK)).setCell ⟨R,4,none⟩ (.slice dK mK lK)).cell? ⟨w.heap.size,5,none⟩ = some (.slice P.va P.vn P.vc):=(World.cell?_of_block (w:=w2) (((O4.block w.heap.size (by omega)).trans (O3'.block w.heap.size (by omega))).trans (O3.block w.heap.size (by omega)))).trans y5'
  replace R4:Rw 67 (((w2.setCell ⟨R,2,none⟩ (.bool fK)).setCell ⟨R,3,none⟩ (.slice cK nK kK)).setCell ⟨R,4,none⟩ (.slice dK mK lK)) R #[.slice sa P.vn sc,.slice none 0 0,.bool fK,.slice cK nK kK,.slice dK mK lK,a5',c6',a7']:=by simpa using R4
  clear R2 R3 R3' O3 O3' O4 K5 GK G1 hk1 hk2 hb1 hb2 hbP y5 y5' hr hsP
  go_wp2_with fail
  clear ho2 ho3 ho4 hf2 hf3 hf4 y5n
  generalize ((w2.setCell ⟨R,2,none⟩ (.bool fK)).setCell ⟨R,3,none⟩ (.slice cK nK kK)).setCell ⟨R,4,none⟩ (.slice dK mK lK) = W4 at *
  go_loopw [22] (fun s wr=>∃ (j:Nat) (ca:Option Addr) (cm cc:Nat),j≤P.vn∧s = .int .i64 j∧Rw 67 wr R #[.slice sa P.vn sc,.slice ca cm cc,.bool fK,.slice cK nK kK,.slice dK mK lK,a5',c6',a7']∧TM wr F (.slice ca cm cc) (cstL P.V (fun q=>sgn P.mx (P.V q).obj) j) S∧GR wr 0 fK cK nK kK dK mK lK (sgn P.mx r) T∧Kx R F [67,58] w wr) (fun t _=>P.vn - (intOf t).toNat)
  case atStart=>exact ⟨0,none,0,0,Nat.zero_le _,rfl,R4,TM.nil _ _ _,GK4,K4⟩
  case round =>
   clear R4 GK4 K4
   obtain ⟨j,ca,cm,cc,hj,rfl,RW,TMj,GK,KU⟩:=hrel
   by_cases hlt:j < P.vn
   ·have hkI:(j:Int) < (P.vn:Int):=by omega
    have hkI2:(j:Int) * 13 = ((j * 13:Nat):Int):=by omega
    have hkI3:(j:Int) * 5 = ((j * 5:Nat):Int):=by omega
    have HCM:Hid (cm = clm P.V j):=by rw [TMj.len,cstL_len];exact rfl
    have hclb:cm≤2 * j:=by rw [HCM.out];exact clm_le P.V j
    have hwid:wid (P.V j)≤2:=by unfold wid;split <;> (try split) <;> omega
    have hRw:=RW.lt
    have hbw:Below w0.heap.size w0 wr:=hb0.trans (((KU.below (by omega)).mono hR0))
    rcases hV.below hbw with h00 | ⟨vg,hva,hev⟩
    ·omega
    obtain ⟨p1,a1,n1,k1,d1,m1,l1,p2,a2,n2,k2,d2,m2,l2,p3,a3,n3,k3,d3,m3,l3,hc13,GV1,GV2,GV3⟩:=hev j hlt
    obtain ⟨nm,enm⟩:∃ nm,nm = (P.V j).nm:=⟨_,rfl⟩
    obtain ⟨hl,ehl⟩:∃ hl,hl = (P.V j).hlo:=⟨_,rfl⟩
    obtain ⟨hh,ehh⟩:∃ hh,hh = (P.V j).hhi:=⟨_,rfl⟩
    obtain ⟨wh,ewh⟩:∃ wh,wh = (P.V j).whole:=⟨_,rfl⟩
    rw [← enm,← ehl,← ehh,← ewh] at hc13
    have r0:=hc13 0 _ rfl;have r1:=hc13 1 _ rfl;have r2:=hc13 2 _ rfl;have r3:=hc13 3 _ rfl;have r4:=hc13 4 _ rfl;have r5:=hc13 5 _ rfl;have r6:=hc13 6 _ rfl;have r7:=hc13 7 _ rfl;have r8:=hc13 8 _ rfl;have r9:=hc13 9 _ rfl;have r10:=hc13 10 _ rfl;have r11:=hc13 11 _ rfl;have r12:=hc13 12 _ rfl
    clear hc13 hev enm ehl ehh ewh
    have hva':P.va = some ⟨vg,0,none⟩:=hva
    clear hva
    rw [Nat.add_zero] at r0
    have BU:=box_new wr #[.string nm,.bool p1,.slice a1 n1 k1,.slice d1 m1 l1,.bool hl,.bool p2,.slice a2 n2 k2,.slice d2 m2 l2,.bool hh,.bool p3,.slice a3 n3 k3,.slice d3 m3 l3,.bool wh] 56
    have hz:=bel_d0 wr (.cells #[.string nm,.bool p1,.slice a1 n1 k1,.slice d1 m1 l1,.bool hl,.bool p2,.slice a2 n2 k2,.slice d2 m2 l2,.bool hh,.bool p3,.slice a3 n3 k3,.slice d3 m3 l3,.bool wh] 56)
    have hsW:(wr.alloc (.cells #[.string nm,.bool p1,.slice a1 n1 k1,.slice d1 m1 l1,.bool hl,.bool p2,.slice a2 n2 k2,.slice d2 m2 l2,.bool hh,.bool p3,.slice a3 n3 k3,.slice d3 m3 l3,.bool wh] 56)).heap.size = wr.heap.size + 1:=by simp
    have hFw:F≤wr.heap.size:=Nat.le_trans hF KU.size
    have SQr:=hs.kxh KU (by decide) (by decide) (by decide) (by decide)
    obtain ⟨g,c0,c1,c2,c3,c4,hsa,SC,_,_,_,_,_,_,t4⟩:=SQr.at hlt
    obtain ⟨E,SLU,TE⟩:=TMj
    rw [← TM.len ⟨E,SLU,TE⟩] at SLU
    have hgF:(.slice ca cm cc:Value).ownBlock ≠ some g:=fun e=>by
     obtain ⟨E2,S2,_⟩:=SQr
     rw [hsa] at S2
     obtain ⟨vs,h1,_⟩:=SLU
     obtain ⟨us,h2,_⟩:=S2
     exact row_neT h1 h2 (by decide) g e rfl
    have hgl2:=World.block_lt_of_cell? _ _ t4
    have RU:=RW.below hz
    have KU2:=KU.bel hz hFw
    replace SC:=SC.below hz
    have SLU2:=SLU.below hz
    have hzz:=hz
    have hbF:(.slice ca cm cc:Value).ownBlock ≠ some wr.heap.size:=fun e=>by have:=(SLU.lt _ e).2;omega
    have hT2:=(hT.kx KU (by omega) (by omega)).below hz
    have t4':=kept_c hz t4
    replace GV1:=GV1.below hz
    go_wp2_with fail
    clear r0 r1 r2 r3 r4 r5 r6 r7 r8 r9 r10 r11 r12 hz RW SQr t4
    have r4:=t4'
    have SLU:=SLU2
    rw [hsa] at RU
    generalize wr.alloc (.cells #[.string nm,.bool p1,.slice a1 n1 k1,.slice d1 m1 l1,.bool hl,.bool p2,.slice a2 n2 k2,.slice d2 m2 l2,.bool hh,.bool p3,.slice a3 n3 k3,.slice d3 m3 l3,.bool wh] 56) = W2 at *
    have HBX:∀ w',Below W2.heap.size W2 w'→(w'.cell? ⟨R,1,none⟩ = some (.slice ca cm cc)∧w'.cell? ⟨R,0,none⟩ = some (.slice (some ⟨g,0,none⟩) P.vn sc)∧w'.cell? ⟨g,j * 5 + 4,none⟩ = some (c4)∧w'.cell? ⟨wr.heap.size,1,none⟩ = some (.bool p1)∧w'.cell? ⟨wr.heap.size,2,none⟩ = some (.slice a1 n1 k1)∧w'.cell? ⟨wr.heap.size,3,none⟩ = some (.slice d1 m1 l1)):=fun w' h=>⟨kept_c h ((RU.cell 1).trans rfl),kept_c h ((RU.cell 0).trans rfl),kept_c h r4,kept_c h (BU 1 _ rfl),kept_c h (BU 2 _ rfl),kept_c h (BU 3 _ rfl)⟩
    have KUo:=KU
    have KU:=KU2
    refine wp_region_noPanic (wp_region_guardT 19 HBX (by as_aux_lemma=>kernel_rfl) ?_)
    have hc0:Below W2.heap.size W2 W2.drew:=bel_d1 _
    generalize W2.drew = z0 at *
    refine wpAnyG.tT 0 (v:=.pointer (some ⟨R,0,none⟩)) (by decide) 19 (by as_aux_lemma=>kernel_rfl) (by rfl) ?y0 (HBX _ hc0) ?_
    case y0 =>
     rintro w' ⟨q0,q1,q2,q3,q4,q5⟩
     simp only [lgA,lgZ]
     go_simp
    simp only [lgA,lgZ,Act.put,lsA,lsZ,lsS]
    refine wpAnyG.tT 1 (v:=.pointer (some ⟨R,0,none⟩)) (by decide) 19 (by as_aux_lemma=>kernel_rfl) (by rfl) ?y1 (HBX _ hc0) ?_
    case y1 =>
     rintro w' ⟨q0,q1,q2,q3,q4,q5⟩
     simp only [lgA,lgZ,lgS]
     go_simp
    simp only [lgA,lgZ,lgS,Act.put,lsA,lsZ,lsS]
    refine wpAnyG.tT 2 (v:=.pointer (some ⟨R,0,none⟩)) (by decide) 19 (by as_aux_lemma=>kernel_rfl) (by rfl) ?y2 (HBX _ hc0) ?_
    case y2 =>
     rintro w' ⟨q0,q1,q2,q3,q4,q5⟩
     simp only [lgA,lgZ,lgS]
     go_simp
    simp only [lgA,lgZ,lgS,Act.put,lsA,lsZ,lsS]
    refine wpAnyG.tT 3 (v:=.pointer (some ⟨R,1,none⟩)) (by decide) 19 (by as_aux_lemma=>kernel_rfl) (by rfl) ?y3 (HBX _ hc0) ?_
    case y3 =>
     rintro w' ⟨q0,q1,q2,q3,q4,q5⟩
     simp only [lgA,lgZ,lgS]
     go_simp
    simp only [lgA,lgZ,lgS,Act.put,lsA,lsZ,lsS]
    refine wpAnyG.tT 4 (v:=.slice ca cm cc) (by decide) 19 (by as_aux_lemma=>kernel_rfl) (by rfl) ?y4 (HBX _ hc0) ?_
    case y4 =>
     rintro w' ⟨q0,q1,q2,q3,q4,q5⟩
     simp only [lgA,lgZ,lgS]
     go_simp
    simp only [lgA,lgZ,lgS,Act.put,lsA,lsZ,lsS]
    refine wpAnyG.tT 5 (v:=.pointer (some ⟨R,0,none⟩)) (by decide) 19 (by as_aux_lemma=>kernel_rfl) (by rfl) ?y5 (HBX _ hc0) ?_
    case y5 =>
     rintro w' ⟨q0,q1,q2,q3,q4,q5⟩
     simp only [lgA,lgZ,lgS]
     go_simp
    simp only [lgA,lgZ,lgS,Act.put,lsA,lsZ,lsS]
    refine wpAnyG.tT 6 (v:=.pointer (some ⟨R,0,none⟩)) (by decide) 19 (by as_aux_lemma=>kernel_rfl) (by rfl) ?y6 (HBX _ hc0) ?_
    case y6 =>
     rintro w' ⟨q0,q1,q2,q3,q4,q5⟩
     simp only [lgA,lgZ,lgS]
     go_simp
    simp only [lgA,lgZ,lgS,Act.put,lsA,lsZ,lsS]
    refine wpAnyG.tT 7 (v:=.pointer (some ⟨R,0,none⟩)) (by decide) 19 (by as_aux_lemma=>kernel_rfl) (by rfl) ?y7 (HBX _ hc0) ?_
    case y7 =>
     rintro w' ⟨q0,q1,q2,q3,q4,q5⟩
     simp only [lgA,lgZ,lgS]
     go_simp
    simp only [lgA,lgZ,lgS,Act.put,lsA,lsZ,lsS]
    refine wpAnyG.tT 8 (v:=.slice (some ⟨g,0,none⟩) P.vn sc) (by decide) 19 (by as_aux_lemma=>kernel_rfl) (by rfl) ?y8 (HBX _ hc0) ?_
    case y8 =>
     rintro w' ⟨q0,q1,q2,q3,q4,q5⟩
     simp only [lgA,lgZ,lgS]
     go_simp
    simp only [lgA,lgZ,lgS,Act.put,lsA,lsZ,lsS]
    refine wpAnyG.tT 9 (v:=.int .i64 (j:Int)) (by decide) 19 (by as_aux_lemma=>kernel_rfl) (by rfl) ?y9 (HBX _ hc0) ?_
    case y9 =>
     rintro w' ⟨q0,q1,q2,q3,q4,q5⟩
     simp only [lgA,lgZ,lgS]
     go_simp
    simp only [lgA,lgZ,lgS,Act.put,lsA,lsZ,lsS]
    refine wpAnyG.tT 10 (v:=.pointer (some ⟨g,j * 5,none⟩)) (by decide) 19 (by as_aux_lemma=>kernel_rfl) (by rfl) ?y10 (HBX _ hc0) ?_
    case y10 =>
     rintro w' ⟨q0,q1,q2,q3,q4,q5⟩
     simp only [lgA,lgZ,lgS]
     go_simp
    simp only [lgA,lgZ,lgS,Act.put,lsA,lsZ,lsS]
    refine wpAnyG.tT 11 (v:=.pointer (some ⟨g,j * 5 + 4,none⟩)) (by decide) 19 (by as_aux_lemma=>kernel_rfl) (by rfl) ?y11 (HBX _ hc0) ?_
    case y11 =>
     rintro w' ⟨q0,q1,q2,q3,q4,q5⟩
     simp only [lgA,lgZ,lgS]
     go_simp
    simp only [lgA,lgZ,lgS,Act.put,lsA,lsZ,lsS]
    refine wpAnyG.tT 12 (v:=c4) (by decide) 19 (by as_aux_lemma=>kernel_rfl) (by rfl) ?y12 (HBX _ hc0) ?_
    case y12 =>
     rintro w' ⟨q0,q1,q2,q3,q4,q5⟩
     simp only [lgA,lgZ,lgS]
     go_simp
    simp only [lgA,lgZ,lgS,Act.put,lsA,lsZ,lsS]
    refine wpAnyG.tT 13 (v:=.func (.func 32) #[] #[]) (by decide) 19 (by as_aux_lemma=>kernel_rfl) (by rfl) ?y13 (HBX _ hc0) ?_
    case y13 =>
     rintro w' ⟨q0,q1,q2,q3,q4,q5⟩
     simp only [lgA,lgZ,lgS]
     go_simp
    simp only [lgA,lgZ,lgS,Act.put,lsA,lsZ,lsS]
    refine wpAnyG.tT 14 (v:=.pointer (some ⟨wr.heap.size,1,none⟩)) (by decide) 19 (by as_aux_lemma=>kernel_rfl) (by rfl) ?y14 (HBX _ hc0) ?_
    case y14 =>
     rintro w' ⟨q0,q1,q2,q3,q4,q5⟩
     simp only [lgA,lgZ,lgS]
     go_simp
    simp only [lgA,lgZ,lgS,Act.put,lsA,lsZ,lsS]
    refine wpAnyG.tT 15 (v:=.agg #[.bool p1,.slice a1 n1 k1,.slice d1 m1 l1]) (by decide) 19 (by as_aux_lemma=>kernel_rfl) (by rfl) ?y15 (HBX _ hc0) ?_
    case y15 =>
     rintro w' ⟨q0,q1,q2,q3,q4,q5⟩
     simp only [lgA,lgZ,lgS]
     go_simp
    simp only [lgA,lgZ,lgS,Act.put,lsA,lsZ,lsS]
    refine wpAnyG.one 16 (by as_aux_lemma=>kernel_rfl) (by decide) (by rfl) (fun K hK=>?_)
    simp only [lgA,lgZ,lgS]
    go_simp
    refine (normR z0 (GV1.tr.below hc0) (by omega) hS1 (hT2.below hc0)).mono ?_
    rintro e z1 ⟨fA,cA,nA,kA,dA,mA,lA,rfl,GA,hk1⟩
    have hc1:Below W2.heap.size W2 z1:=bel_tr hc0 hk1
    dsimp only
    refine hK _ _ ⟨fun _=>HBX _ hc1,fun _=>trivial⟩ ?_
    clear hK K
    refine wpAnyG.one 17 (by as_aux_lemma=>kernel_rfl) (by decide) (by rfl) (fun K hK=>?_)
    simp only [lgA,lgZ,lgS]
    refine wp_split _ _ _ rfl (SC.below hc1) rfl rfl rfl (GA.mono (Nat.zero_le _)) (by omega) hS1 (hT2.below hc1) ?_
    intro z2 h SPh hk2
    have hc2:Below W2.heap.size W2 z2:=bel_tr hc1 hk2
    refine hK _ _ ⟨fun _=>HBX _ hc2,fun _=>trivial⟩ ?_
    clear hK K
    refine wpAnyG.one 18 (by as_aux_lemma=>kernel_rfl) (by decide) (by rfl) (fun K hK=>?_)
    simp only [lgA,lgZ,lgS]
    obtain ⟨hl,hq,cs,D,hcs,hD,h1s,hbox,hTC⟩:=SPh
    have SLZ:=SLU.below hc2
    have RZ:=RU.below hc2
    have KZ:=KU.bel hc2 (by omega)
    have hs2:=hc2.size
    refine wp_appendK z2 _ _ 59 58 4 64 (wid (P.V j)) rfl Tryz.underlying59 infTerm (by decide) (by decide) hq F (.slice ca cm cc) cm E rfl SLZ h _ rfl D cs hcs hD h1s hbox (by omega) (by omega) _ rfl ?_
    intro g6 cap6 w6 SN hg hat hgl
    have hne:(.slice ca cm cc:Value).ownBlock ≠ some R:=SLZ.neR RZ (by decide)
    have RZ6:=RZ.kept hg hne
    have KG:=(Kx.refl R F [67,58] z2).grown SLZ (by simp) (Nat.le_refl F) (by omega) hg
    have e0:=(RZ6.cell 1).trans (show _ = some (.slice ca cm cc) from rfl)
    have e1:=RZ6.frozen 1
    have e2:=(RZ6.cell 0).trans (show _ = some (.slice (some ⟨g,0,none⟩) P.vn sc) from rfl)
    have e3:w6.cell? ⟨g,j * 5 + 4,none⟩ = some c4:=(World.cell?_of_block (w:=z2) (hg.block g (by omega) (fun e=>hgF e.symm))).trans (kept_c hc2 r4)
    have eb:w6.heap[wr.heap.size]? = z2.heap[wr.heap.size]?:=hg.block _ (by omega) (fun e=>hbF e.symm)
    refine hK _ _ ⟨fun _=>⟨e0,e2,e3,(World.cell?_of_block (w:=z2) eb).trans (kept_c hc2 (BU 1 _ rfl)),(World.cell?_of_block (w:=z2) eb).trans (kept_c hc2 (BU 2 _ rfl)),(World.cell?_of_block (w:=z2) eb).trans (kept_c hc2 (BU 3 _ rfl))⟩,fun _=>trivial⟩ ?_
    clear hK K
    refine wpAnyG.one 19 (by as_aux_lemma=>kernel_rfl) (by decide) (by rfl) (fun K hK=>?_)
    simp only [lgA,lgZ,lgS]
    go_simp
    refine hK _ _ ⟨fun h=>absurd h (by decide),fun _=>trivial⟩ ?_
    clear hK K
    refine wpAnyG.one 20 (by as_aux_lemma=>kernel_rfl) (by decide) (by rfl) (fun K hK=>?_)
    simp only [lgA,lgZ,lgS]
    go_simp
    refine hK _ _ ⟨fun h=>absurd h (by decide),fun _=>trivial⟩ ?_
    clear hK K
    refine wpAnyG.one 21 (by as_aux_lemma=>kernel_rfl) (by decide) (by rfl) (fun K hK=>?_)
    simp only [lgA,lgZ,lgS]
    go_simp
    refine hK _ _ ⟨fun h=>absurd h (by decide),fun _=>trivial⟩ ?_
    clear hK K
    refine wpAnyG.done (by as_aux_lemma=>kernel_rfl) (NoPanic.normal ?_)
    obtain ⟨RN,ON⟩:=RZ6.set 1 (.slice (some ⟨g6,0,none⟩) (cm + wid (P.V j)) cap6)
    replace RN:Rw 67 (w6.setCell ⟨R,1,none⟩ (.slice (some ⟨g6,0,none⟩) (cm + wid (P.V j)) cap6)) R #[.slice (some ⟨g,0,none⟩) P.vn sc,.slice (some ⟨g6,0,none⟩) (cm + wid (P.V j)) cap6,.bool fK,.slice cK nK kK,.slice dK mK lK,a5',c6',a7']:=by simpa using RN
    have KNN:=(KZ.trans KG).off RZ6 (by simp) ON
    have KL:=KG.off RZ6 (by simp) ON
    have SNN:=SN.kxh ((Kx.refl R F [67] w6).off RZ6 (by simp) ON) (by decide)
    have hK6:Kx R F [67,58] wr (w6.setCell ⟨R,1,none⟩ (.slice (some ⟨g6,0,none⟩) (cm + wid (P.V j)) cap6)):=((kx_of (R:=R) (F:=F) (L:=[67,58]) (Below.refl _ wr) hFw).bel hzz hFw).trans ((kx_of (R:=R) (F:=F) (L:=[67,58]) hc2 (by omega)).trans KL)
    have GKN:=GK.kx hK6 (by decide)
    have TMN:TM (w6.setCell ⟨R,1,none⟩ (.slice (some ⟨g6,0,none⟩) (cm + wid (P.V j)) cap6)) F (.slice (some ⟨g6,0,none⟩) (cm + wid (P.V j)) cap6) (cstL P.V (fun q=>sgn P.mx (P.V q).obj) (j + 1)) S:=by
     refine TM.app' (m:=cm) (q:=wid (P.V j)) (by rw [HCM.out,cstL_len]) (spl_len _ _ _).symm SNN (fun i t ht=>(TE i t ht).kx hK6 (by decide)) (fun i t ht=>?_)
     dsimp only at ht
     rw [show sgn P.mx (P.V j).obj = (P.V j).obj by rw [HMX.out];rfl] at ht
     exact (hTC i t ht).kx KL (by decide)
    rw [← hsa] at RN
    clear RZ RZ6 KZ KG e0 e1 e2 e3 eb ON KL SNN hK6 SN hg hat hgl hne SLZ hbox hTC hD h1s hcs hl hq HBX hc0 hc1 hc2 hk1 hk2 GA SLU SLU2 BU RU SC TE GK KU KU2 hs2 r4
    generalize w6.setCell ⟨R,1,none⟩ (.slice (some ⟨g6,0,none⟩) (cm + wid (P.V j)) cap6) = w7 at *
    try rw [← hva']
    clear hva'
    go_wp2
    go_roundw
    case rel=>first | exact ⟨j + 1,_,_,_,by omega,by go_num,RN,TMN,GKN,KNN⟩ | ((repeat apply Exists.intro);refine ⟨?_,rfl⟩;exact ⟨j + 1,_,_,_,by omega,by go_num,RN,TMN,GKN,KNN⟩)
    case measure=>simp [intOf];omega
   ·obtain rfl:j = P.vn:=by omega
    have hkI:¬ (P.vn:Int) < (P.vn:Int):=by omega
    go_wp2
    go_end0
    exact ⟨rfl,_,_,_,_,RW,TMj,⟨_,_,_,_,_,_,_,rfl,rfl,rfl,GK⟩,KU⟩
 ·have hmx:P.mx = true:=HMX0.out
  have eV:P.val = .agg #[.bool true,.string P.nm,.bool P.p,.slice P.a P.na P.ca,.slice P.d P.nd P.cd,.slice P.va P.vn P.vc,.slice P.ra P.rn P.rc]:=by unfold Prob.val;rw [hmx]
  rw [eV] at HVAL ⊢
  have HMX:Hid (P.mx = true):=hmx
  clear hmx HMX0 eV
  have Pb:=box_new w #[.bool true,.string P.nm,.bool P.p,.slice P.a P.na P.ca,.slice P.d P.nd P.cd,.slice P.va P.vn P.vc,.slice P.ra P.rn P.rc] 31
  have hbP:=bel_d0 w (.cells #[.bool true,.string P.nm,.bool P.p,.slice P.a P.na P.ca,.slice P.d P.nd P.cd,.slice P.va P.vn P.vc,.slice P.ra P.rn P.rc] 31)
  have hsP:(w.alloc (.cells #[.bool true,.string P.nm,.bool P.p,.slice P.a P.na P.ca,.slice P.d P.nd P.cd,.slice P.va P.vn P.vc,.slice P.ra P.rn P.rc] 31)).heap.size = w.heap.size + 1:=by simp
  have y0:=Pb 0 _ rfl;have y1:=Pb 1 _ rfl;have y2:=Pb 2 _ rfl;have y3:=Pb 3 _ rfl;have y4:=Pb 4 _ rfl;have y5:=Pb 5 _ rfl;have y6:=Pb 6 _ rfl
  have HV1:=HVAL _ hbP
  clear HVAL
  go_enter Tryz.func26,Tryz.ntmps26
  go_wp2_with fail
  clear y0 y1 y2 y3 y4 y6 Pb
  generalize w.alloc (.cells #[.bool true,.string P.nm,.bool P.p,.slice P.a P.na P.ca,.slice P.d P.nd P.cd,.slice P.va P.vn P.vc,.slice P.ra P.rn P.rc] 31) = W1 at *
  refine HV1.mono ?_
  clear HV1
  rintro e w1 ⟨f1,c1,n1,k1,d1,m1,l1,rfl,G1,hk1⟩
  have hb1:=bel_tr hbP hk1
  go_wp2_with fail
  refine (negQ w1 G1.tr (by omega) hT1 (hT.below hb1)).mono ?_
  rintro e w2 ⟨fK,cK,nK,kK,dK,mK,lK,rfl,GK,hk2⟩
  have hb2:=bel_tr hb1 hk2
  have R2:=hr.below hb2
  have y5':=kept_c (bel_tr hk1 hk2) y5
  have hs2:=hb2.size
  have hRl:=hr.lt
  have ho2:=(R2.cell 2).trans (show _ = some (.bool false) from rfl)
  have ho3:=(R2.cell 3).trans (show _ = some (.slice none 0 0) from rfl)
  have ho4:=(R2.cell 4).trans (show _ = some (.slice none 0 0) from rfl)
  have hf2:=R2.frozen 2;have hf3:=R2.frozen 3;have hf4:=R2.frozen 4
  have R3:=(R2.set 2 (.bool fK)).1
  have O3:=(R2.set 2 (.bool fK)).2
  have R3':=(R3.set 3 (.slice cK nK kK)).1
  have O3':=(R3.set 3 (.slice cK nK kK)).2
  have R4:=(R3'.set 4 (.slice dK mK lK)).1
  have O4:=(R3'.set 4 (.slice dK mK lK)).2
  have K4:=(((kx_of (R:=R) (F:=F) (L:=[67,58]) hb2 (by omega)).off R2 (by simp) O3).off R3 (by simp) O3').off R3' (by simp) O4
  have K5:=(((Kx.refl R F [67] w2).off R2 (by simp) O3).off R3 (by simp) O3').off R3' (by simp) O4
  have GK4:=(GK.mono (Nat.zero_le _)).kx K5 (by decide)
  rw [← (show sgn P.mx r = -r by rw [HMX.out];rfl)] at GK4
  have y5n:(((w2.setCell ⟨R,2,none⟩ (.bool fK)).setCell ⟨R,3,none⟩ (.slice cK nK kK)).setCell ⟨R,4,none⟩ (.slice dK mK lK)).cell? ⟨w.heap.size,5,none⟩ = some (.slice P.va P.vn P.vc):=(World.cell?_of_block (w:=w2) (((O4.block w.heap.size (by omega)).trans (O3'.block w.heap.size (by omega))).trans (O3.block w.heap.size (by omega)))).trans y5'
  replace R4:Rw 67 (((w2.setCell ⟨R,2,none⟩ (.bool fK)).setCell ⟨R,3,none⟩ (.slice cK nK kK)).setCell ⟨R,4,none⟩ (.slice dK mK lK)) R #[.slice sa P.vn sc,.slice none 0 0,.bool fK,.slice cK nK kK,.slice dK mK lK,a5',c6',a7']:=by simpa using R4
  clear R2 R3 R3' O3 O3' O4 K5 GK G1 hk1 hk2 hb1 hb2 hbP y5 y5' hr hsP
  go_wp2_with fail
  clear ho2 ho3 ho4 hf2 hf3 hf4 y5n
  generalize ((w2.setCell ⟨R,2,none⟩ (.bool fK)).setCell ⟨R,3,none⟩ (.slice cK nK kK)).setCell ⟨R,4,none⟩ (.slice dK mK lK) = W4 at *
  go_loopw [22] (fun s wr=>∃ (j:Nat) (ca:Option Addr) (cm cc:Nat),j≤P.vn∧s = .int .i64 j∧Rw 67 wr R #[.slice sa P.vn sc,.slice ca cm cc,.bool fK,.slice cK nK kK,.slice dK mK lK,a5',c6',a7']∧TM wr F (.slice ca cm cc) (cstL P.V (fun q=>sgn P.mx (P.V q).obj) j) S∧GR wr 0 fK cK nK kK dK mK lK (sgn P.mx r) T∧Kx R F [67,58] w wr) (fun t _=>P.vn - (intOf t).toNat)
  case atStart=>exact ⟨0,none,0,0,Nat.zero_le _,rfl,R4,TM.nil _ _ _,GK4,K4⟩
  case round =>
   clear R4 GK4 K4
   obtain ⟨j,ca,cm,cc,hj,rfl,RW,TMj,GK,KU⟩:=hrel
   by_cases hlt:j < P.vn
   ·have hkI:(j:Int) < (P.vn:Int):=by omega
    have hkI2:(j:Int) * 13 = ((j * 13:Nat):Int):=by omega
    have hkI3:(j:Int) * 5 = ((j * 5:Nat):Int):=by omega
    have HCM:Hid (cm = clm P.V j):=by rw [TMj.len,cstL_len];exact rfl
    have hclb:cm≤2 * j:=by rw [HCM.out];exact clm_le P.V j
    have hwid:wid (P.V j)≤2:=by unfold wid;split <;> (try split) <;> omega
    have hRw:=RW.lt
    have hbw:Below w0.heap.size w0 wr:=hb0.trans (((KU.below (by omega)).mono hR0))
    rcases hV.below hbw with h00 | ⟨vg,hva,hev⟩
    ·omega
    obtain ⟨p1,a1,n1,k1,d1,m1,l1,p2,a2,n2,k2,d2,m2,l2,p3,a3,n3,k3,d3,m3,l3,hc13,GV1,GV2,GV3⟩:=hev j hlt
    obtain ⟨nm,enm⟩:∃ nm,nm = (P.V j).nm:=⟨_,rfl⟩
    obtain ⟨hl,ehl⟩:∃ hl,hl = (P.V j).hlo:=⟨_,rfl⟩
    obtain ⟨hh,ehh⟩:∃ hh,hh = (P.V j).hhi:=⟨_,rfl⟩
    obtain ⟨wh,ewh⟩:∃ wh,wh = (P.V j).whole:=⟨_,rfl⟩
    rw [← enm,← ehl,← ehh,← ewh] at hc13
    have r0:=hc13 0 _ rfl;have r1:=hc13 1 _ rfl;have r2:=hc13 2 _ rfl;have r3:=hc13 3 _ rfl;have r4:=hc13 4 _ rfl;have r5:=hc13 5 _ rfl;have r6:=hc13 6 _ rfl;have r7:=hc13 7 _ rfl;have r8:=hc13 8 _ rfl;have r9:=hc13 9 _ rfl;have r10:=hc13 10 _ rfl;have r11:=hc13 11 _ rfl;have r12:=hc13 12 _ rfl
    clear hc13 hev enm ehl ehh ewh
    have hva':P.va = some ⟨vg,0,none⟩:=hva
    clear hva
    rw [Nat.add_zero] at r0
    have BU:=box_new wr #[.string nm,.bool p1,.slice a1 n1 k1,.slice d1 m1 l1,.bool hl,.bool p2,.slice a2 n2 k2,.slice d2 m2 l2,.bool hh,.bool p3,.slice a3 n3 k3,.slice d3 m3 l3,.bool wh] 56
    have hz:=bel_d0 wr (.cells #[.string nm,.bool p1,.slice a1 n1 k1,.slice d1 m1 l1,.bool hl,.bool p2,.slice a2 n2 k2,.slice d2 m2 l2,.bool hh,.bool p3,.slice a3 n3 k3,.slice d3 m3 l3,.bool wh] 56)
    have hsW:(wr.alloc (.cells #[.string nm,.bool p1,.slice a1 n1 k1,.slice d1 m1 l1,.bool hl,.bool p2,.slice a2 n2 k2,.slice d2 m2 l2,.bool hh,.bool p3,.slice a3 n3 k3,.slice d3 m3 l3,.bool wh] 56)).heap.size = wr.heap.size + 1:=by simp
    have hFw:F≤wr.heap.size:=Nat.le_trans hF KU.size
    have SQr:=hs.kxh KU (by decide) (by decide) (by decide) (by decide)
    obtain ⟨g,c0,c1,c2,c3,c4,hsa,SC,_,_,_,_,_,_,t4⟩:=SQr.at hlt
    obtain ⟨E,SLU,TE⟩:=TMj
    rw [← TM.len ⟨E,SLU,TE⟩] at SLU
    have hgF:(.slice ca cm cc:Value).ownBlock ≠ some g:=fun e=>by
     obtain ⟨E2,S2,_⟩:=SQr
     rw [hsa] at S2
     obtain ⟨vs,h1,_⟩:=SLU
     obtain ⟨us,h2,_⟩:=S2
     exact row_neT h1 h2 (by decide) g e rfl
    have hgl2:=World.block_lt_of_cell? _ _ t4
    have RU:=RW.below hz
    have KU2:=KU.bel hz hFw
    replace SC:=SC.below hz
    have SLU2:=SLU.below hz
    have hzz:=hz
    have hbF:(.slice ca cm cc:Value).ownBlock ≠ some wr.heap.size:=fun e=>by have:=(SLU.lt _ e).2;omega
    have hT2:=(hT.kx KU (by omega) (by omega)).below hz
    have t4':=kept_c hz t4
    replace GV1:=GV1.below hz
    go_wp2_with fail
    clear r0 r1 r2 r3 r4 r5 r6 r7 r8 r9 r10 r11 r12 hz RW SQr t4
    have r4:=t4'
    have SLU:=SLU2
    rw [hsa] at RU
    generalize wr.alloc (.cells #[.string nm,.bool p1,.slice a1 n1 k1,.slice d1 m1 l1,.bool hl,.bool p2,.slice a2 n2 k2,.slice d2 m2 l2,.bool hh,.bool p3,.slice a3 n3 k3,.slice d3 m3 l3,.bool wh] 56) = W2 at *
    have HBX:∀ w',Below W2.heap.size W2 w'→(w'.cell? ⟨R,1,none⟩ = some (.slice ca cm cc)∧w'.cell? ⟨R,0,none⟩ = some (.slice (some ⟨g,0,none⟩) P.vn sc)∧w'.cell? ⟨g,j * 5 + 4,none⟩ = some (c4)∧w'.cell? ⟨wr.heap.size,1,none⟩ = some (.bool p1)∧w'.cell? ⟨wr.heap.size,2,none⟩ = some (.slice a1 n1 k1)∧w'.cell? ⟨wr.heap.size,3,none⟩ = some (.slice d1 m1 l1)):=fun w' h=>⟨kept_c h ((RU.cell 1).trans rfl),kept_c h ((RU.cell 0).trans rfl),kept_c h r4,kept_c h (BU 1 _ rfl),kept_c h (BU 2 _ rfl),kept_c h (BU 3 _ rfl)⟩
    have KUo:=KU
    have KU:=KU2
    refine wp_region_noPanic (wp_region_guardT 19 HBX (by as_aux_lemma=>kernel_rfl) ?_)
    have hc0:Below W2.heap.size W2 W2.drew:=bel_d1 _
    generalize W2.drew = z0 at *
    refine wpAnyG.tT 0 (v:=.pointer (some ⟨R,0,none⟩)) (by decide) 19 (by as_aux_lemma=>kernel_rfl) (by rfl) ?y0 (HBX _ hc0) ?_
    case y0 =>
     rintro w' ⟨q0,q1,q2,q3,q4,q5⟩
     simp only [lgA,lgZ]
     go_simp
    simp only [lgA,lgZ,Act.put,lsA,lsZ,lsS]
    refine wpAnyG.tT 1 (v:=.pointer (some ⟨R,0,none⟩)) (by decide) 19 (by as_aux_lemma=>kernel_rfl) (by rfl) ?y1 (HBX _ hc0) ?_
    case y1 =>
     rintro w' ⟨q0,q1,q2,q3,q4,q5⟩
     simp only [lgA,lgZ,lgS]
     go_simp
    simp only [lgA,lgZ,lgS,Act.put,lsA,lsZ,lsS]
    refine wpAnyG.tT 2 (v:=.pointer (some ⟨R,0,none⟩)) (by decide) 19 (by as_aux_lemma=>kernel_rfl) (by rfl) ?y2 (HBX _ hc0) ?_
    case y2 =>
     rintro w' ⟨q0,q1,q2,q3,q4,q5⟩
     simp only [lgA,lgZ,lgS]
     go_simp
    simp only [lgA,lgZ,lgS,Act.put,lsA,lsZ,lsS]
    refine wpAnyG.tT 3 (v:=.pointer (some ⟨R,1,none⟩)) (by decide) 19 (by as_aux_lemma=>kernel_rfl) (by rfl) ?y3 (HBX _ hc0) ?_
    case y3 =>
     rintro w' ⟨q0,q1,q2,q3,q4,q5⟩
     simp only [lgA,lgZ,lgS]
     go_simp
    simp only [lgA,lgZ,lgS,Act.put,lsA,lsZ,lsS]
    refine wpAnyG.tT 4 (v:=.slice ca cm cc) (by decide) 19 (by as_aux_lemma=>kernel_rfl) (by rfl) ?y4 (HBX _ hc0) ?_
    case y4 =>
     rintro w' ⟨q0,q1,q2,q3,q4,q5⟩
     simp only [lgA,lgZ,lgS]
     go_simp
    simp only [lgA,lgZ,lgS,Act.put,lsA,lsZ,lsS]
    refine wpAnyG.tT 5 (v:=.pointer (some ⟨R,0,none⟩)) (by decide) 19 (by as_aux_lemma=>kernel_rfl) (by rfl) ?y5 (HBX _ hc0) ?_
    case y5 =>
     rintro w' ⟨q0,q1,q2,q3,q4,q5⟩
     simp only [lgA,lgZ,lgS]
     go_simp
    simp only [lgA,lgZ,lgS,Act.put,lsA,lsZ,lsS]
    refine wpAnyG.tT 6 (v:=.pointer (some ⟨R,0,none⟩)) (by decide) 19 (by as_aux_lemma=>kernel_rfl) (by rfl) ?y6 (HBX _ hc0) ?_
    case y6 =>
     rintro w' ⟨q0,q1,q2,q3,q4,q5⟩
     simp only [lgA,lgZ,lgS]
     go_simp
    simp only [lgA,lgZ,lgS,Act.put,lsA,lsZ,lsS]
    refine wpAnyG.tT 7 (v:=.pointer (some ⟨R,0,none⟩)) (by decide) 19 (by as_aux_lemma=>kernel_rfl) (by rfl) ?y7 (HBX _ hc0) ?_
    case y7 =>
     rintro w' ⟨q0,q1,q2,q3,q4,q5⟩
     simp only [lgA,lgZ,lgS]
     go_simp
    simp only [lgA,lgZ,lgS,Act.put,lsA,lsZ,lsS]
    refine wpAnyG.tT 8 (v:=.slice (some ⟨g,0,none⟩) P.vn sc) (by decide) 19 (by as_aux_lemma=>kernel_rfl) (by rfl) ?y8 (HBX _ hc0) ?_
    case y8 =>
     rintro w' ⟨q0,q1,q2,q3,q4,q5⟩
     simp only [lgA,lgZ,lgS]
     go_simp
    simp only [lgA,lgZ,lgS,Act.put,lsA,lsZ,lsS]
    refine wpAnyG.tT 9 (v:=.int .i64 (j:Int)) (by decide) 19 (by as_aux_lemma=>kernel_rfl) (by rfl) ?y9 (HBX _ hc0) ?_
    case y9 =>
     rintro w' ⟨q0,q1,q2,q3,q4,q5⟩
     simp only [lgA,lgZ,lgS]
     go_simp
    simp only [lgA,lgZ,lgS,Act.put,lsA,lsZ,lsS]
    refine wpAnyG.tT 10 (v:=.pointer (some ⟨g,j * 5,none⟩)) (by decide) 19 (by as_aux_lemma=>kernel_rfl) (by rfl) ?y10 (HBX _ hc0) ?_
    case y10 =>
     rintro w' ⟨q0,q1,q2,q3,q4,q5⟩
     simp only [lgA,lgZ,lgS]
     go_simp
    simp only [lgA,lgZ,lgS,Act.put,lsA,lsZ,lsS]
    refine wpAnyG.tT 11 (v:=.pointer (some ⟨g,j * 5 + 4,none⟩)) (by decide) 19 (by as_aux_lemma=>kernel_rfl) (by rfl) ?y11 (HBX _ hc0) ?_
    case y11 =>
     rintro w' ⟨q0,q1,q2,q3,q4,q5⟩
     simp only [lgA,lgZ,lgS]
     go_simp
    simp only [lgA,lgZ,lgS,Act.put,lsA,lsZ,lsS]
    refine wpAnyG.tT 12 (v:=c4) (by decide) 19 (by as_aux_lemma=>kernel_rfl) (by rfl) ?y12 (HBX _ hc0) ?_
    case y12 =>
     rintro w' ⟨q0,q1,q2,q3,q4,q5⟩
     simp only [lgA,lgZ,lgS]
     go_simp
    simp only [lgA,lgZ,lgS,Act.put,lsA,lsZ,lsS]
    refine wpAnyG.tT 13 (v:=.func (.func 11) #[] #[]) (by decide) 19 (by as_aux_lemma=>kernel_rfl) (by rfl) ?y13 (HBX _ hc0) ?_
    case y13 =>
     rintro w' ⟨q0,q1,q2,q3,q4,q5⟩
     simp only [lgA,lgZ,lgS]
     go_simp
    simp only [lgA,lgZ,lgS,Act.put,lsA,lsZ,lsS]
    refine wpAnyG.tT 14 (v:=.pointer (some ⟨wr.heap.size,1,none⟩)) (by decide) 19 (by as_aux_lemma=>kernel_rfl) (by rfl) ?y14 (HBX _ hc0) ?_
    case y14 =>
     rintro w' ⟨q0,q1,q2,q3,q4,q5⟩
     simp only [lgA,lgZ,lgS]
     go_simp
    simp only [lgA,lgZ,lgS,Act.put,lsA,lsZ,lsS]
    refine wpAnyG.tT 15 (v:=.agg #[.bool p1,.slice a1 n1 k1,.slice d1 m1 l1]) (by decide) 19 (by as_aux_lemma=>kernel_rfl) (by rfl) ?y15 (HBX _ hc0) ?_
    case y15 =>
     rintro w' ⟨q0,q1,q2,q3,q4,q5⟩
     simp only [lgA,lgZ,lgS]
     go_simp
    simp only [lgA,lgZ,lgS,Act.put,lsA,lsZ,lsS]
    refine wpAnyG.one 16 (by as_aux_lemma=>kernel_rfl) (by decide) (by rfl) (fun K hK=>?_)
    simp only [lgA,lgZ,lgS]
    go_simp
    refine (negQ z0 (GV1.tr.below hc0) (by omega) hS1 (hT2.below hc0)).mono ?_
    rintro e z1 ⟨fA,cA,nA,kA,dA,mA,lA,rfl,GA,hk1⟩
    have hc1:Below W2.heap.size W2 z1:=bel_tr hc0 hk1
    dsimp only
    refine hK _ _ ⟨fun _=>HBX _ hc1,fun _=>trivial⟩ ?_
    clear hK K
    refine wpAnyG.one 17 (by as_aux_lemma=>kernel_rfl) (by decide) (by rfl) (fun K hK=>?_)
    simp only [lgA,lgZ,lgS]
    refine wp_split _ _ _ rfl (SC.below hc1) rfl rfl rfl (GA.mono (Nat.zero_le _)) (by omega) hS1 (hT2.below hc1) ?_
    intro z2 h SPh hk2
    have hc2:Below W2.heap.size W2 z2:=bel_tr hc1 hk2
    refine hK _ _ ⟨fun _=>HBX _ hc2,fun _=>trivial⟩ ?_
    clear hK K
    refine wpAnyG.one 18 (by as_aux_lemma=>kernel_rfl) (by decide) (by rfl) (fun K hK=>?_)
    simp only [lgA,lgZ,lgS]
    obtain ⟨hl,hq,cs,D,hcs,hD,h1s,hbox,hTC⟩:=SPh
    have SLZ:=SLU.below hc2
    have RZ:=RU.below hc2
    have KZ:=KU.bel hc2 (by omega)
    have hs2:=hc2.size
    refine wp_appendK z2 _ _ 59 58 4 64 (wid (P.V j)) rfl Tryz.underlying59 infTerm (by decide) (by decide) hq F (.slice ca cm cc) cm E rfl SLZ h _ rfl D cs hcs hD h1s hbox (by omega) (by omega) _ rfl ?_
    intro g6 cap6 w6 SN hg hat hgl
    have hne:(.slice ca cm cc:Value).ownBlock ≠ some R:=SLZ.neR RZ (by decide)
    have RZ6:=RZ.kept hg hne
    have KG:=(Kx.refl R F [67,58] z2).grown SLZ (by simp) (Nat.le_refl F) (by omega) hg
    have e0:=(RZ6.cell 1).trans (show _ = some (.slice ca cm cc) from rfl)
    have e1:=RZ6.frozen 1
    have e2:=(RZ6.cell 0).trans (show _ = some (.slice (some ⟨g,0,none⟩) P.vn sc) from rfl)
    have e3:w6.cell? ⟨g,j * 5 + 4,none⟩ = some c4:=(World.cell?_of_block (w:=z2) (hg.block g (by omega) (fun e=>hgF e.symm))).trans (kept_c hc2 r4)
    have eb:w6.heap[wr.heap.size]? = z2.heap[wr.heap.size]?:=hg.block _ (by omega) (fun e=>hbF e.symm)
    refine hK _ _ ⟨fun _=>⟨e0,e2,e3,(World.cell?_of_block (w:=z2) eb).trans (kept_c hc2 (BU 1 _ rfl)),(World.cell?_of_block (w:=z2) eb).trans (kept_c hc2 (BU 2 _ rfl)),(World.cell?_of_block (w:=z2) eb).trans (kept_c hc2 (BU 3 _ rfl))⟩,fun _=>trivial⟩ ?_
    clear hK K
    refine wpAnyG.one 19 (by as_aux_lemma=>kernel_rfl) (by decide) (by rfl) (fun K hK=>?_)
    simp only [lgA,lgZ,lgS]
    go_simp
    refine hK _ _ ⟨fun h=>absurd h (by decide),fun _=>trivial⟩ ?_
    clear hK K
    refine wpAnyG.one 20 (by as_aux_lemma=>kernel_rfl) (by decide) (by rfl) (fun K hK=>?_)
    simp only [lgA,lgZ,lgS]
    go_simp
    refine hK _ _ ⟨fun h=>absurd h (by decide),fun _=>trivial⟩ ?_
    clear hK K
    refine wpAnyG.one 21 (by as_aux_lemma=>kernel_rfl) (by decide) (by rfl) (fun K hK=>?_)
    simp only [lgA,lgZ,lgS]
    go_simp
    refine hK _ _ ⟨fun h=>absurd h (by decide),fun _=>trivial⟩ ?_
    clear hK K
    refine wpAnyG.done (by as_aux_lemma=>kernel_rfl) (NoPanic.normal ?_)
    obtain ⟨RN,ON⟩:=RZ6.set 1 (.slice (some ⟨g6,0,none⟩) (cm + wid (P.V j)) cap6)
    replace RN:Rw 67 (w6.setCell ⟨R,1,none⟩ (.slice (some ⟨g6,0,none⟩) (cm + wid (P.V j)) cap6)) R #[.slice (some ⟨g,0,none⟩) P.vn sc,.slice (some ⟨g6,0,none⟩) (cm + wid (P.V j)) cap6,.bool fK,.slice cK nK kK,.slice dK mK lK,a5',c6',a7']:=by simpa using RN
    have KNN:=(KZ.trans KG).off RZ6 (by simp) ON
    have KL:=KG.off RZ6 (by simp) ON
    have SNN:=SN.kxh ((Kx.refl R F [67] w6).off RZ6 (by simp) ON) (by decide)
    have hK6:Kx R F [67,58] wr (w6.setCell ⟨R,1,none⟩ (.slice (some ⟨g6,0,none⟩) (cm + wid (P.V j)) cap6)):=((kx_of (R:=R) (F:=F) (L:=[67,58]) (Below.refl _ wr) hFw).bel hzz hFw).trans ((kx_of (R:=R) (F:=F) (L:=[67,58]) hc2 (by omega)).trans KL)
    have GKN:=GK.kx hK6 (by decide)
    have TMN:TM (w6.setCell ⟨R,1,none⟩ (.slice (some ⟨g6,0,none⟩) (cm + wid (P.V j)) cap6)) F (.slice (some ⟨g6,0,none⟩) (cm + wid (P.V j)) cap6) (cstL P.V (fun q=>sgn P.mx (P.V q).obj) (j + 1)) S:=by
     refine TM.app' (m:=cm) (q:=wid (P.V j)) (by rw [HCM.out,cstL_len]) (spl_len _ _ _).symm SNN (fun i t ht=>(TE i t ht).kx hK6 (by decide)) (fun i t ht=>?_)
     dsimp only at ht
     rw [show sgn P.mx (P.V j).obj = -(P.V j).obj by rw [HMX.out];rfl] at ht
     exact (hTC i t ht).kx KL (by decide)
    rw [← hsa] at RN
    clear RZ RZ6 KZ KG e0 e1 e2 e3 eb ON KL SNN hK6 SN hg hat hgl hne SLZ hbox hTC hD h1s hcs hl hq HBX hc0 hc1 hc2 hk1 hk2 GA SLU SLU2 BU RU SC TE GK KU KU2 hs2 r4
    generalize w6.setCell ⟨R,1,none⟩ (.slice (some ⟨g6,0,none⟩) (cm + wid (P.V j)) cap6) = w7 at *
    try rw [← hva']
    clear hva'
    go_wp2
    go_roundw
    case rel=>first | exact ⟨j + 1,_,_,_,by omega,by go_num,RN,TMN,GKN,KNN⟩ | ((repeat apply Exists.intro);refine ⟨?_,rfl⟩;exact ⟨j + 1,_,_,_,by omega,by go_num,RN,TMN,GKN,KNN⟩)
    case measure=>simp [intOf];omega
   ·obtain rfl:j = P.vn:=by omega
    have hkI:¬ (P.vn:Int) < (P.vn:Int):=by omega
    go_wp2
    go_end0
    exact ⟨rfl,_,_,_,_,RW,TMj,⟨_,_,_,_,_,_,_,rfl,rfl,rfl,GK⟩,KU⟩
theorem trmI:(Tryz.prog.info? 58).map (·.size) = some 4:=by kernel_rfl
theorem infEqn:Inf 79 4 80:=inf_of (by kernel_rfl)
set_option maxRecDepth 100000 in
set_option maxHeartbeats 4000000 in
theorem onceQ (i:Int) (w:World) :
  Calls Tryz.prog 63 #[.int .i64 i] w fun e w'=>∃ f c n k c' n' k',e = .returned (.agg #[.int .i64 i,.bool f,.slice c n k,.slice c' n' k'])∧GR w' w.heap.size f c n k c' n' k' ((1:Int):Rat) 1∧Below w.heap.size w w':=by
 have R0:=Rw.new 58 w #[.int .i64 0,.bool false,.slice none 0 0,.slice none 0 0]
 have hb0:=bel_d0 w (.cells #[.int .i64 0,.bool false,.slice none 0 0,.slice none 0 0] 58)
 have hs0:(w.alloc (.cells #[.int .i64 0,.bool false,.slice none 0 0,.slice none 0 0] 58)).heap.size = w.heap.size + 1:=by simp
 go_enter Tryz.func63,Tryz.ntmps63
 go_wp2_with fail
 generalize w.alloc (.cells #[.int .i64 0,.bool false,.slice none 0 0,.slice none 0 0] 58) = W0 at *
 refine (ofQ (1) W0 (by decide) (by decide)).mono ?_
 rintro e w1 ⟨f1,c1,n1,k1,d1,m1,l1,rfl,G1,hx⟩
 replace R0:=R0.below hx
 replace hb0:=bel_tr hb0 hx
 have hs1:=Below.size hx
 clear hx
 go_wp2_with (refine R0.put #[.int .i64 i,.bool f1,.slice c1 n1 k1,.slice d1 m1 l1] rfl _ _ rfl rfl rfl trmI rfl (by simp [Value.oneCell']) ?_)
 intro w2 R2 O
 have GF:=(G1.off O (by omega)).mono (B':=w.heap.size) (by omega)
 have hw:=hb0.trans (O.below (by omega))
 clear R0 O G1 hb0
 go_wp2
 refine bodyPost_ret (v:=.agg #[.int .i64 i,.bool f1,.slice c1 n1 k1,.slice d1 m1 l1]) (Rw.ret1 Tryz.results63 _ R2 rfl Tryz.underlying58 trmI) rfl ?_
 exact ⟨_,_,_,_,_,_,_,rfl,GF,hw⟩
set_option maxRecDepth 100000 in
set_option maxHeartbeats 4000000 in
theorem lessQ1 (i:Int) (w:World) :
  Calls Tryz.prog 64 #[.int .i64 i] w fun e w'=>∃ f c n k c' n' k',e = .returned (.agg #[.int .i64 i,.bool f,.slice c n k,.slice c' n' k'])∧GR w' w.heap.size f c n k c' n' k' ((-1:Int):Rat) 1∧Below w.heap.size w w':=by
 have R0:=Rw.new 58 w #[.int .i64 0,.bool false,.slice none 0 0,.slice none 0 0]
 have hb0:=bel_d0 w (.cells #[.int .i64 0,.bool false,.slice none 0 0,.slice none 0 0] 58)
 have hs0:(w.alloc (.cells #[.int .i64 0,.bool false,.slice none 0 0,.slice none 0 0] 58)).heap.size = w.heap.size + 1:=by simp
 go_enter Tryz.func64,Tryz.ntmps64
 go_wp2_with fail
 generalize w.alloc (.cells #[.int .i64 0,.bool false,.slice none 0 0,.slice none 0 0] 58) = W0 at *
 refine (ofQ (-1) W0 (by decide) (by decide)).mono ?_
 rintro e w1 ⟨f1,c1,n1,k1,d1,m1,l1,rfl,G1,hx⟩
 replace R0:=R0.below hx
 replace hb0:=bel_tr hb0 hx
 have hs1:=Below.size hx
 clear hx
 go_wp2_with (refine R0.put #[.int .i64 i,.bool f1,.slice c1 n1 k1,.slice d1 m1 l1] rfl _ _ rfl rfl rfl trmI rfl (by simp [Value.oneCell']) ?_)
 intro w2 R2 O
 have GF:=(G1.off O (by omega)).mono (B':=w.heap.size) (by omega)
 have hw:=hb0.trans (O.below (by omega))
 clear R0 O G1 hb0
 go_wp2
 refine bodyPost_ret (v:=.agg #[.int .i64 i,.bool f1,.slice c1 n1 k1,.slice d1 m1 l1]) (Rw.ret1 Tryz.results64 _ R2 rfl Tryz.underlying58 trmI) rfl ?_
 exact ⟨_,_,_,_,_,_,_,rfl,GF,hw⟩
theorem EM.len {w:World} {B:Nat} {a:Option Addr} {m cap:Nat} {l:List Eqn} {S:Nat} (h:EM w B (.slice a m cap) l S):m = l.length:=by
 obtain ⟨a',c',e,_⟩:=h.form
 simp only [Value.slice.injEq] at e
 exact e.2.1
theorem EM.snoc {w:World} {B:Nat} {v:Value} {l:List Eqn} {S m:Nat} {E:Nat→List Value} {cs:List Value} {e:Eqn} (hm:m = l.length) (h:SL w B 79 4 v (m + 1) (fun i=>if i < m then E i else cs)) (hE:∀ i e,l[i]? = some e→EC w B (E i) e S) (hc:EC w B cs e S):EM w B v (l ++ [e]) S:=by
 subst hm
 refine ⟨_,by rw [List.length_append];exact h,fun i t ht=>?_⟩
 by_cases hi:i < l.length
 ·rw [List.getElem?_append_left hi] at ht
  simp only [hi,if_true]
  exact hE i t ht
 ·rw [List.getElem?_append_right (by omega)] at ht
  have:=(List.getElem?_eq_some_iff.1 ht).1
  have e0:i - l.length = 0:=by simp at this;omega
  rw [e0] at ht
  simp at ht
  subst ht
  simp only [hi,if_false]
  exact hc
set_option maxRecDepth 100000 in
set_option maxHeartbeats 8000000 in
theorem addEqQ {p:Bool} {a:Option Addr} {na ca:Nat} {d:Option Addr} {nd cd:Nat} {r:Rat} {R F S:Nat} {a0' a1' a2' a3' a4' c6' a7':Value} {ea:Option Addr} {em ec:Nat} {ta:Option Addr} {tm tc:Nat} {l:List Eqn} {tl:List PT} (w:World) (hr:Rw 67 w R #[a0',a1',a2',a3',a4',.slice ea em ec,c6',a7']) (hE:EM w F (.slice ea em ec) l S) (hF:F≤w.heap.size) (hgr:GR w 0 p a na ca d nd cd r S) (ht:TM w F (.slice ta tm tc) tl S) (hl:em≤100000000) :
  Calls Tryz.prog 62 #[.pointer (some ⟨R,0,none⟩),.agg #[.bool p,.slice a na ca,.slice d nd cd],.slice ta tm tc] w fun e w'=>e = .returned (.tuple #[])∧∃ ea' ec',Rw 67 w' R #[a0',a1',a2',a3',a4',.slice ea' (em + 1) ec',c6',a7']∧EM w' F (.slice ea' (em + 1) ec') (l ++ [⟨tl,r⟩]) S∧Kx R F [67,79] w w':=by
 have HL:Hid (em = l.length):=hE.len
 have BU:=box_new w #[.bool p,.slice a na ca,.slice d nd cd] 27
 have hb0:=bel_d0 w (.cells #[.bool p,.slice a na ca,.slice d nd cd] 27)
 have hs0:(w.alloc (.cells #[.bool p,.slice a na ca,.slice d nd cd] 27)).heap.size = w.heap.size + 1:=by simp
 have hRl:=hr.lt
 have RU:=hr.below hb0
 obtain ⟨E,SLU,TE⟩:=hE
 rw [← HL.out] at SLU
 have hbF:(.slice ea em ec:Value).ownBlock ≠ some w.heap.size:=fun e=>by have:=(SLU.lt _ e).2;omega
 replace SLU:=SLU.below hb0
 go_enter Tryz.func62,Tryz.ntmps62
 go_wp2_with fail
 generalize w.alloc (.cells #[.bool p,.slice a na ca,.slice d nd cd] 27) = W0 at *
 have HBX:∀ w',Below W0.heap.size W0 w'→(w'.cell? ⟨R,5,none⟩ = some (.slice ea em ec)∧w'.cell? ⟨w.heap.size,0,none⟩ = some (.bool p)∧w'.cell? ⟨w.heap.size,1,none⟩ = some (.slice a na ca)∧w'.cell? ⟨w.heap.size,2,none⟩ = some (.slice d nd cd)):=fun w' h=>⟨kept_c h ((RU.cell 5).trans rfl),kept_c h (BU 0 _ rfl),kept_c h (BU 1 _ rfl),kept_c h (BU 2 _ rfl)⟩
 refine wp_region_noPanic (wp_region_guardT 10 HBX (by as_aux_lemma=>kernel_rfl) ?_)
 have hc0:Below W0.heap.size W0 W0.drew:=bel_d1 _
 generalize W0.drew = z0 at *
 refine wpAnyG.tT 0 (v:=.pointer (some ⟨R,0,none⟩)) (by decide) 10 (by as_aux_lemma=>kernel_rfl) (by rfl) ?y0 (HBX _ hc0) ?_
 case y0 =>
  rintro w' ⟨q0,q1,q2,q3⟩
  simp only [lgA,lgZ]
  go_simp
 simp only [lgA,lgZ,Act.put,lsA,lsZ,lsS]
 refine wpAnyG.tT 1 (v:=.pointer (some ⟨R,0,none⟩)) (by decide) 10 (by as_aux_lemma=>kernel_rfl) (by rfl) ?y1 (HBX _ hc0) ?_
 case y1 =>
  rintro w' ⟨q0,q1,q2,q3⟩
  simp only [lgA,lgZ,lgS]
  go_simp
 simp only [lgA,lgZ,lgS,Act.put,lsA,lsZ,lsS]
 refine wpAnyG.tT 2 (v:=.pointer (some ⟨R,0,none⟩)) (by decide) 10 (by as_aux_lemma=>kernel_rfl) (by rfl) ?y2 (HBX _ hc0) ?_
 case y2 =>
  rintro w' ⟨q0,q1,q2,q3⟩
  simp only [lgA,lgZ,lgS]
  go_simp
 simp only [lgA,lgZ,lgS,Act.put,lsA,lsZ,lsS]
 refine wpAnyG.tT 3 (v:=.pointer (some ⟨R,5,none⟩)) (by decide) 10 (by as_aux_lemma=>kernel_rfl) (by rfl) ?y3 (HBX _ hc0) ?_
 case y3 =>
  rintro w' ⟨q0,q1,q2,q3⟩
  simp only [lgA,lgZ,lgS]
  go_simp
 simp only [lgA,lgZ,lgS,Act.put,lsA,lsZ,lsS]
 refine wpAnyG.tT 4 (v:=.slice ea em ec) (by decide) 10 (by as_aux_lemma=>kernel_rfl) (by rfl) ?y4 (HBX _ hc0) ?_
 case y4 =>
  rintro w' ⟨q0,q1,q2,q3⟩
  simp only [lgA,lgZ,lgS]
  go_simp
 simp only [lgA,lgZ,lgS,Act.put,lsA,lsZ,lsS]
 refine wpAnyG.tT 5 (v:=.slice ta tm tc) (by decide) 10 (by as_aux_lemma=>kernel_rfl) (by rfl) ?y5 (HBX _ hc0) ?_
 case y5 =>
  rintro w' ⟨q0,q1,q2,q3⟩
  simp only [lgA,lgZ,lgS]
  go_simp
 simp only [lgA,lgZ,lgS,Act.put,lsA,lsZ,lsS]
 refine wpAnyG.tT 6 (v:=.agg #[.bool p,.slice a na ca,.slice d nd cd]) (by decide) 10 (by as_aux_lemma=>kernel_rfl) (by rfl) ?y6 (HBX _ hc0) ?_
 case y6 =>
  rintro w' ⟨q0,q1,q2,q3⟩
  simp only [lgA,lgZ,lgS]
  go_simp
 simp only [lgA,lgZ,lgS,Act.put,lsA,lsZ,lsS]
 refine wpAnyG.tT 7 (v:=.agg #[.slice ta tm tc,.bool p,.slice a na ca,.slice d nd cd]) (by decide) 10 (by as_aux_lemma=>kernel_rfl) (by rfl) ?y7 (HBX _ hc0) ?_
 case y7 =>
  rintro w' ⟨q0,q1,q2,q3⟩
  simp only [lgA,lgZ,lgS]
  go_simp
 simp only [lgA,lgZ,lgS,Act.put,lsA,lsZ,lsS]
 refine wpAnyG.one 8 (by as_aux_lemma=>kernel_rfl) (by decide) (by rfl) (fun K hK=>?_)
 simp only [lgA,lgZ,lgS]
 go_simp
 have hy:Below W0.heap.size W0 (z0.alloc (.cells #[.slice ta tm tc,.bool p,.slice a na ca,.slice d nd cd] 79)):=bel_a hc0
 have BX:=box_new z0 #[.slice ta tm tc,.bool p,.slice a na ca,.slice d nd cd] 79
 have hs4:(z0.alloc (.cells #[.slice ta tm tc,.bool p,.slice a na ca,.slice d nd cd] 79)).heap.size = z0.heap.size + 1:=by simp
 generalize z0.alloc (.cells #[.slice ta tm tc,.bool p,.slice a na ca,.slice d nd cd] 79) = z5 at *
 refine hK _ _ ⟨fun _=>HBX _ hy,fun _=>trivial⟩ ?_
 clear hK K
 refine wpAnyG.one 9 (by as_aux_lemma=>kernel_rfl) (by decide) (by rfl) (fun K hK=>?_)
 simp only [lgA,lgZ,lgS]
 have SLZ:=SLU.below hy
 have RZ:=RU.below hy
 have hsy:=hy.size
 refine wp_appendS z5 _ _ 64 79 4 80 rfl Tryz.underlying64 infEqn (by decide) (by decide) F (.slice ea em ec) em E rfl SLZ z0.heap.size 1 rfl [.slice ta tm tc,.bool p,.slice a na ca,.slice d nd cd] rfl (fun u hu=>by simp at hu;rcases hu with rfl | rfl | rfl | rfl <;> rfl) BX (by omega) (by omega) _ rfl ?_
 intro g6 cap6 w6 SN hg hat hgl
 have hne:(.slice ea em ec:Value).ownBlock ≠ some R:=SLZ.neR RZ (by decide)
 have RZ6:=RZ.kept hg hne
 have KG:=(Kx.refl R F [67,79] z5).grown SLZ (by simp) (Nat.le_refl F) (by omega) hg
 have e0:=(RZ6.cell 5).trans (show _ = some (.slice ea em ec) from rfl)
 have e1:=RZ6.frozen 5
 have eb:w6.heap[w.heap.size]? = z5.heap[w.heap.size]?:=hg.block _ (by omega) (fun e=>hbF e.symm)
 refine hK _ _ ⟨fun _=>⟨e0,(World.cell?_of_block (w:=z5) eb).trans (kept_c hy (BU 0 _ rfl)),(World.cell?_of_block (w:=z5) eb).trans (kept_c hy (BU 1 _ rfl)),(World.cell?_of_block (w:=z5) eb).trans (kept_c hy (BU 2 _ rfl))⟩,fun _=>trivial⟩ ?_
 clear hK K
 refine wpAnyG.one 10 (by as_aux_lemma=>kernel_rfl) (by decide) (by rfl) (fun K hK=>?_)
 simp only [lgA,lgZ,lgS]
 go_simp
 refine hK _ _ ⟨fun h=>absurd h (by decide),fun _=>trivial⟩ ?_
 clear hK K
 refine wpAnyG.one 11 (by as_aux_lemma=>kernel_rfl) (by decide) (by rfl) (fun K hK=>?_)
 simp only [lgA,lgZ,lgS]
 go_simp
 refine hK _ _ ⟨fun h=>absurd h (by decide),fun _=>trivial⟩ ?_
 clear hK K
 refine wpAnyG.one 12 (by as_aux_lemma=>kernel_rfl) (by decide) (by rfl) (fun K hK=>?_)
 simp only [lgA,lgZ,lgS]
 go_simp
 refine hK _ _ ⟨fun h=>absurd h (by decide),fun _=>trivial⟩ ?_
 clear hK K
 refine wpAnyG.done (by as_aux_lemma=>kernel_rfl) (NoPanic.normal ?_)
 obtain ⟨RN,ON⟩:=RZ6.set 5 (.slice (some ⟨g6,0,none⟩) (em + 1) cap6)
 replace RN:Rw 67 (w6.setCell ⟨R,5,none⟩ (.slice (some ⟨g6,0,none⟩) (em + 1) cap6)) R #[a0',a1',a2',a3',a4',.slice (some ⟨g6,0,none⟩) (em + 1) cap6,c6',a7']:=by simpa using RN
 have KL:=KG.off RZ6 (by simp) ON
 have K0:Kx R F [67,79] w z5:=(kx_of (R:=R) (F:=F) (L:=[67,79]) hb0 hF).bel hy (by omega)
 have KN:=K0.trans KL
 have SNN:=SN.kxh ((Kx.refl R F [67] w6).off RZ6 (by simp) ON) (by decide)
 have EN:EM (w6.setCell ⟨R,5,none⟩ (.slice (some ⟨g6,0,none⟩) (em + 1) cap6)) F (.slice (some ⟨g6,0,none⟩) (em + 1) cap6) (l ++ [⟨tl,r⟩]) S:=EM.snoc HL.out SNN (fun i e he=>(TE i e he).kx KN (by decide) (by decide)) ⟨_,_,_,_,_,_,_,_,rfl,ht.kx KN (by decide) (by decide),hgr.kx KN (by decide)⟩
 clear RZ RZ6 KG e0 e1 eb ON KL SNN SN hg hat hgl hne SLZ BX HBX hc0 hy SLU BU RU TE K0
 generalize w6.setCell ⟨R,5,none⟩ (.slice (some ⟨g6,0,none⟩) (em + 1) cap6) = w7 at *
 go_wp2
 go_end0
 exact ⟨rfl,_,_,RN,EN,KN⟩
theorem SL.newL {w:World} {T:TypeId} {c h n F:Nat} {cs:Array Value} (hr:Rw T w h cs) (hs:cs.size = n * c) (hn:n≤1000) (hF:F≤h):SL w F T c (.slice (some ⟨h,0,none⟩) n n) n (fun i=>(cs.toList.drop (i * c)).take c):=by
 refine ⟨cs.toList,⟨by simpa using hs,.inr ⟨h,n,cs,rfl,hF,hr,Nat.le_refl _,by unfold maxLen;omega,hs,by rw [← hs,← Array.length_toList,List.take_length]⟩⟩,fun i hi j u hu=>?_⟩
 simp only [List.getElem?_take,List.getElem?_drop] at hu
 split at hu
 ·exact ⟨by assumption,hu⟩
 ·cases hu
theorem TM.two {w:World} {h F S:Nat} {i j:Int} {p:Bool} {a:Option Addr} {na ca:Nat} {d:Option Addr} {nd cd:Nat} {r:Rat} {p':Bool} {a':Option Addr} {na' ca':Nat} {d':Option Addr} {nd' cd':Nat} {r':Rat} (hr:Rw 58 w h #[.int .i64 i,.bool p,.slice a na ca,.slice d nd cd,.int .i64 j,.bool p',.slice a' na' ca',.slice d' nd' cd']) (hF:F≤h) (g:GR w 0 p a na ca d nd cd r S) (g':GR w 0 p' a' na' ca' d' nd' cd' r' S):TM w F (.slice (some ⟨h,0,none⟩) 2 2) [⟨i,r⟩,⟨j,r'⟩] S:=by
 refine ⟨_,SL.newL hr rfl (by decide) hF,fun k t hk=>?_⟩
 have:=(List.getElem?_eq_some_iff.1 hk).1
 rcases (by simp at this;omega:k = 0∨k = 1) with rfl | rfl
 ·simp at hk
  subst hk
  exact ⟨_,_,_,_,_,_,_,rfl,g⟩
 ·simp at hk
  subst hk
  exact ⟨_,_,_,_,_,_,_,rfl,g'⟩
set_option maxRecDepth 100000 in
set_option maxHeartbeats 8000000 in
theorem addWidQ {p:Bool} {a:Option Addr} {na ca:Nat} {d:Option Addr} {nd cd:Nat} {r:Rat} {p':Bool} {a':Option Addr} {na' ca':Nat} {d':Option Addr} {nd' cd':Nat} {r':Rat} {R F S Sl c:Nat} {a0' a1' a2' a3' a4' a7':Value} {ea:Option Addr} {em ec:Nat} {l:List Eqn} (u:Nat) (w:World) (hr:Rw 67 w R #[a0',a1',a2',a3',a4',.slice ea em ec,.int .i64 (c:Nat),a7']) (hE:EM w F (.slice ea em ec) l S) (hF:F≤w.heap.size) (hlo:GR w 0 p a na ca d nd cd r Sl) (hhi:GR w 0 p' a' na' ca' d' nd' cd' r' Sl) (hSl:1≤Sl∧Sl + Sl≤6000000) (hz:SzR (r' - r) S) (hS1:1≤S) (hl:em≤100000000) (hc:c≤1000000000) (hT:TB w) :
  Calls Tryz.prog 29 #[.pointer (some ⟨R,0,none⟩),.int .i64 (u:Nat),.agg #[.bool p,.slice a na ca,.slice d nd cd],.agg #[.bool p',.slice a' na' ca',.slice d' nd' cd']] w fun e w'=>e = .returned (.tuple #[])∧∃ ea' ec',Rw 67 w' R #[a0',a1',a2',a3',a4',.slice ea' (em + 1) ec',.int .i64 ((c + 1:Nat):Int),a7']∧EM w' F (.slice ea' (em + 1) ec') (l ++ [⟨[⟨(u:Nat),1⟩,⟨(c:Nat),1⟩],r' - r⟩]) S∧Kx R F [67,79] w w':=by
 have B0:=box_new w #[.bool p,.slice a na ca,.slice d nd cd] 27
 have hb0:=bel_d0 w (.cells #[.bool p,.slice a na ca,.slice d nd cd] 27)
 have hs0:(w.alloc (.cells #[.bool p,.slice a na ca,.slice d nd cd] 27)).heap.size = w.heap.size + 1:=by simp
 have B1:=box_new (w.alloc (.cells #[.bool p,.slice a na ca,.slice d nd cd] 27)) #[.bool p',.slice a' na' ca',.slice d' nd' cd'] 27
 rw [hs0] at B1
 have hb1:=bel_tr hb0 (bel_d0 (w.alloc (.cells #[.bool p,.slice a na ca,.slice d nd cd] 27)) (.cells #[.bool p',.slice a' na' ca',.slice d' nd' cd'] 27))
 replace B0:=B0.below (bel_d0 (w.alloc (.cells #[.bool p,.slice a na ca,.slice d nd cd] 27)) (.cells #[.bool p',.slice a' na' ca',.slice d' nd' cd'] 27))
 have hs1:((w.alloc (.cells #[.bool p,.slice a na ca,.slice d nd cd] 27)).alloc (.cells #[.bool p',.slice a' na' ca',.slice d' nd' cd'] 27)).heap.size = w.heap.size + 2:=by simp
 have x0:=B0 0 _ rfl;have x1:=B0 1 _ rfl;have x2:=B0 2 _ rfl
 have y0:=B1 0 _ rfl;have y1:=B1 1 _ rfl;have y2:=B1 2 _ rfl
 go_enter Tryz.func29,Tryz.ntmps29
 go_wp2_with fail
 clear B0 B1 x0 x1 x2 y0 y1 y2 hb0 hs0
 generalize (w.alloc (.cells #[.bool p,.slice a na ca,.slice d nd cd] 27)).alloc (.cells #[.bool p',.slice a' na' ca',.slice d' nd' cd'] 27) = W0 at *
 refine (subQ W0 (hhi.below hb1).tr (hlo.below hb1).tr hSl.2 hSl.1 hSl.1 (hT.below hb1)).mono ?_
 rintro e w1 ⟨f1,c1,n1,k1,d1,m1,l1,rfl,G1,hk1⟩
 have hb2:=bel_tr hb1 hk1
 go_wp2_with fail
 refine (onceQ (u:Nat) w1).mono ?_
 rintro e w2 ⟨f2,c2,n2,k2,d2,m2,l2,rfl,G2,hk2⟩
 have hb3:=bel_tr hb2 hk2
 have RW:=hr.below hb3
 have hs2:=hb3.size
 go_wp2_with fail
 refine (newCol w2 RW hc).mono ?_
 rintro e w3 ⟨rfl,RN,ON⟩
 have KN:=(kx_of (R:=R) (F:=F) (L:=[67]) hb3 hF).off RW (by simp) ON
 have K23:=(Kx.refl R F [67] w2).off RW (by simp) ON
 have hs3:w3.heap.size = w2.heap.size:=ON.size
 go_wp2_with fail
 refine (onceQ (c:Nat) w3).mono ?_
 rintro e w4 ⟨f4,c4,n4,k4,d4,m4,l4,rfl,G4,hk4⟩
 have hs4:=hk4.size
 have K4:=KN.bel hk4 (by omega)
 have K24:=K23.bel hk4 (by omega)
 have RN4:=RN.below hk4
 have RT8:=Rw.new 58 w4 #[.int .i64 (u:Nat),.bool f2,.slice c2 n2 k2,.slice d2 m2 l2,.int .i64 (c:Nat),.bool f4,.slice c4 n4 k4,.slice d4 m4 l4]
 have hb8:=bel_d0 w4 (.cells #[.int .i64 (u:Nat),.bool f2,.slice c2 n2 k2,.slice d2 m2 l2,.int .i64 (c:Nat),.bool f4,.slice c4 n4 k4,.slice d4 m4 l4] 58)
 have hs8:(w4.alloc (.cells #[.int .i64 (u:Nat),.bool f2,.slice c2 n2 k2,.slice d2 m2 l2,.int .i64 (c:Nat),.bool f4,.slice c4 n4 k4,.slice d4 m4 l4] 58)).heap.size = w4.heap.size + 1:=by simp
 have K5:=K4.bel hb8 (by omega)
 have K25:=K24.bel hb8 (by omega)
 have G1':=(((((G1.fit hz).mono (Nat.zero_le _)).below hk2).kx K25 (by decide)))
 have G2':=(((G2.mono (Nat.zero_le _)).kx K25 (by decide)).le hS1)
 have G4':=((G4.mono (Nat.zero_le _)).below hb8).le hS1
 have TM8:=TM.two (F:=F) RT8 (by omega) G2' G4'
 have EM8:=hE.kx K5 (by decide) (by decide) (by decide)
 have RN8:=RN4.below hb8
 go_wp2_with fail
 clear RT8
 generalize w4.alloc (.cells #[.int .i64 (u:Nat),.bool f2,.slice c2 n2 k2,.slice d2 m2 l2,.int .i64 (c:Nat),.bool f4,.slice c4 n4 k4,.slice d4 m4 l4] 58) = W8 at *
 refine (addEqQ W8 RN8 EM8 (by omega) G1' TM8 hl).mono ?_
 rintro e w9 ⟨rfl,ea',ec',R9,E9,K9⟩
 have KF:=(K5.up (L':=[67,79]) (by simp)).trans K9
 clear RW RN RN4 RN8 ON KN K23 K24 K25 K4 K5 K9 G1 G2 G4 G1' G2' G4' TM8 EM8 hE hr hlo hhi hk1 hk2 hk4 hb1 hb2 hb3
 go_wp2
 go_end0
 exact ⟨rfl,_,_,R9,E9,KF⟩
def LTG (w:World) (ta:Option Addr) (n:Nat) (t:Nat→PT) (S:Nat):Prop:=n = 0∨∃ g,ta = some ⟨g,0,none⟩∧∀ i,i < n→∃ p a na ca d nd cd,w.cell? ⟨g,i * 4,none⟩ = some (.int .i64 (t i).var)∧w.cell? ⟨g,i * 4 + 1,none⟩ = some (.bool p)∧w.cell? ⟨g,i * 4 + 2,none⟩ = some (.slice a na ca)∧w.cell? ⟨g,i * 4 + 3,none⟩ = some (.slice d nd cd)∧GR w 0 p a na ca d nd cd (t i).coef S
theorem LTG.below {w w':World} {ta:Option Addr} {n:Nat} {t:Nat→PT} {S:Nat} (h:LTG w ta n t S) (hb:Below w.heap.size w w'):LTG w' ta n t S:=by
 rcases h with h | ⟨g,e,h⟩
 ·exact .inl h
 ·refine .inr ⟨g,e,fun i hi=>?_⟩
  obtain ⟨p,a,na,ca,d,nd,cd,h1,h2,h3,h4,h5⟩:=h i hi
  exact ⟨p,a,na,ca,d,nd,cd,kept_c hb h1,kept_c hb h2,kept_c hb h3,kept_c hb h4,h5.below hb⟩
theorem rowT_len (V:Nat→PV) (t:Nat→PT):∀ q,(rowT V t q).length≤2 * q
 | 0=>Nat.le_refl _
 | q + 1=>by
  show (rowT V t q ++ spl (V (t q).var.toNat) (clm V (t q).var.toNat) (t q).coef).length≤_
  have:=rowT_len V t q
  have:wid (V (t q).var.toNat)≤2:=by unfold wid;split <;> (try split) <;> omega
  rw [List.length_append,spl_len]
  omega
theorem kept_b {w w':World} {B g o:Nat} {v:Value} (hb:Below B w w') (hg:g < B) (h:w.cell? ⟨g,o,none⟩ = some v):w'.cell? ⟨g,o,none⟩ = some v:=(hb.cell (p:=⟨g,o,none⟩) hg).trans h
set_option maxRecDepth 100000 in
set_option maxHeartbeats 8000000 in
theorem inColQ {R F:Nat} {V:Nat→PV} {vn S S':Nat} {sa:Option Addr} {sc:Nat} {a1' a2' a3' a4' a5' a6' a7':Value} {ta:Option Addr} {nt tc:Nat} {t:Nat→PT} (w:World) (hr:Rw 67 w R #[.slice sa vn sc,a1',a2',a3',a4',a5',a6',a7']) (hs:StQ w R F V vn S' (.slice sa vn sc)) (hL:LTG w ta nt t S) (hv:∀ q,q < nt→0≤(t q).var∧(t q).var < (vn:Int)) (hnt:nt≤1048576) (hS7:S≤7000000) (hS1:1≤S) (hT:TB w) :
  Calls Tryz.prog 61 #[.pointer (some ⟨R,0,none⟩),.slice ta nt tc] w fun e w'=>∃ a m cap,e = .returned (.slice a m cap)∧TM w' w.heap.size (.slice a m cap) (rowT V t nt) S∧Below w.heap.size w w':=by
 have hRw:=hr.lt
 have HVV:Hid (∀ q,q < nt→0≤(t q).var∧(t q).var < (vn:Int)):=hv
 clear hv
 go_enter Tryz.func61,Tryz.ntmps61
 go_wp2_with fail
 go_loopw [5,10] (fun s5 s wr=>∃ (i:Nat) (la:Option Addr) (lm lc:Nat),i≤nt∧s = .int .i64 i∧s5 = .slice la lm lc∧TM wr w.heap.size (.slice la lm lc) (rowT V t i) S∧Below w.heap.size w wr) (fun _ t _=>nt - (intOf t).toNat)
 case atStart=>exact ⟨0,none,0,0,Nat.zero_le _,rfl,rfl,TM.nil _ _ _,Below.refl _ _⟩
 case round =>
  obtain ⟨i,la,lm,lc,hi,rfl,rfl,TMi,hb⟩:=hrel
  by_cases hlt:i < nt
  ·have hkI:(i:Int) < (nt:Int):=by omega
   have hkI2:(i:Int) * 4 = ((i * 4:Nat):Int):=by omega
   have HLM:Hid (lm = (rowT V t i).length):=TMi.len
   have hlm:lm≤2 * i:=by rw [HLM.out];exact rowT_len V t i
   have hvi:=HVV.out i hlt
   obtain ⟨v,ev⟩:∃ v:Nat,v = (t i).var.toNat:=⟨_,rfl⟩
   have hvl:v < vn:=by omega
   have hvI:(v:Int) < (vn:Int):=by omega
   have hv0:¬ (v:Int) < 0:=by omega
   have hkI3:(v:Int) * 5 = ((v * 5:Nat):Int):=by omega
   have hwid:wid (V v)≤2:=by unfold wid;split <;> (try split) <;> omega
   rcases hL.below hb with h00 | ⟨tg,hta,hel⟩
   ·omega
   obtain ⟨p,a,na,ca,d,nd,cd,r0,r1,r2,r3,GC⟩:=hel i hlt
   rw [show (t i).var = (v:Nat) by omega] at r0
   have HEV:Hid (v = (t i).var.toNat):=ev
   have hta':ta = some ⟨tg,0,none⟩:=hta
   clear hta hel ev hvi
   have BU:=box_new wr #[.int .i64 (v:Nat),.bool p,.slice a na ca,.slice d nd cd] 58
   have hz:=bel_d0 wr (.cells #[.int .i64 (v:Nat),.bool p,.slice a na ca,.slice d nd cd] 58)
   have hsW:(wr.alloc (.cells #[.int .i64 (v:Nat),.bool p,.slice a na ca,.slice d nd cd] 58)).heap.size = wr.heap.size + 1:=by simp
   have hsw:=hb.size
   obtain ⟨g,c0,c1,c2,c3,c4,hsa,SC,_,_,_,_,_,_,t4⟩:=hs.at hvl
   have hgw:=World.block_lt_of_cell? _ _ t4
   obtain ⟨E,SLU,TE⟩:=TMi
   rw [← HLM.out] at SLU
   have hbF:(.slice la lm lc:Value).ownBlock ≠ some wr.heap.size:=fun e=>by have:=(SLU.lt _ e).2;omega
   have RU:=(hr.below hb).below hz
   rw [hsa] at RU
   replace SC:=(SC.below hb).below hz
   have SLU2:=SLU.below hz
   have hT2:=(hT.below hb).below hz
   have r4:=kept_c hz (kept_c hb t4)
   replace GC:=GC.below hz
   have hb2:=bel_tr hb hz
   have hzz:=hz
   go_wp2_with fail
   clear r0 r1 r2 r3 hz t4
   have SLU:=SLU2
   have fR:=(RU.cell 0).trans (show _ = some (.slice (some ⟨g,0,none⟩) vn sc) from rfl)
   generalize wr.alloc (.cells #[.int .i64 (v:Nat),.bool p,.slice a na ca,.slice d nd cd] 58) = W2 at *
   have HBX:∀ w',Below W2.heap.size W2 w'→(w'.cell? ⟨R,0,none⟩ = some (.slice (some ⟨g,0,none⟩) vn sc)∧w'.cell? ⟨wr.heap.size,0,none⟩ = some (.int .i64 (v:Nat))∧w'.cell? ⟨wr.heap.size,1,none⟩ = some (.bool p)∧w'.cell? ⟨wr.heap.size,2,none⟩ = some (.slice a na ca)∧w'.cell? ⟨wr.heap.size,3,none⟩ = some (.slice d nd cd)∧w'.cell? ⟨g,v * 5 + 4,none⟩ = some (c4)):=fun w' h=>⟨kept_c h fR,kept_c h (BU 0 _ rfl),kept_c h (BU 1 _ rfl),kept_c h (BU 2 _ rfl),kept_c h (BU 3 _ rfl),kept_c h r4⟩
   refine wp_region_noPanic (wp_region_guardT 14 HBX (by as_aux_lemma=>kernel_rfl) ?_)
   have hc0:Below W2.heap.size W2 W2.drew:=bel_d1 _
   generalize W2.drew = z0 at *
   refine wpAnyG.tT 0 (v:=.slice la lm lc) (by decide) 14 (by as_aux_lemma=>kernel_rfl) (by rfl) ?y0 (HBX _ hc0) ?_
   case y0 =>
    rintro w' ⟨q0,q1,q2,q3,q4,q5⟩
    simp only [lgA,lgZ]
    go_simp
   simp only [lgA,lgZ,Act.put,lsA,lsZ,lsS]
   refine wpAnyG.tT 1 (v:=.pointer (some ⟨R,0,none⟩)) (by decide) 14 (by as_aux_lemma=>kernel_rfl) (by rfl) ?y1 (HBX _ hc0) ?_
   case y1 =>
    rintro w' ⟨q0,q1,q2,q3,q4,q5⟩
    simp only [lgA,lgZ,lgS]
    go_simp
   simp only [lgA,lgZ,lgS,Act.put,lsA,lsZ,lsS]
   refine wpAnyG.tT 2 (v:=.pointer (some ⟨R,0,none⟩)) (by decide) 14 (by as_aux_lemma=>kernel_rfl) (by rfl) ?y2 (HBX _ hc0) ?_
   case y2 =>
    rintro w' ⟨q0,q1,q2,q3,q4,q5⟩
    simp only [lgA,lgZ,lgS]
    go_simp
   simp only [lgA,lgZ,lgS,Act.put,lsA,lsZ,lsS]
   refine wpAnyG.tT 3 (v:=.pointer (some ⟨R,0,none⟩)) (by decide) 14 (by as_aux_lemma=>kernel_rfl) (by rfl) ?y3 (HBX _ hc0) ?_
   case y3 =>
    rintro w' ⟨q0,q1,q2,q3,q4,q5⟩
    simp only [lgA,lgZ,lgS]
    go_simp
   simp only [lgA,lgZ,lgS,Act.put,lsA,lsZ,lsS]
   refine wpAnyG.tT 4 (v:=.slice (some ⟨g,0,none⟩) vn sc) (by decide) 14 (by as_aux_lemma=>kernel_rfl) (by rfl) ?y4 (HBX _ hc0) ?_
   case y4 =>
    rintro w' ⟨q0,q1,q2,q3,q4,q5⟩
    simp only [lgA,lgZ,lgS]
    go_simp
   simp only [lgA,lgZ,lgS,Act.put,lsA,lsZ,lsS]
   refine wpAnyG.tT 5 (v:=.pointer (some ⟨wr.heap.size,0,none⟩)) (by decide) 14 (by as_aux_lemma=>kernel_rfl) (by rfl) ?y5 (HBX _ hc0) ?_
   case y5 =>
    rintro w' ⟨q0,q1,q2,q3,q4,q5⟩
    simp only [lgA,lgZ,lgS]
    go_simp
   simp only [lgA,lgZ,lgS,Act.put,lsA,lsZ,lsS]
   refine wpAnyG.tT 6 (v:=.int .i64 (v:Nat)) (by decide) 14 (by as_aux_lemma=>kernel_rfl) (by rfl) ?y6 (HBX _ hc0) ?_
   case y6 =>
    rintro w' ⟨q0,q1,q2,q3,q4,q5⟩
    simp only [lgA,lgZ,lgS]
    go_simp
   simp only [lgA,lgZ,lgS,Act.put,lsA,lsZ,lsS]
   refine wpAnyG.tT 7 (v:=.pointer (some ⟨g,v * 5,none⟩)) (by decide) 14 (by as_aux_lemma=>kernel_rfl) (by rfl) ?y7 (HBX _ hc0) ?_
   case y7 =>
    rintro w' ⟨q0,q1,q2,q3,q4,q5⟩
    simp only [lgA,lgZ,lgS]
    go_simp
   simp only [lgA,lgZ,lgS,Act.put,lsA,lsZ,lsS]
   refine wpAnyG.tT 8 (v:=.pointer (some ⟨g,v * 5 + 4,none⟩)) (by decide) 14 (by as_aux_lemma=>kernel_rfl) (by rfl) ?y8 (HBX _ hc0) ?_
   case y8 =>
    rintro w' ⟨q0,q1,q2,q3,q4,q5⟩
    simp only [lgA,lgZ,lgS]
    go_simp
   simp only [lgA,lgZ,lgS,Act.put,lsA,lsZ,lsS]
   refine wpAnyG.tT 9 (v:=c4) (by decide) 14 (by as_aux_lemma=>kernel_rfl) (by rfl) ?y9 (HBX _ hc0) ?_
   case y9 =>
    rintro w' ⟨q0,q1,q2,q3,q4,q5⟩
    simp only [lgA,lgZ,lgS]
    go_simp
   simp only [lgA,lgZ,lgS,Act.put,lsA,lsZ,lsS]
   refine wpAnyG.tT 10 (v:=.pointer (some ⟨wr.heap.size,1,none⟩)) (by decide) 14 (by as_aux_lemma=>kernel_rfl) (by rfl) ?y10 (HBX _ hc0) ?_
   case y10 =>
    rintro w' ⟨q0,q1,q2,q3,q4,q5⟩
    simp only [lgA,lgZ,lgS]
    go_simp
   simp only [lgA,lgZ,lgS,Act.put,lsA,lsZ,lsS]
   refine wpAnyG.tT 11 (v:=.agg #[.bool p,.slice a na ca,.slice d nd cd]) (by decide) 14 (by as_aux_lemma=>kernel_rfl) (by rfl) ?y11 (HBX _ hc0) ?_
   case y11 =>
    rintro w' ⟨q0,q1,q2,q3,q4,q5⟩
    simp only [lgA,lgZ,lgS]
    go_simp
   simp only [lgA,lgZ,lgS,Act.put,lsA,lsZ,lsS]
   refine wpAnyG.one 12 (by as_aux_lemma=>kernel_rfl) (by decide) (by rfl) (fun K hK=>?_)
   simp only [lgA,lgZ,lgS]
   refine wp_split _ _ _ rfl (SC.below hc0) rfl rfl rfl (GC.below hc0) hS7 hS1 (hT2.below hc0) ?_
   intro z2 h SPh hk2
   have hc2:Below W2.heap.size W2 z2:=bel_tr hc0 hk2
   refine hK _ _ ⟨fun _=>HBX _ hc2,fun _=>trivial⟩ ?_
   clear hK K
   refine wpAnyG.one 13 (by as_aux_lemma=>kernel_rfl) (by decide) (by rfl) (fun K hK=>?_)
   simp only [lgA,lgZ,lgS]
   obtain ⟨hl,hq,cs,D,hcs,hD,h1s,hbox,hTC⟩:=SPh
   have SLZ:=SLU.below hc2
   have hs2:=hc2.size
   refine wp_appendK z2 _ _ 59 58 4 64 (wid (V v)) rfl Tryz.underlying59 infTerm (by decide) (by decide) hq w.heap.size (.slice la lm lc) lm E rfl SLZ h _ rfl D cs hcs hD h1s hbox (by omega) (by omega) _ rfl ?_
   intro g6 cap6 w6 SN hg hat hgl
   have hB6:Below w.heap.size z2 w6:=grown_below hg (by omega) (fun k e=>(SLZ.lt k e).1)
   refine hK _ _ ⟨fun h=>(by exact ⟨kept_b hB6 hRw ((kept_c hc2 fR)),(World.cell?_of_block (w:=z2) (hg.block wr.heap.size (by omega) (fun e=>hbF e.symm))).trans (kept_c hc2 (BU 0 _ rfl)),(World.cell?_of_block (w:=z2) (hg.block wr.heap.size (by omega) (fun e=>hbF e.symm))).trans (kept_c hc2 (BU 1 _ rfl)),(World.cell?_of_block (w:=z2) (hg.block wr.heap.size (by omega) (fun e=>hbF e.symm))).trans (kept_c hc2 (BU 2 _ rfl)),(World.cell?_of_block (w:=z2) (hg.block wr.heap.size (by omega) (fun e=>hbF e.symm))).trans (kept_c hc2 (BU 3 _ rfl)),kept_b hB6 hgw (kept_c hc2 r4)⟩),fun _=>trivial⟩ ?_
   clear hK K
   refine wpAnyG.one 14 (by as_aux_lemma=>kernel_rfl) (by decide) (by rfl) (fun K hK=>?_)
   simp only [lgA,lgZ,lgS]
   go_simp
   refine hK _ _ ⟨fun h=>absurd h (by decide),fun _=>trivial⟩ ?_
   clear hK K
   refine wpAnyG.done (by as_aux_lemma=>kernel_rfl) (NoPanic.normal ?_)
   have hbN:Below w.heap.size w w6:=(bel_tr hb2 hc2).trans hB6
   have KG:=(Kx.refl 0 0 [58] z2).grown SLZ (by simp) (Nat.zero_le _) (Nat.zero_le _) hg
   have KW:Kx 0 0 [58] wr w6:=(kx_of (R:=0) (F:=0) (L:=[58]) (Below.refl _ wr) (Nat.zero_le _)).bel hzz (Nat.zero_le _) |>.bel hc2 (Nat.zero_le _) |>.trans KG
   have TMN:TM w6 w.heap.size (.slice (some ⟨g6,0,none⟩) (lm + wid (V v)) cap6) (rowT V t (i + 1)) S:=by
    refine TM.app' (m:=lm) (q:=wid (V v)) HLM.out (by rw [spl_len,HEV.out]) SN (fun k t ht=>(TE k t ht).kx KW (by decide)) (fun k t ht=>?_)
    rw [← HEV.out] at ht
    exact (hTC k t ht).kx KG (by decide)
   clear KG KW SN hg hat hgl SLZ hbox hTC hD h1s hcs hl hq HBX hc0 hc2 hk2 SLU SLU2 BU RU SC TE hs2 r4 fR hB6
   try rw [← hta']
   clear hta'
   go_wp2
   go_roundw
   case rel=>first | exact ⟨i + 1,_,_,_,by omega,by go_num,rfl,TMN,hbN⟩ | ((repeat apply Exists.intro);refine ⟨?_,rfl⟩;exact ⟨i + 1,_,_,_,by omega,by go_num,rfl,TMN,hbN⟩)
   case measure=>simp [intOf];omega
  ·have hkI:¬ (i:Int) < (nt:Int):=by omega
   obtain rfl:i = nt:=by omega
   go_wp2
   go_ret
   exact ⟨_,_,_,rfl,TMi,hb⟩
end Go.Proofs.YtlfobaanbmfafaaGreatDoor

import Derived.Test.YtmeimjakdheidaaGreatDoorShD
import Derived.Test.YtmeimjakdheidaaGreatDoorPsABll
namespace Go.Proofs.YtmeimjakdheidaaGreatDoor
open Go.RowKit
def StQ (w:World) (R F:Nat) (V:Nat→PV) (n S:Nat) (v:Value):Prop:=∃ E,SL w R 70 5 v n E∧∀ i,i<n→StC w R F (V i) (clm V i) S (E i)
theorem StQ.kxh {w w':World} {R F R' F':Nat} {L:List TypeId} {V:Nat→PV} {n S:Nat} {v:Value} (h:StQ w R F V n S v) (k:Kx R' F' L w w') (hL:118 ∉ L) (hL2:27 ∉ L) (hL3:3 ∉ L) (hL4:70 ∉ L):StQ w' R F V n S v:=by
 obtain ⟨E,h1,h2⟩:=h
 exact ⟨E,h1.kxh k hL4,fun i hi=>(h2 i hi).kxh k hL hL2 hL3⟩
theorem StQ.below {w w':World} {R F:Nat} {V:Nat→PV} {n S:Nat} {v:Value} (h:StQ w R F V n S v) (hb:Below w.heap.size w w'):StQ w' R F V n S v:=by
 obtain ⟨E,h1,h2⟩:=h
 exact ⟨E,h1.below hb,fun i hi=>(h2 i hi).below hb⟩
theorem StQ.snoc {w w':World} {R F F':Nat} {V:Nat→PV} {n S:Nat} {v':Value} {L:List TypeId} {R' F2:Nat} {cs:List Value} {E:Nat→List Value} (h:∀ i,i<n→StC w R F (V i) (clm V i) S (E i)) (k:Kx R' F2 L w w') (hL:118 ∉ L) (hL2:27 ∉ L) (hL3:3 ∉ L) (hF:F≤F')
 (hs:SL w' R 70 5 v' (n+1) (fun i=>if i<n then E i else cs)) (hc:StC w' R F' (V n) (clm V n) S cs):StQ w' R F' V (n+1) S v':=by
 refine ⟨_,hs,fun i hi=>?_⟩
 by_cases e:i<n
 ·simp only [e,if_true]
  exact ((h i e).kxh k hL hL2 hL3).up hF
 ·obtain rfl:i=n:=by omega
  simp only [e,if_false]
  exact hc
theorem BoxC.off {w w':World} {R Q:Nat} {cs:List Value} (h:BoxC w Q cs) (o:Off R w w') (hq:Q≠R):BoxC w' Q cs:=fun i u hu=>(World.cell?_of_block (w:=w) (o.block Q hq)).trans (h i u hu)
set_option maxRecDepth 100000 in
set_option maxHeartbeats 16000000 in
theorem addStepsQ {va:Option Addr} {vn vc:Nat} {V:Nat→PV} {S R:Nat} {a1' a2' a3' a4' a5' a7':Value} (w0 w:World) (hV:LG w0 va vn V S) (hb0:Below w0.heap.size w0 w) (hR0:w0.heap.size≤R) (hr:Rw 61 w R #[.slice none 0 0,a1',a2',a3',a4',a5',.int .i64 0,a7']) (hvn:vn≤1048576) :
 Calls Tryz.prog 17 #[.pointer (some ⟨R,0,none⟩),.slice va vn vc] w fun e w'=>e = .returned (.tuple #[])∧∃ sv,Rw 61 w' R #[sv,a1',a2',a3',a4',a5',.int .i64 (clm V vn:Nat),a7']∧StQ w' R w'.heap.size V vn S sv∧Kx R R [61,70] w w':=by
 go_enter Tryz.func17,Tryz.ntmps17
 go_wp2_with fail
 go_loopw [8] (fun s wr=>∃ (j:Nat) (sa:Option Addr) (sc:Nat),j≤vn∧s = .int .i64 j∧Rw 61 wr R #[.slice sa j sc,a1',a2',a3',a4',a5',.int .i64 (clm V j:Nat),a7']∧StQ wr R wr.heap.size V j S (.slice sa j sc)∧Kx R R [61,70] w wr) (fun t _=>vn-(intOf t).toNat)
 case atStart=>exact ⟨0,none,0,Nat.zero_le _,rfl,hr,⟨fun _=>[],SL.nil _ _ _ _ _,fun i hi=>by omega⟩,Kx.refl _ _ _ _⟩
 case round =>
  clear hr
  obtain ⟨j,sa,sc,hj,rfl,RW,SQ,KU⟩:=hrel
  by_cases hlt:j<vn
  ·have hkI:(j:Int)<(vn:Int):=by omega
   have hkI2:(j:Int)*13=((j*13:Nat):Int):=by omega
   have hclb:clm V j≤2*j:=sZ V j
   obtain ⟨c,ec⟩:∃ c,c=clm V j:=⟨_,rfl⟩
   rw [← ec] at RW hclb
   have HC:Hid (c=clm V j):=ec
   clear ec
   have hRw:=RW.lt
   have hbw:Below w0.heap.size w0 wr:=hb0.trans ((KU.below (Nat.le_refl R)).mono hR0)
   rcases hV.below hbw with h00|⟨vg,hva,hev⟩
   ·omega
   obtain ⟨p1,a1,n1,k1,d1,m1,l1,p2,a2,n2,k2,d2,m2,l2,p3,a3,n3,k3,d3,m3,l3,hc13,GV1,GV2,GV3⟩:=hev j hlt
   obtain ⟨nm,enm⟩:∃ nm,nm=(V j).nm:=⟨_,rfl⟩
   obtain ⟨hl,ehl⟩:∃ hl,hl=(V j).hlo:=⟨_,rfl⟩
   obtain ⟨hh,ehh⟩:∃ hh,hh=(V j).hhi:=⟨_,rfl⟩
   obtain ⟨wh,ewh⟩:∃ wh,wh=(V j).whole:=⟨_,rfl⟩
   rw [← enm,← ehl,← ehh,← ewh] at hc13
   have r0:=hc13 0 _ rfl;have r1:=hc13 1 _ rfl;have r2:=hc13 2 _ rfl;have r3:=hc13 3 _ rfl;have r4:=hc13 4 _ rfl;have r5:=hc13 5 _ rfl;have r6:=hc13 6 _ rfl;have r7:=hc13 7 _ rfl;have r8:=hc13 8 _ rfl;have r9:=hc13 9 _ rfl;have r10:=hc13 10 _ rfl;have r11:=hc13 11 _ rfl;have r12:=hc13 12 _ rfl
   have HE:Hid (hl=(V j).hlo∧hh=(V j).hhi):=⟨ehl,ehh⟩
   clear hc13 hev enm ehl ehh ewh
   have hva':va=some ⟨vg,0,none⟩:=hva
   clear hva
   rw [Nat.add_zero] at r0
   have N:=aQ wr #[.string nm,.bool p1,.slice a1 n1 k1,.slice d1 m1 l1,.bool hl,.bool p2,.slice a2 n2 k2,.slice d2 m2 l2,.bool hh,.bool p3,.slice a3 n3 k3,.slice d3 m3 l3,.bool wh] 50
   have n0':=N 0 _ rfl;have n1':=N 1 _ rfl;have n2':=N 2 _ rfl;have n3':=N 3 _ rfl;have n4':=N 4 _ rfl;have n5':=N 5 _ rfl;have n6':=N 6 _ rfl;have n7':=N 7 _ rfl;have n8':=N 8 _ rfl;have n9':=N 9 _ rfl;have n10':=N 10 _ rfl;have n11':=N 11 _ rfl;have n12':=N 12 _ rfl
   obtain ⟨E,SLU,SU⟩:=SQ
   have hz:=aI wr (.cells #[.string nm,.bool p1,.slice a1 n1 k1,.slice d1 m1 l1,.bool hl,.bool p2,.slice a2 n2 k2,.slice d2 m2 l2,.bool hh,.bool p3,.slice a3 n3 k3,.slice d3 m3 l3,.bool wh] 50)
   have RU:=RW.below hz
   have BU:=N
   have KU2:=dU (R:=R) (F:=R) (L:=[61,70]) hz (by omega)
   replace KU:=KU.trans KU2
   replace SLU:=SLU.below hz
   replace GV1:=GV1.below hz
   replace GV2:=GV2.below hz
   replace GV3:=GV3.below hz
   have SLBV:(.slice sa j sc:Value).ownBlock≠some wr.heap.size:=fun e=>by
    have h1:=SLU.neR (Rw.new 50 wr #[.string nm,.bool p1,.slice a1 n1 k1,.slice d1 m1 l1,.bool hl,.bool p2,.slice a2 n2 k2,.slice d2 m2 l2,.bool hh,.bool p3,.slice a3 n3 k3,.slice d3 m3 l3,.bool wh]) (by decide)
    exact h1 e
   have hsW:(wr.alloc (.cells #[.string nm,.bool p1,.slice a1 n1 k1,.slice d1 m1 l1,.bool hl,.bool p2,.slice a2 n2 k2,.slice d2 m2 l2,.bool hh,.bool p3,.slice a3 n3 k3,.slice d3 m3 l3,.bool wh] 50)).heap.size=wr.heap.size+1:=by simp
   cases hl
   ·cases hh
    ·go_wp2_with fail
     have hv:(V j).hlo=false:=HE.out.1.symm
     have hv':(V j).hhi=false:=HE.out.2.symm
     clear r0 n0' r1 n1' r2 n2' r3 n3' r4 n4' r5 n5' r6 n6' r7 n7' r8 n8' r9 n9' r10 n10' r11 n11' r12 n12' RW N hz
     generalize wr.alloc (.cells #[.string nm,.bool p1,.slice a1 n1 k1,.slice d1 m1 l1,.bool false,.bool p2,.slice a2 n2 k2,.slice d2 m2 l2,.bool false,.bool p3,.slice a3 n3 k3,.slice d3 m3 l3,.bool wh] 50)=W2 at *
     have RZ0:=RU.below (aK W2)
     have BZ0:=BU.below (aK W2)
     have KZ0:=dU (R:=R) (F:=R) (L:=[61]) (aK W2) (by omega)
     have hs0:W2.heap.size≤W2.drew.heap.size:=(aK W2).size
     have hcF:(W2.drew.cell? ⟨R,0,none⟩=some (.slice sa j sc)):=(RZ0.cell 0).trans rfl
     have HF0:=hcF
     clear hcF
     refine wp_region_noPanic (bI (Till 12 12 (fun w'=>w'.cell? ⟨R,0,none⟩=some (.slice sa j sc)) (fun _=>True)) (by as_aux_lemma=>kernel_rfl) ?_)
     have hc0:(W2.drew.cell? ⟨R,0,none⟩=some (.slice sa j sc)):=HF0
     generalize W2.drew=z0 at *
     refine wpAnyG.take 0 (v:=.pointer (some ⟨R,0,none⟩)) (by decide) (by as_aux_lemma=>kernel_rfl) (fun _ _ _ h=>h) 12 _ (by rfl) (aP (by decide) (by decide)) (fun L w' h1 h2=>h2.1 h1) (by as_aux_lemma=>kernel_rfl) (by as_aux_lemma=>kernel_rfl) (by as_aux_lemma=>kernel_rfl) (by rfl) ?y0 ⟨fun _=>(fun _ h=>h) _ hc0,fun _=>trivial⟩ (by rfl) ?_
     case y0 =>
      rintro w' q0
      simp only [lgA,lgZ]
      go_simp
     simp only [lgA,lgZ,Act.put,lsA,lsZ,lsS]
     refine wpAnyG.take 1 (v:=.pointer (some ⟨R,0,none⟩)) (by decide) (by as_aux_lemma=>kernel_rfl) (fun _ _ _ h=>h) 12 _ (by rfl) (aP (by decide) (by decide)) (fun L w' h1 h2=>h2.1 h1) (by as_aux_lemma=>kernel_rfl) (by as_aux_lemma=>kernel_rfl) (by as_aux_lemma=>kernel_rfl) (by rfl) ?y1 ⟨fun _=>(fun _ h=>h) _ hc0,fun _=>trivial⟩ (by rfl) ?_
     case y1 =>
      rintro w' q0
      simp only [lgA,lgZ,lgS]
      go_simp
     simp only [lgA,lgZ,lgS,Act.put,lsA,lsZ,lsS]
     refine wpAnyG.take 2 (v:=.pointer (some ⟨R,0,none⟩)) (by decide) (by as_aux_lemma=>kernel_rfl) (fun _ _ _ h=>h) 12 _ (by rfl) (aP (by decide) (by decide)) (fun L w' h1 h2=>h2.1 h1) (by as_aux_lemma=>kernel_rfl) (by as_aux_lemma=>kernel_rfl) (by as_aux_lemma=>kernel_rfl) (by rfl) ?y2 ⟨fun _=>(fun _ h=>h) _ hc0,fun _=>trivial⟩ (by rfl) ?_
     case y2 =>
      rintro w' q0
      simp only [lgA,lgZ,lgS]
      go_simp
     simp only [lgA,lgZ,lgS,Act.put,lsA,lsZ,lsS]
     refine wpAnyG.take 3 (v:=.pointer (some ⟨R,0,none⟩)) (by decide) (by as_aux_lemma=>kernel_rfl) (fun _ _ _ h=>h) 12 _ (by rfl) (aP (by decide) (by decide)) (fun L w' h1 h2=>h2.1 h1) (by as_aux_lemma=>kernel_rfl) (by as_aux_lemma=>kernel_rfl) (by as_aux_lemma=>kernel_rfl) (by rfl) ?y3 ⟨fun _=>(fun _ h=>h) _ hc0,fun _=>trivial⟩ (by rfl) ?_
     case y3 =>
      rintro w' q0
      simp only [lgA,lgZ,lgS]
      go_simp
     simp only [lgA,lgZ,lgS,Act.put,lsA,lsZ,lsS]
     refine wpAnyG.take 4 (v:=.slice sa j sc) (by decide) (by as_aux_lemma=>kernel_rfl) (fun _ _ _ h=>h) 12 _ (by rfl) (aP (by decide) (by decide)) (fun L w' h1 h2=>h2.1 h1) (by as_aux_lemma=>kernel_rfl) (by as_aux_lemma=>kernel_rfl) (by as_aux_lemma=>kernel_rfl) (by rfl) ?y4 ⟨fun _=>(fun _ h=>h) _ hc0,fun _=>trivial⟩ (by rfl) ?_
     case y4 =>
      rintro w' q0
      simp only [lgA,lgZ,lgS]
      go_simp
     simp only [lgA,lgZ,lgS,Act.put,lsA,lsZ,lsS]
     refine wpAnyG.take 5 (v:=.pointer (some ⟨R,0,none⟩)) (by decide) (by as_aux_lemma=>kernel_rfl) (fun _ _ _ h=>h) 12 _ (by rfl) (aP (by decide) (by decide)) (fun L w' h1 h2=>h2.1 h1) (by as_aux_lemma=>kernel_rfl) (by as_aux_lemma=>kernel_rfl) (by as_aux_lemma=>kernel_rfl) (by rfl) ?y5 ⟨fun _=>(fun _ h=>h) _ hc0,fun _=>trivial⟩ (by rfl) ?_
     case y5 =>
      rintro w' q0
      simp only [lgA,lgZ,lgS]
      go_simp
     simp only [lgA,lgZ,lgS,Act.put,lsA,lsZ,lsS]
     refine wpAnyG.take 7 (v:=.pointer (some ⟨R,0,none⟩)) (by decide) (by as_aux_lemma=>kernel_rfl) (fun _ _ _ h=>h) 12 _ (by rfl) (aP (by decide) (by decide)) (fun L w' h1 h2=>h2.1 h1) (by as_aux_lemma=>kernel_rfl) (by as_aux_lemma=>kernel_rfl) (by as_aux_lemma=>kernel_rfl) (by rfl) ?y7 ⟨fun _=>(fun _ h=>h) _ hc0,fun _=>trivial⟩ (by rfl) ?_
     case y7 =>
      rintro w' q0
      simp only [lgA,lgZ,lgS]
      go_simp
     simp only [lgA,lgZ,lgS,Act.put,lsA,lsZ,lsS]
     refine wpAnyG.one 6 (by as_aux_lemma=>kernel_rfl) (by decide) (by rfl) (fun K hK=>?_)
     simp only [lgA,lgZ,lgS]
     go_simp
     refine (lN z0 RZ0 (by omega)).mono ?_
     rintro e z1 ⟨rfl,RZ1,ON1⟩
     have BZ1:=BZ0.off ON1 (by omega)
     have KZ1:=KZ0.off RZ0 (by simp) ON1
     have hs1:z1.heap.size=z0.heap.size:=ON1.size
     have hcF:(z1.cell? ⟨R,0,none⟩=some (.slice sa j sc)):=(RZ1.cell 0).trans rfl
     have hc1:=hcF
     clear hcF
     obtain ⟨m,em⟩:∃ m,m=c+1:=⟨_,rfl⟩
     rw [← em] at RZ1
     have HM:Hid (m=c+1):=em
     have hmb:m≤1000000000:=by omega
     clear em
     dsimp only
     refine hK _ _ ⟨fun _=>(fun _ h=>h) _ hc1,fun _=>trivial⟩ ?_
     clear hK K
     refine wpAnyG.one 8 (by as_aux_lemma=>kernel_rfl) (by decide) (by rfl) (fun K hK=>?_)
     simp only [lgA,lgZ,lgS]
     go_simp
     refine (lN z1 RZ1 hmb).mono ?_
     rintro e z2 ⟨rfl,RZ2,ON2⟩
     have BZ2:=BZ1.off ON2 (by omega)
     have KZ2:=KZ1.off RZ1 (by simp) ON2
     have hs2:z2.heap.size=z1.heap.size:=ON2.size
     have hcF:(z2.cell? ⟨R,0,none⟩=some (.slice sa j sc)):=(RZ2.cell 0).trans rfl
     have hc2:=hcF
     clear hcF
     dsimp only
     refine hK _ _ ⟨fun _=>(fun _ h=>h) _ hc2,fun _=>trivial⟩ ?_
     clear hK K
     refine wpAnyG.one 9 (by as_aux_lemma=>kernel_rfl) (by decide) (by rfl) (fun K hK=>?_)
     simp only [lgA,lgZ,lgS]
     go_simp
     refine (frF (R:=R) (S:=S) (V j) c m z2 HM.out hv hv' (by omega)).mono ?_
     rintro e z3 ⟨s0,s1,s2,s3,s4,rfl,⟨o0,o1,o2,o3,o4⟩,SC,hk3⟩
     have BZ3:=BZ2.below hk3
     have RZ3:=RZ2.below hk3
     have KZ3:=KZ2.bel hk3 (by omega)
     have hs3:=hk3.size
     have hcF:(z3.cell? ⟨R,0,none⟩=some (.slice sa j sc)):=(RZ3.cell 0).trans rfl
     have hc3:=hcF
     clear hcF
     dsimp only
     refine hK _ _ ⟨fun _=>(fun _ h=>h) _ hc3,fun _=>trivial⟩ ?_
     clear hK K
     refine wpAnyG.one 10 (by as_aux_lemma=>kernel_rfl) (by decide) (by rfl) (fun K hK=>?_)
     simp only [lgA,lgZ,lgS]
     go_simp
     have KZ4:=KZ3.bel (aI z3 (.cells #[s0,s1,s2,s3,s4] 70)) (by omega)
     have RZ4:=RZ3.below (aI z3 (.cells #[s0,s1,s2,s3,s4] 70))
     have BZ4:=BZ3.below (aI z3 (.cells #[s0,s1,s2,s3,s4] 70))
     have BX:=aQ z3 #[s0,s1,s2,s3,s4] 70
     have hs4:(z3.alloc (.cells #[s0,s1,s2,s3,s4] 70)).heap.size=z3.heap.size+1:=by simp
     have SC4:=SC.below (aI z3 (.cells #[s0,s1,s2,s3,s4] 70))
     have hcF:((z3.alloc (.cells #[s0,s1,s2,s3,s4] 70)).cell? ⟨R,0,none⟩=some (.slice sa j sc)):=(RZ4.cell 0).trans rfl
     generalize z3.alloc (.cells #[s0,s1,s2,s3,s4] 70)=z5 at *
     refine hK _ _ ⟨fun _=>hcF,fun _=>trivial⟩ ?_
     clear hcF
     clear hK K
     refine wpAnyG.one 11 (by as_aux_lemma=>kernel_rfl) (by decide) (by rfl) (fun K hK=>?_)
     simp only [lgA,lgZ,lgS]
     have SLZ:=SLU.kxh KZ4 (by decide)
     refine dM z5 _ _ 57 70 5 40 rfl Tryz.underlying57 wY (by decide) (by decide) R (.slice sa j sc) j E rfl SLZ z3.heap.size 1 rfl [s0,s1,s2,s3,s4] rfl (fun u hu=>by simp at hu;rcases hu with rfl|rfl|rfl|rfl|rfl <;> assumption) BX (by omega) (by omega) _ rfl ?_
     intro g cap w6 SN hg hat hgl
     have hne:(.slice sa j sc:Value).ownBlock≠some R:=SLZ.neR RZ4 (by decide)
     have RZ6:=RZ4.kept hg hne
     have KZ6:=(KZ4.up (L':=[61,70]) (by simp)).grown SLZ (by simp) (Nat.le_refl R) (by omega) hg
     have e0:=(RZ6.cell 0).trans (show _=some (.slice sa j sc) from rfl)
     have e1:=RZ6.frozen 0
     refine hK _ _ ⟨fun _=>?_,fun _=>trivial⟩ ?_
     ·exact e0
     clear hK K
     refine wpAnyG.one 12 (by as_aux_lemma=>kernel_rfl) (by decide) (by rfl) (fun K hK=>?_)
     simp only [lgA,lgZ,lgS]
     go_simp
     refine hK _ _ ⟨fun h=>absurd h (by decide),fun _=>trivial⟩ ?_
     clear hK K
     refine wpAnyG.one 13 (by as_aux_lemma=>kernel_rfl) (by decide) (by rfl) (fun K hK=>?_)
     simp only [lgA,lgZ,lgS]
     go_simp
     refine hK _ _ ⟨fun h=>absurd h (by decide),fun _=>trivial⟩ ?_
     clear hK K
     refine wpAnyG.one 14 (by as_aux_lemma=>kernel_rfl) (by decide) (by rfl) (fun K hK=>?_)
     simp only [lgA,lgZ,lgS]
     go_simp
     refine hK _ _ ⟨fun h=>absurd h (by decide),fun _=>trivial⟩ ?_
     clear hK K
     refine wpAnyG.done (by as_aux_lemma=>kernel_rfl) (NoPanic.normal ?_)
     obtain ⟨RN,ON⟩:=RZ6.set 0 (.slice (some ⟨g,0,none⟩) (j+1) cap)
     replace RN:Rw 61 (w6.setCell ⟨R,0,none⟩ (.slice (some ⟨g,0,none⟩) (j+1) cap)) R #[.slice (some ⟨g,0,none⟩) (j+1) cap,a1',a2',a3',a4',a5',.int .i64 ((m+1:Nat):Int),a7']:=by simpa using RN
     have KN:=KZ6.off RZ6 (by simp) ON
     have KT:=KU.trans KN
     have SNN:=SN.kxh ((Kx.refl R R [61] w6).off RZ6 (by simp) ON) (by decide)
     have hsz:w6.heap.size=(w6.setCell ⟨R,0,none⟩ (.slice (some ⟨g,0,none⟩) (j+1) cap)).heap.size:=ON.size.symm
     have KM:=((Kx.refl R R [61,70] z5).grown SLZ (by simp) (Nat.le_refl R) (by omega) hg).off RZ6 (by simp) ON
     have SCN:=(SC4.kxh KM (by decide) (by decide) (by decide)).up (F':=(w6.setCell ⟨R,0,none⟩ (.slice (some ⟨g,0,none⟩) (j+1) cap)).heap.size) (by rw [← hsz];have:=hg.size;omega)
     have hcl:clm V (j+1)=m+1:=by
      have:=HM.out;have:=HC.out
      show clm V j+wid (V j)=_
      rw [show wid (V j)=2 by unfold wid;simp only [hv,hv',if_false,Bool.false_eq_true]]
      omega
     rw [HC.out] at SCN
     have SF:=StQ.snoc (F':=(w6.setCell ⟨R,0,none⟩ (.slice (some ⟨g,0,none⟩) (j+1) cap)).heap.size) SU (KU2.trans KN) (by decide) (by decide) (by decide) (by rw [← hsz];have:=hg.size;omega) SNN SCN
     have hbig:wr.heap.size+1≤(w6.setCell ⟨R,0,none⟩ (.slice (some ⟨g,0,none⟩) (j+1) cap)).heap.size:=by rw [← hsz];have:=hg.size;omega
     rw [← hcl] at RN
     clear BU BX BZ0 BZ1 BZ2 BZ3 BZ4 GV1 GV2 GV3 HF0 KM KN KU KU2 KZ0 KZ1 KZ2 KZ3 KZ4 KZ6 ON ON1 ON2 RU RZ0 RZ1 RZ2 RZ3 RZ4 RZ6 SC SC4 SCN SLBV SLU SLZ SN SNN SU e0 e1 hat hc0 hc1 hc2 hc3 hg hgl hne hs0 hs1 hs2 hs3 hs4 o0 o1 o2 o3 o4
     generalize w6.setCell ⟨R,0,none⟩ (.slice (some ⟨g,0,none⟩) (j+1) cap)=w7 at *
     try rw [← hva']
     clear hva'
     go_wp2
     go_roundw
     case rel=>first|exact ⟨j+1,_,_,by omega,by go_num,RN,SF,KT⟩|((repeat apply Exists.intro);refine ⟨?_,rfl⟩;exact ⟨j+1,_,_,by omega,by go_num,RN,SF,KT⟩)
     case measure=>simp [intOf];omega
    ·go_wp2_with fail
     have hv:(V j).hlo=false:=HE.out.1.symm
     have hv':(V j).hhi=true:=HE.out.2.symm
     clear r0 n0' r1 n1' r2 n2' r3 n3' r4 n4' r5 n5' r6 n6' r7 n7' r8 n8' r9 n9' r10 n10' r11 n11' r12 n12' RW N hz
     generalize wr.alloc (.cells #[.string nm,.bool p1,.slice a1 n1 k1,.slice d1 m1 l1,.bool false,.bool p2,.slice a2 n2 k2,.slice d2 m2 l2,.bool true,.bool p3,.slice a3 n3 k3,.slice d3 m3 l3,.bool wh] 50)=W2 at *
     have RZ0:=RU.below (aK W2)
     have BZ0:=BU.below (aK W2)
     have KZ0:=dU (R:=R) (F:=R) (L:=[61]) (aK W2) (by omega)
     have hs0:W2.heap.size≤W2.drew.heap.size:=(aK W2).size
     have hcF:(W2.drew.cell? ⟨R,0,none⟩=some (.slice sa j sc)∧W2.drew.cell? ⟨wr.heap.size,9,none⟩=some (.bool p3)∧W2.drew.cell? ⟨wr.heap.size,10,none⟩=some (.slice a3 n3 k3)∧W2.drew.cell? ⟨wr.heap.size,11,none⟩=some (.slice d3 m3 l3)):=⟨(RZ0.cell 0).trans rfl,BZ0 9 _ rfl,BZ0 10 _ rfl,BZ0 11 _ rfl⟩
     have HF0:=hcF
     clear hcF
     refine wp_region_noPanic (bI (Till 13 13 (fun w'=>w'.cell? ⟨R,0,none⟩=some (.slice sa j sc)∧w'.cell? ⟨wr.heap.size,9,none⟩=some (.bool p3)∧w'.cell? ⟨wr.heap.size,10,none⟩=some (.slice a3 n3 k3)∧w'.cell? ⟨wr.heap.size,11,none⟩=some (.slice d3 m3 l3)) (fun _=>True)) (by as_aux_lemma=>kernel_rfl) ?_)
     have hc0:(W2.drew.cell? ⟨R,0,none⟩=some (.slice sa j sc)∧W2.drew.cell? ⟨wr.heap.size,9,none⟩=some (.bool p3)∧W2.drew.cell? ⟨wr.heap.size,10,none⟩=some (.slice a3 n3 k3)∧W2.drew.cell? ⟨wr.heap.size,11,none⟩=some (.slice d3 m3 l3)):=HF0
     generalize W2.drew=z0 at *
     refine wpAnyG.take 0 (v:=.pointer (some ⟨R,0,none⟩)) (by decide) (by as_aux_lemma=>kernel_rfl) (fun _ _ _ h=>h) 13 _ (by rfl) (aP (by decide) (by decide)) (fun L w' h1 h2=>h2.1 h1) (by as_aux_lemma=>kernel_rfl) (by as_aux_lemma=>kernel_rfl) (by as_aux_lemma=>kernel_rfl) (by rfl) ?y0 ⟨fun _=>(fun _ h=>h) _ hc0,fun _=>trivial⟩ (by rfl) ?_
     case y0 =>
      rintro w' ⟨q0,q1,q2,q3⟩
      simp only [lgA,lgZ]
      go_simp
     simp only [lgA,lgZ,Act.put,lsA,lsZ,lsS]
     refine wpAnyG.take 1 (v:=.pointer (some ⟨R,0,none⟩)) (by decide) (by as_aux_lemma=>kernel_rfl) (fun _ _ _ h=>h) 13 _ (by rfl) (aP (by decide) (by decide)) (fun L w' h1 h2=>h2.1 h1) (by as_aux_lemma=>kernel_rfl) (by as_aux_lemma=>kernel_rfl) (by as_aux_lemma=>kernel_rfl) (by rfl) ?y1 ⟨fun _=>(fun _ h=>h) _ hc0,fun _=>trivial⟩ (by rfl) ?_
     case y1 =>
      rintro w' ⟨q0,q1,q2,q3⟩
      simp only [lgA,lgZ,lgS]
      go_simp
     simp only [lgA,lgZ,lgS,Act.put,lsA,lsZ,lsS]
     refine wpAnyG.take 2 (v:=.pointer (some ⟨R,0,none⟩)) (by decide) (by as_aux_lemma=>kernel_rfl) (fun _ _ _ h=>h) 13 _ (by rfl) (aP (by decide) (by decide)) (fun L w' h1 h2=>h2.1 h1) (by as_aux_lemma=>kernel_rfl) (by as_aux_lemma=>kernel_rfl) (by as_aux_lemma=>kernel_rfl) (by rfl) ?y2 ⟨fun _=>(fun _ h=>h) _ hc0,fun _=>trivial⟩ (by rfl) ?_
     case y2 =>
      rintro w' ⟨q0,q1,q2,q3⟩
      simp only [lgA,lgZ,lgS]
      go_simp
     simp only [lgA,lgZ,lgS,Act.put,lsA,lsZ,lsS]
     refine wpAnyG.take 3 (v:=.pointer (some ⟨R,0,none⟩)) (by decide) (by as_aux_lemma=>kernel_rfl) (fun _ _ _ h=>h) 13 _ (by rfl) (aP (by decide) (by decide)) (fun L w' h1 h2=>h2.1 h1) (by as_aux_lemma=>kernel_rfl) (by as_aux_lemma=>kernel_rfl) (by as_aux_lemma=>kernel_rfl) (by rfl) ?y3 ⟨fun _=>(fun _ h=>h) _ hc0,fun _=>trivial⟩ (by rfl) ?_
     case y3 =>
      rintro w' ⟨q0,q1,q2,q3⟩
      simp only [lgA,lgZ,lgS]
      go_simp
     simp only [lgA,lgZ,lgS,Act.put,lsA,lsZ,lsS]
     refine wpAnyG.take 4 (v:=.slice sa j sc) (by decide) (by as_aux_lemma=>kernel_rfl) (fun _ _ _ h=>h) 13 _ (by rfl) (aP (by decide) (by decide)) (fun L w' h1 h2=>h2.1 h1) (by as_aux_lemma=>kernel_rfl) (by as_aux_lemma=>kernel_rfl) (by as_aux_lemma=>kernel_rfl) (by rfl) ?y4 ⟨fun _=>(fun _ h=>h) _ hc0,fun _=>trivial⟩ (by rfl) ?_
     case y4 =>
      rintro w' ⟨q0,q1,q2,q3⟩
      simp only [lgA,lgZ,lgS]
      go_simp
     simp only [lgA,lgZ,lgS,Act.put,lsA,lsZ,lsS]
     refine wpAnyG.take 5 (v:=.pointer (some ⟨wr.heap.size,8,none⟩)) (by decide) (by as_aux_lemma=>kernel_rfl) (fun _ _ _ h=>h) 13 _ (by rfl) (aP (by decide) (by decide)) (fun L w' h1 h2=>h2.1 h1) (by as_aux_lemma=>kernel_rfl) (by as_aux_lemma=>kernel_rfl) (by as_aux_lemma=>kernel_rfl) (by rfl) ?y5 ⟨fun _=>(fun _ h=>h) _ hc0,fun _=>trivial⟩ (by rfl) ?_
     case y5 =>
      rintro w' ⟨q0,q1,q2,q3⟩
      simp only [lgA,lgZ,lgS]
      go_simp
     simp only [lgA,lgZ,lgS,Act.put,lsA,lsZ,lsS]
     refine wpAnyG.take 6 (v:=.pointer (some ⟨wr.heap.size,9,none⟩)) (by decide) (by as_aux_lemma=>kernel_rfl) (fun _ _ _ h=>h) 13 _ (by rfl) (aP (by decide) (by decide)) (fun L w' h1 h2=>h2.1 h1) (by as_aux_lemma=>kernel_rfl) (by as_aux_lemma=>kernel_rfl) (by as_aux_lemma=>kernel_rfl) (by rfl) ?y6 ⟨fun _=>(fun _ h=>h) _ hc0,fun _=>trivial⟩ (by rfl) ?_
     case y6 =>
      rintro w' ⟨q0,q1,q2,q3⟩
      simp only [lgA,lgZ,lgS]
      go_simp
     simp only [lgA,lgZ,lgS,Act.put,lsA,lsZ,lsS]
     refine wpAnyG.take 7 (v:=.agg #[.bool p3,.slice a3 n3 k3,.slice d3 m3 l3]) (by decide) (by as_aux_lemma=>kernel_rfl) (fun _ _ _ h=>h) 13 _ (by rfl) (aP (by decide) (by decide)) (fun L w' h1 h2=>h2.1 h1) (by as_aux_lemma=>kernel_rfl) (by as_aux_lemma=>kernel_rfl) (by as_aux_lemma=>kernel_rfl) (by rfl) ?y7 ⟨fun _=>(fun _ h=>h) _ hc0,fun _=>trivial⟩ (by rfl) ?_
     case y7 =>
      rintro w' ⟨q0,q1,q2,q3⟩
      simp only [lgA,lgZ,lgS]
      go_simp
     simp only [lgA,lgZ,lgS,Act.put,lsA,lsZ,lsS]
     refine wpAnyG.take 8 (v:=.pointer (some ⟨R,0,none⟩)) (by decide) (by as_aux_lemma=>kernel_rfl) (fun _ _ _ h=>h) 13 _ (by rfl) (aP (by decide) (by decide)) (fun L w' h1 h2=>h2.1 h1) (by as_aux_lemma=>kernel_rfl) (by as_aux_lemma=>kernel_rfl) (by as_aux_lemma=>kernel_rfl) (by rfl) ?y8 ⟨fun _=>(fun _ h=>h) _ hc0,fun _=>trivial⟩ (by rfl) ?_
     case y8 =>
      rintro w' ⟨q0,q1,q2,q3⟩
      simp only [lgA,lgZ,lgS]
      go_simp
     simp only [lgA,lgZ,lgS,Act.put,lsA,lsZ,lsS]
     refine wpAnyG.one 9 (by as_aux_lemma=>kernel_rfl) (by decide) (by rfl) (fun K hK=>?_)
     simp only [lgA,lgZ,lgS]
     go_simp
     refine (lN z0 RZ0 (by omega)).mono ?_
     rintro e z1 ⟨rfl,RZ1,ON1⟩
     have BZ1:=BZ0.off ON1 (by omega)
     have KZ1:=KZ0.off RZ0 (by simp) ON1
     have hs1:z1.heap.size=z0.heap.size:=ON1.size
     have hcF:(z1.cell? ⟨R,0,none⟩=some (.slice sa j sc)∧z1.cell? ⟨wr.heap.size,9,none⟩=some (.bool p3)∧z1.cell? ⟨wr.heap.size,10,none⟩=some (.slice a3 n3 k3)∧z1.cell? ⟨wr.heap.size,11,none⟩=some (.slice d3 m3 l3)):=⟨(RZ1.cell 0).trans rfl,BZ1 9 _ rfl,BZ1 10 _ rfl,BZ1 11 _ rfl⟩
     have hc1:=hcF
     clear hcF
     dsimp only
     refine hK _ _ ⟨fun _=>(fun _ h=>h) _ hc1,fun _=>trivial⟩ ?_
     clear hK K
     refine wpAnyG.one 10 (by as_aux_lemma=>kernel_rfl) (by decide) (by rfl) (fun K hK=>?_)
     simp only [lgA,lgZ,lgS]
     go_simp
     refine (dnF (R:=R) (V j) c z1 hv hv' (GV3.kx KZ1 (by decide)) (by omega)).mono ?_
     rintro e z2 ⟨s0,s1,s2,s3,s4,rfl,⟨o0,o1,o2,o3,o4⟩,SC,hk2⟩
     have BZ2:=BZ1.below hk2
     have RZ2:=RZ1.below hk2
     have KZ2:=KZ1.bel hk2 (by omega)
     have hs2:=hk2.size
     have hcF:(z2.cell? ⟨R,0,none⟩=some (.slice sa j sc)∧z2.cell? ⟨wr.heap.size,9,none⟩=some (.bool p3)∧z2.cell? ⟨wr.heap.size,10,none⟩=some (.slice a3 n3 k3)∧z2.cell? ⟨wr.heap.size,11,none⟩=some (.slice d3 m3 l3)):=⟨(RZ2.cell 0).trans rfl,BZ2 9 _ rfl,BZ2 10 _ rfl,BZ2 11 _ rfl⟩
     have hc2:=hcF
     clear hcF
     dsimp only
     refine hK _ _ ⟨fun _=>(fun _ h=>h) _ hc2,fun _=>trivial⟩ ?_
     clear hK K
     refine wpAnyG.one 11 (by as_aux_lemma=>kernel_rfl) (by decide) (by rfl) (fun K hK=>?_)
     simp only [lgA,lgZ,lgS]
     go_simp
     have KZ4:=KZ2.bel (aI z2 (.cells #[s0,s1,s2,s3,s4] 70)) (by omega)
     have RZ4:=RZ2.below (aI z2 (.cells #[s0,s1,s2,s3,s4] 70))
     have BZ4:=BZ2.below (aI z2 (.cells #[s0,s1,s2,s3,s4] 70))
     have BX:=aQ z2 #[s0,s1,s2,s3,s4] 70
     have hs4:(z2.alloc (.cells #[s0,s1,s2,s3,s4] 70)).heap.size=z2.heap.size+1:=by simp
     have SC4:=SC.below (aI z2 (.cells #[s0,s1,s2,s3,s4] 70))
     have hcF:((z2.alloc (.cells #[s0,s1,s2,s3,s4] 70)).cell? ⟨R,0,none⟩=some (.slice sa j sc)∧(z2.alloc (.cells #[s0,s1,s2,s3,s4] 70)).cell? ⟨wr.heap.size,9,none⟩=some (.bool p3)∧(z2.alloc (.cells #[s0,s1,s2,s3,s4] 70)).cell? ⟨wr.heap.size,10,none⟩=some (.slice a3 n3 k3)∧(z2.alloc (.cells #[s0,s1,s2,s3,s4] 70)).cell? ⟨wr.heap.size,11,none⟩=some (.slice d3 m3 l3)):=⟨(RZ4.cell 0).trans rfl,BZ4 9 _ rfl,BZ4 10 _ rfl,BZ4 11 _ rfl⟩
     generalize z2.alloc (.cells #[s0,s1,s2,s3,s4] 70)=z5 at *
     refine hK _ _ ⟨fun _=>hcF,fun _=>trivial⟩ ?_
     clear hcF
     clear hK K
     refine wpAnyG.one 12 (by as_aux_lemma=>kernel_rfl) (by decide) (by rfl) (fun K hK=>?_)
     simp only [lgA,lgZ,lgS]
     have SLZ:=SLU.kxh KZ4 (by decide)
     refine dM z5 _ _ 57 70 5 40 rfl Tryz.underlying57 wY (by decide) (by decide) R (.slice sa j sc) j E rfl SLZ z2.heap.size 1 rfl [s0,s1,s2,s3,s4] rfl (fun u hu=>by simp at hu;rcases hu with rfl|rfl|rfl|rfl|rfl <;> assumption) BX (by omega) (by omega) _ rfl ?_
     intro g cap w6 SN hg hat hgl
     have hne:(.slice sa j sc:Value).ownBlock≠some R:=SLZ.neR RZ4 (by decide)
     have RZ6:=RZ4.kept hg hne
     have KZ6:=(KZ4.up (L':=[61,70]) (by simp)).grown SLZ (by simp) (Nat.le_refl R) (by omega) hg
     have e0:=(RZ6.cell 0).trans (show _=some (.slice sa j sc) from rfl)
     have e1:=RZ6.frozen 0
     refine hK _ _ ⟨fun _=>?_,fun _=>trivial⟩ ?_
     ·exact ⟨e0,(World.cell?_of_block (w:=z5) (hg.block wr.heap.size (by omega) (fun e=>SLBV e.symm))).trans (BZ4 9 _ rfl),(World.cell?_of_block (w:=z5) (hg.block wr.heap.size (by omega) (fun e=>SLBV e.symm))).trans (BZ4 10 _ rfl),(World.cell?_of_block (w:=z5) (hg.block wr.heap.size (by omega) (fun e=>SLBV e.symm))).trans (BZ4 11 _ rfl)⟩
     clear hK K
     refine wpAnyG.one 13 (by as_aux_lemma=>kernel_rfl) (by decide) (by rfl) (fun K hK=>?_)
     simp only [lgA,lgZ,lgS]
     go_simp
     refine hK _ _ ⟨fun h=>absurd h (by decide),fun _=>trivial⟩ ?_
     clear hK K
     refine wpAnyG.one 14 (by as_aux_lemma=>kernel_rfl) (by decide) (by rfl) (fun K hK=>?_)
     simp only [lgA,lgZ,lgS]
     go_simp
     refine hK _ _ ⟨fun h=>absurd h (by decide),fun _=>trivial⟩ ?_
     clear hK K
     refine wpAnyG.one 15 (by as_aux_lemma=>kernel_rfl) (by decide) (by rfl) (fun K hK=>?_)
     simp only [lgA,lgZ,lgS]
     go_simp
     refine hK _ _ ⟨fun h=>absurd h (by decide),fun _=>trivial⟩ ?_
     clear hK K
     refine wpAnyG.done (by as_aux_lemma=>kernel_rfl) (NoPanic.normal ?_)
     obtain ⟨RN,ON⟩:=RZ6.set 0 (.slice (some ⟨g,0,none⟩) (j+1) cap)
     replace RN:Rw 61 (w6.setCell ⟨R,0,none⟩ (.slice (some ⟨g,0,none⟩) (j+1) cap)) R #[.slice (some ⟨g,0,none⟩) (j+1) cap,a1',a2',a3',a4',a5',.int .i64 ((c+1:Nat):Int),a7']:=by simpa using RN
     have KN:=KZ6.off RZ6 (by simp) ON
     have KT:=KU.trans KN
     have SNN:=SN.kxh ((Kx.refl R R [61] w6).off RZ6 (by simp) ON) (by decide)
     have hsz:w6.heap.size=(w6.setCell ⟨R,0,none⟩ (.slice (some ⟨g,0,none⟩) (j+1) cap)).heap.size:=ON.size.symm
     have KM:=((Kx.refl R R [61,70] z5).grown SLZ (by simp) (Nat.le_refl R) (by omega) hg).off RZ6 (by simp) ON
     have SCN:=(SC4.kxh KM (by decide) (by decide) (by decide)).up (F':=(w6.setCell ⟨R,0,none⟩ (.slice (some ⟨g,0,none⟩) (j+1) cap)).heap.size) (by rw [← hsz];have:=hg.size;omega)
     have hcl:clm V (j+1)=c+1:=by
      have:=HC.out
      show clm V j+wid (V j)=_
      rw [show wid (V j)=1 by unfold wid;simp only [hv,hv',if_true,if_false,Bool.false_eq_true]]
      omega
     rw [HC.out] at SCN
     have SF:=StQ.snoc (F':=(w6.setCell ⟨R,0,none⟩ (.slice (some ⟨g,0,none⟩) (j+1) cap)).heap.size) SU (KU2.trans KN) (by decide) (by decide) (by decide) (by rw [← hsz];have:=hg.size;omega) SNN SCN
     have hbig:wr.heap.size+1≤(w6.setCell ⟨R,0,none⟩ (.slice (some ⟨g,0,none⟩) (j+1) cap)).heap.size:=by rw [← hsz];have:=hg.size;omega
     rw [← hcl] at RN
     clear BU BX BZ0 BZ1 BZ2 BZ4 GV1 GV2 GV3 HF0 KM KN KU KU2 KZ0 KZ1 KZ2 KZ4 KZ6 ON ON1 RU RZ0 RZ1 RZ2 RZ4 RZ6 SC SC4 SCN SLBV SLU SLZ SN SNN SU e0 e1 hat hc0 hc1 hc2 hg hgl hne hs0 hs1 hs2 hs4 o0 o1 o2 o3 o4
     generalize w6.setCell ⟨R,0,none⟩ (.slice (some ⟨g,0,none⟩) (j+1) cap)=w7 at *
     try rw [← hva']
     clear hva'
     go_wp2
     go_roundw
     case rel=>first|exact ⟨j+1,_,_,by omega,by go_num,RN,SF,KT⟩|((repeat apply Exists.intro);refine ⟨?_,rfl⟩;exact ⟨j+1,_,_,by omega,by go_num,RN,SF,KT⟩)
     case measure=>simp [intOf];omega
   ·go_wp2_with fail
    have hv:(V j).hlo=true:=HE.out.1.symm
    clear r0 n0' r1 n1' r2 n2' r3 n3' r4 n4' r5 n5' r6 n6' r7 n7' r8 n8' r9 n9' r10 n10' r11 n11' r12 n12' RW N hz
    generalize wr.alloc (.cells #[.string nm,.bool p1,.slice a1 n1 k1,.slice d1 m1 l1,.bool true,.bool p2,.slice a2 n2 k2,.slice d2 m2 l2,.bool hh,.bool p3,.slice a3 n3 k3,.slice d3 m3 l3,.bool wh] 50)=W2 at *
    have RZ0:=RU.below (aK W2)
    have BZ0:=BU.below (aK W2)
    have KZ0:=dU (R:=R) (F:=R) (L:=[61]) (aK W2) (by omega)
    have hs0:W2.heap.size≤W2.drew.heap.size:=(aK W2).size
    have hcF:(W2.drew.cell? ⟨R,0,none⟩=some (.slice sa j sc)∧W2.drew.cell? ⟨wr.heap.size,5,none⟩=some (.bool p2)∧W2.drew.cell? ⟨wr.heap.size,6,none⟩=some (.slice a2 n2 k2)∧W2.drew.cell? ⟨wr.heap.size,7,none⟩=some (.slice d2 m2 l2)):=⟨(RZ0.cell 0).trans rfl,BZ0 5 _ rfl,BZ0 6 _ rfl,BZ0 7 _ rfl⟩
    have HF0:=hcF
    clear hcF
    refine wp_region_noPanic (bI (Till 13 13 (fun w'=>w'.cell? ⟨R,0,none⟩=some (.slice sa j sc)∧w'.cell? ⟨wr.heap.size,5,none⟩=some (.bool p2)∧w'.cell? ⟨wr.heap.size,6,none⟩=some (.slice a2 n2 k2)∧w'.cell? ⟨wr.heap.size,7,none⟩=some (.slice d2 m2 l2)) (fun _=>True)) (by as_aux_lemma=>kernel_rfl) ?_)
    have hc0:(W2.drew.cell? ⟨R,0,none⟩=some (.slice sa j sc)∧W2.drew.cell? ⟨wr.heap.size,5,none⟩=some (.bool p2)∧W2.drew.cell? ⟨wr.heap.size,6,none⟩=some (.slice a2 n2 k2)∧W2.drew.cell? ⟨wr.heap.size,7,none⟩=some (.slice d2 m2 l2)):=HF0
    generalize W2.drew=z0 at *
    refine wpAnyG.take 0 (v:=.pointer (some ⟨R,0,none⟩)) (by decide) (by as_aux_lemma=>kernel_rfl) (fun _ _ _ h=>h) 13 _ (by rfl) (aP (by decide) (by decide)) (fun L w' h1 h2=>h2.1 h1) (by as_aux_lemma=>kernel_rfl) (by as_aux_lemma=>kernel_rfl) (by as_aux_lemma=>kernel_rfl) (by rfl) ?y0 ⟨fun _=>(fun _ h=>h) _ hc0,fun _=>trivial⟩ (by rfl) ?_
    case y0 =>
     rintro w' ⟨q0,q1,q2,q3⟩
     simp only [lgA,lgZ]
     go_simp
    simp only [lgA,lgZ,Act.put,lsA,lsZ,lsS]
    refine wpAnyG.take 1 (v:=.pointer (some ⟨R,0,none⟩)) (by decide) (by as_aux_lemma=>kernel_rfl) (fun _ _ _ h=>h) 13 _ (by rfl) (aP (by decide) (by decide)) (fun L w' h1 h2=>h2.1 h1) (by as_aux_lemma=>kernel_rfl) (by as_aux_lemma=>kernel_rfl) (by as_aux_lemma=>kernel_rfl) (by rfl) ?y1 ⟨fun _=>(fun _ h=>h) _ hc0,fun _=>trivial⟩ (by rfl) ?_
    case y1 =>
     rintro w' ⟨q0,q1,q2,q3⟩
     simp only [lgA,lgZ,lgS]
     go_simp
    simp only [lgA,lgZ,lgS,Act.put,lsA,lsZ,lsS]
    refine wpAnyG.take 2 (v:=.pointer (some ⟨R,0,none⟩)) (by decide) (by as_aux_lemma=>kernel_rfl) (fun _ _ _ h=>h) 13 _ (by rfl) (aP (by decide) (by decide)) (fun L w' h1 h2=>h2.1 h1) (by as_aux_lemma=>kernel_rfl) (by as_aux_lemma=>kernel_rfl) (by as_aux_lemma=>kernel_rfl) (by rfl) ?y2 ⟨fun _=>(fun _ h=>h) _ hc0,fun _=>trivial⟩ (by rfl) ?_
    case y2 =>
     rintro w' ⟨q0,q1,q2,q3⟩
     simp only [lgA,lgZ,lgS]
     go_simp
    simp only [lgA,lgZ,lgS,Act.put,lsA,lsZ,lsS]
    refine wpAnyG.take 3 (v:=.pointer (some ⟨R,0,none⟩)) (by decide) (by as_aux_lemma=>kernel_rfl) (fun _ _ _ h=>h) 13 _ (by rfl) (aP (by decide) (by decide)) (fun L w' h1 h2=>h2.1 h1) (by as_aux_lemma=>kernel_rfl) (by as_aux_lemma=>kernel_rfl) (by as_aux_lemma=>kernel_rfl) (by rfl) ?y3 ⟨fun _=>(fun _ h=>h) _ hc0,fun _=>trivial⟩ (by rfl) ?_
    case y3 =>
     rintro w' ⟨q0,q1,q2,q3⟩
     simp only [lgA,lgZ,lgS]
     go_simp
    simp only [lgA,lgZ,lgS,Act.put,lsA,lsZ,lsS]
    refine wpAnyG.take 4 (v:=.slice sa j sc) (by decide) (by as_aux_lemma=>kernel_rfl) (fun _ _ _ h=>h) 13 _ (by rfl) (aP (by decide) (by decide)) (fun L w' h1 h2=>h2.1 h1) (by as_aux_lemma=>kernel_rfl) (by as_aux_lemma=>kernel_rfl) (by as_aux_lemma=>kernel_rfl) (by rfl) ?y4 ⟨fun _=>(fun _ h=>h) _ hc0,fun _=>trivial⟩ (by rfl) ?_
    case y4 =>
     rintro w' ⟨q0,q1,q2,q3⟩
     simp only [lgA,lgZ,lgS]
     go_simp
    simp only [lgA,lgZ,lgS,Act.put,lsA,lsZ,lsS]
    refine wpAnyG.take 5 (v:=.pointer (some ⟨wr.heap.size,4,none⟩)) (by decide) (by as_aux_lemma=>kernel_rfl) (fun _ _ _ h=>h) 13 _ (by rfl) (aP (by decide) (by decide)) (fun L w' h1 h2=>h2.1 h1) (by as_aux_lemma=>kernel_rfl) (by as_aux_lemma=>kernel_rfl) (by as_aux_lemma=>kernel_rfl) (by rfl) ?y5 ⟨fun _=>(fun _ h=>h) _ hc0,fun _=>trivial⟩ (by rfl) ?_
    case y5 =>
     rintro w' ⟨q0,q1,q2,q3⟩
     simp only [lgA,lgZ,lgS]
     go_simp
    simp only [lgA,lgZ,lgS,Act.put,lsA,lsZ,lsS]
    refine wpAnyG.take 6 (v:=.pointer (some ⟨wr.heap.size,5,none⟩)) (by decide) (by as_aux_lemma=>kernel_rfl) (fun _ _ _ h=>h) 13 _ (by rfl) (aP (by decide) (by decide)) (fun L w' h1 h2=>h2.1 h1) (by as_aux_lemma=>kernel_rfl) (by as_aux_lemma=>kernel_rfl) (by as_aux_lemma=>kernel_rfl) (by rfl) ?y6 ⟨fun _=>(fun _ h=>h) _ hc0,fun _=>trivial⟩ (by rfl) ?_
    case y6 =>
     rintro w' ⟨q0,q1,q2,q3⟩
     simp only [lgA,lgZ,lgS]
     go_simp
    simp only [lgA,lgZ,lgS,Act.put,lsA,lsZ,lsS]
    refine wpAnyG.take 7 (v:=.agg #[.bool p2,.slice a2 n2 k2,.slice d2 m2 l2]) (by decide) (by as_aux_lemma=>kernel_rfl) (fun _ _ _ h=>h) 13 _ (by rfl) (aP (by decide) (by decide)) (fun L w' h1 h2=>h2.1 h1) (by as_aux_lemma=>kernel_rfl) (by as_aux_lemma=>kernel_rfl) (by as_aux_lemma=>kernel_rfl) (by rfl) ?y7 ⟨fun _=>(fun _ h=>h) _ hc0,fun _=>trivial⟩ (by rfl) ?_
    case y7 =>
     rintro w' ⟨q0,q1,q2,q3⟩
     simp only [lgA,lgZ,lgS]
     go_simp
    simp only [lgA,lgZ,lgS,Act.put,lsA,lsZ,lsS]
    refine wpAnyG.take 8 (v:=.pointer (some ⟨R,0,none⟩)) (by decide) (by as_aux_lemma=>kernel_rfl) (fun _ _ _ h=>h) 13 _ (by rfl) (aP (by decide) (by decide)) (fun L w' h1 h2=>h2.1 h1) (by as_aux_lemma=>kernel_rfl) (by as_aux_lemma=>kernel_rfl) (by as_aux_lemma=>kernel_rfl) (by rfl) ?y8 ⟨fun _=>(fun _ h=>h) _ hc0,fun _=>trivial⟩ (by rfl) ?_
    case y8 =>
     rintro w' ⟨q0,q1,q2,q3⟩
     simp only [lgA,lgZ,lgS]
     go_simp
    simp only [lgA,lgZ,lgS,Act.put,lsA,lsZ,lsS]
    refine wpAnyG.one 9 (by as_aux_lemma=>kernel_rfl) (by decide) (by rfl) (fun K hK=>?_)
    simp only [lgA,lgZ,lgS]
    go_simp
    refine (lN z0 RZ0 (by omega)).mono ?_
    rintro e z1 ⟨rfl,RZ1,ON1⟩
    have BZ1:=BZ0.off ON1 (by omega)
    have KZ1:=KZ0.off RZ0 (by simp) ON1
    have hs1:z1.heap.size=z0.heap.size:=ON1.size
    have hcF:(z1.cell? ⟨R,0,none⟩=some (.slice sa j sc)∧z1.cell? ⟨wr.heap.size,5,none⟩=some (.bool p2)∧z1.cell? ⟨wr.heap.size,6,none⟩=some (.slice a2 n2 k2)∧z1.cell? ⟨wr.heap.size,7,none⟩=some (.slice d2 m2 l2)):=⟨(RZ1.cell 0).trans rfl,BZ1 5 _ rfl,BZ1 6 _ rfl,BZ1 7 _ rfl⟩
    have hc1:=hcF
    clear hcF
    dsimp only
    refine hK _ _ ⟨fun _=>(fun _ h=>h) _ hc1,fun _=>trivial⟩ ?_
    clear hK K
    refine wpAnyG.one 10 (by as_aux_lemma=>kernel_rfl) (by decide) (by rfl) (fun K hK=>?_)
    simp only [lgA,lgZ,lgS]
    go_simp
    refine (upF (R:=R) (V j) c z1 hv (GV2.kx KZ1 (by decide)) (by omega)).mono ?_
    rintro e z2 ⟨s0,s1,s2,s3,s4,rfl,⟨o0,o1,o2,o3,o4⟩,SC,hk2⟩
    have BZ2:=BZ1.below hk2
    have RZ2:=RZ1.below hk2
    have KZ2:=KZ1.bel hk2 (by omega)
    have hs2:=hk2.size
    have hcF:(z2.cell? ⟨R,0,none⟩=some (.slice sa j sc)∧z2.cell? ⟨wr.heap.size,5,none⟩=some (.bool p2)∧z2.cell? ⟨wr.heap.size,6,none⟩=some (.slice a2 n2 k2)∧z2.cell? ⟨wr.heap.size,7,none⟩=some (.slice d2 m2 l2)):=⟨(RZ2.cell 0).trans rfl,BZ2 5 _ rfl,BZ2 6 _ rfl,BZ2 7 _ rfl⟩
    have hc2:=hcF
    clear hcF
    dsimp only
    refine hK _ _ ⟨fun _=>(fun _ h=>h) _ hc2,fun _=>trivial⟩ ?_
    clear hK K
    refine wpAnyG.one 11 (by as_aux_lemma=>kernel_rfl) (by decide) (by rfl) (fun K hK=>?_)
    simp only [lgA,lgZ,lgS]
    go_simp
    have KZ4:=KZ2.bel (aI z2 (.cells #[s0,s1,s2,s3,s4] 70)) (by omega)
    have RZ4:=RZ2.below (aI z2 (.cells #[s0,s1,s2,s3,s4] 70))
    have BZ4:=BZ2.below (aI z2 (.cells #[s0,s1,s2,s3,s4] 70))
    have BX:=aQ z2 #[s0,s1,s2,s3,s4] 70
    have hs4:(z2.alloc (.cells #[s0,s1,s2,s3,s4] 70)).heap.size=z2.heap.size+1:=by simp
    have SC4:=SC.below (aI z2 (.cells #[s0,s1,s2,s3,s4] 70))
    have hcF:((z2.alloc (.cells #[s0,s1,s2,s3,s4] 70)).cell? ⟨R,0,none⟩=some (.slice sa j sc)∧(z2.alloc (.cells #[s0,s1,s2,s3,s4] 70)).cell? ⟨wr.heap.size,5,none⟩=some (.bool p2)∧(z2.alloc (.cells #[s0,s1,s2,s3,s4] 70)).cell? ⟨wr.heap.size,6,none⟩=some (.slice a2 n2 k2)∧(z2.alloc (.cells #[s0,s1,s2,s3,s4] 70)).cell? ⟨wr.heap.size,7,none⟩=some (.slice d2 m2 l2)):=⟨(RZ4.cell 0).trans rfl,BZ4 5 _ rfl,BZ4 6 _ rfl,BZ4 7 _ rfl⟩
    generalize z2.alloc (.cells #[s0,s1,s2,s3,s4] 70)=z5 at *
    refine hK _ _ ⟨fun _=>hcF,fun _=>trivial⟩ ?_
    clear hcF
    clear hK K
    refine wpAnyG.one 12 (by as_aux_lemma=>kernel_rfl) (by decide) (by rfl) (fun K hK=>?_)
    simp only [lgA,lgZ,lgS]
    have SLZ:=SLU.kxh KZ4 (by decide)
    refine dM z5 _ _ 57 70 5 40 rfl Tryz.underlying57 wY (by decide) (by decide) R (.slice sa j sc) j E rfl SLZ z2.heap.size 1 rfl [s0,s1,s2,s3,s4] rfl (fun u hu=>by simp at hu;rcases hu with rfl|rfl|rfl|rfl|rfl <;> assumption) BX (by omega) (by omega) _ rfl ?_
    intro g cap w6 SN hg hat hgl
    have hne:(.slice sa j sc:Value).ownBlock≠some R:=SLZ.neR RZ4 (by decide)
    have RZ6:=RZ4.kept hg hne
    have KZ6:=(KZ4.up (L':=[61,70]) (by simp)).grown SLZ (by simp) (Nat.le_refl R) (by omega) hg
    have e0:=(RZ6.cell 0).trans (show _=some (.slice sa j sc) from rfl)
    have e1:=RZ6.frozen 0
    refine hK _ _ ⟨fun _=>?_,fun _=>trivial⟩ ?_
    ·exact ⟨e0,(World.cell?_of_block (w:=z5) (hg.block wr.heap.size (by omega) (fun e=>SLBV e.symm))).trans (BZ4 5 _ rfl),(World.cell?_of_block (w:=z5) (hg.block wr.heap.size (by omega) (fun e=>SLBV e.symm))).trans (BZ4 6 _ rfl),(World.cell?_of_block (w:=z5) (hg.block wr.heap.size (by omega) (fun e=>SLBV e.symm))).trans (BZ4 7 _ rfl)⟩
    clear hK K
    refine wpAnyG.one 13 (by as_aux_lemma=>kernel_rfl) (by decide) (by rfl) (fun K hK=>?_)
    simp only [lgA,lgZ,lgS]
    go_simp
    refine hK _ _ ⟨fun h=>absurd h (by decide),fun _=>trivial⟩ ?_
    clear hK K
    refine wpAnyG.one 14 (by as_aux_lemma=>kernel_rfl) (by decide) (by rfl) (fun K hK=>?_)
    simp only [lgA,lgZ,lgS]
    go_simp
    refine hK _ _ ⟨fun h=>absurd h (by decide),fun _=>trivial⟩ ?_
    clear hK K
    refine wpAnyG.one 15 (by as_aux_lemma=>kernel_rfl) (by decide) (by rfl) (fun K hK=>?_)
    simp only [lgA,lgZ,lgS]
    go_simp
    refine hK _ _ ⟨fun h=>absurd h (by decide),fun _=>trivial⟩ ?_
    clear hK K
    refine wpAnyG.done (by as_aux_lemma=>kernel_rfl) (NoPanic.normal ?_)
    obtain ⟨RN,ON⟩:=RZ6.set 0 (.slice (some ⟨g,0,none⟩) (j+1) cap)
    replace RN:Rw 61 (w6.setCell ⟨R,0,none⟩ (.slice (some ⟨g,0,none⟩) (j+1) cap)) R #[.slice (some ⟨g,0,none⟩) (j+1) cap,a1',a2',a3',a4',a5',.int .i64 ((c+1:Nat):Int),a7']:=by simpa using RN
    have KN:=KZ6.off RZ6 (by simp) ON
    have KT:=KU.trans KN
    have SNN:=SN.kxh ((Kx.refl R R [61] w6).off RZ6 (by simp) ON) (by decide)
    have hsz:w6.heap.size=(w6.setCell ⟨R,0,none⟩ (.slice (some ⟨g,0,none⟩) (j+1) cap)).heap.size:=ON.size.symm
    have KM:=((Kx.refl R R [61,70] z5).grown SLZ (by simp) (Nat.le_refl R) (by omega) hg).off RZ6 (by simp) ON
    have SCN:=(SC4.kxh KM (by decide) (by decide) (by decide)).up (F':=(w6.setCell ⟨R,0,none⟩ (.slice (some ⟨g,0,none⟩) (j+1) cap)).heap.size) (by rw [← hsz];have:=hg.size;omega)
    have hcl:clm V (j+1)=c+1:=by
     have:=HC.out
     show clm V j+wid (V j)=_
     rw [show wid (V j)=1 by unfold wid;simp only [hv,if_true]]
     omega
    rw [HC.out] at SCN
    have SF:=StQ.snoc (F':=(w6.setCell ⟨R,0,none⟩ (.slice (some ⟨g,0,none⟩) (j+1) cap)).heap.size) SU (KU2.trans KN) (by decide) (by decide) (by decide) (by rw [← hsz];have:=hg.size;omega) SNN SCN
    have hbig:wr.heap.size+1≤(w6.setCell ⟨R,0,none⟩ (.slice (some ⟨g,0,none⟩) (j+1) cap)).heap.size:=by rw [← hsz];have:=hg.size;omega
    rw [← hcl] at RN
    clear BU BX BZ0 BZ1 BZ2 BZ4 GV1 GV2 GV3 HF0 KM KN KU KU2 KZ0 KZ1 KZ2 KZ4 KZ6 ON ON1 RU RZ0 RZ1 RZ2 RZ4 RZ6 SC SC4 SCN SLBV SLU SLZ SN SNN SU e0 e1 hat hc0 hc1 hc2 hg hgl hne hs0 hs1 hs2 hs4 o0 o1 o2 o3 o4
    generalize w6.setCell ⟨R,0,none⟩ (.slice (some ⟨g,0,none⟩) (j+1) cap)=w7 at *
    try rw [← hva']
    clear hva'
    go_wp2
    go_roundw
    case rel=>first|exact ⟨j+1,_,_,by omega,by go_num,RN,SF,KT⟩|((repeat apply Exists.intro);refine ⟨?_,rfl⟩;exact ⟨j+1,_,_,by omega,by go_num,RN,SF,KT⟩)
    case measure=>simp [intOf];omega
  ·obtain rfl:j=vn:=by omega
   have hkI:¬ (j:Int)<(j:Int):=by omega
   go_wp2
   go_end0
   exact ⟨rfl,_,RW,SQ,KU⟩
end Go.Proofs.YtmeimjakdheidaaGreatDoor

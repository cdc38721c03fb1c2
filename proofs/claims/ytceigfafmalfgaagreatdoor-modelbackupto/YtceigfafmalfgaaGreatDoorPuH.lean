import Derived.Test.YtceigfafmalfgaaGreatDoorPqF
import Derived.Test.YtceigfafmalfgaaGreatDoorGuardSAll
namespace Go.Proofs.YtceigfafmalfgaaGreatDoor
open Go.RowKit
theorem weightQ {p:Bool} {a:Option Addr} {na ca:Nat} {d:Option Addr} {nd cd:Nat} (w:World) :
  Calls Tryz.prog 11 #[.agg #[.bool p,.slice a na ca,.slice d nd cd]] w fun e w'=>∃ k:Int,e = .returned (.int .i64 k)∧Below w.heap.size w w':=by
 have Pb:=box_new w #[.bool p,.slice a na ca,.slice d nd cd] 27
 have hb:=bel_d0 w (.cells #[.bool p,.slice a na ca,.slice d nd cd] 27)
 have p1:=Pb 1 _ rfl
 have p2:=Pb 2 _ rfl
 go_enter Tryz.func11,Tryz.ntmps11
 go_wp2
 go_ret
 exact ⟨⟨_,rfl⟩,hb⟩
def AnyB (e:Ending) (w w':World):Prop:=∃ b,e = .returned (.bool b)∧Below w.heap.size w w'
set_option maxRecDepth 100000 in
set_option maxHeartbeats 16000000 in
theorem beyondQ (P:Prob) (w:World) (hP:PQ w P) (hK:P.K≤1048576) :
  Calls Tryz.prog 4 #[P.val] w fun e w'=>AnyB e w w':=by
 have hvn:P.vn≤1048576:=by have:=hP.all;have:=tot_len P.ZV P.vn;omega
 have hrn:P.rn≤1048576:=by have:=hP.all;have:=tot_len P.ZR P.rn;omega
 have Pb:=box_new w #[.bool P.mx,.string P.nm,.bool P.p,.slice P.a P.na P.ca,.slice P.d P.nd P.cd,.slice P.va P.vn P.vc,.slice P.ra P.rn P.rc] 31
 have hb:=bel_d0 w (.cells #[.bool P.mx,.string P.nm,.bool P.p,.slice P.a P.na P.ca,.slice P.d P.nd P.cd,.slice P.va P.vn P.vc,.slice P.ra P.rn P.rc] 31)
 unfold Prob.val
 go_enter Tryz.func4,Tryz.ntmps4
 go_wp2_with fail
 generalize w.alloc (.cells #[.bool P.mx,.string P.nm,.bool P.p,.slice P.a P.na P.ca,.slice P.d P.nd P.cd,.slice P.va P.vn P.vc,.slice P.ra P.rn P.rc] 31)=W at *
 have p1:=Pb 1 _ rfl
 have p2:=Pb 2 _ rfl
 have p3:=Pb 3 _ rfl
 have p4:=Pb 4 _ rfl
 have p5:=Pb 5 _ rfl
 have p6:=Pb 6 _ rfl
 have HBX:∀ w',Below W.heap.size W w'→(w'.cell? ⟨w.heap.size,1,none⟩=some (.string P.nm)∧w'.cell? ⟨w.heap.size,2,none⟩=some (.bool P.p)∧w'.cell? ⟨w.heap.size,3,none⟩=some (.slice P.a P.na P.ca)∧w'.cell? ⟨w.heap.size,4,none⟩=some (.slice P.d P.nd P.cd)∧w'.cell? ⟨w.heap.size,5,none⟩=some (.slice P.va P.vn P.vc)∧w'.cell? ⟨w.heap.size,6,none⟩=some (.slice P.ra P.rn P.rc)):=fun w' h=>⟨kept_c h p1,kept_c h p2,kept_c h p3,kept_c h p4,kept_c h p5,kept_c h p6⟩
 refine wp_region_noPanic (wp_region_guardB HBX (by as_aux_lemma=>kernel_rfl) ?_)
 have hc0:Below W.heap.size W W.drew:=bel_d1 _
 generalize W.drew=z0 at *
 refine wpAnyG.tA 0 (v:=.pointer (some ⟨w.heap.size,1,none⟩)) (by decide) 15 (by as_aux_lemma=>kernel_rfl) (by rfl) ?y0 (HBX _ hc0) ?_
 case y0 =>
  rintro w' ⟨f0,f1,f2,f3,f4,f5⟩
  simp only [lgA,lgZ]
  go_simp
 simp only [lgA,lgZ,Act.put,lsA,lsZ,lsS]
 refine wpAnyG.tA 1 (v:=.string P.nm) (by decide) 15 (by as_aux_lemma=>kernel_rfl) (by rfl) ?y1 (HBX _ hc0) ?_
 case y1 =>
  rintro w' ⟨f0,f1,f2,f3,f4,f5⟩
  simp only [lgA,lgZ,lgS]
  go_simp
 simp only [lgA,lgZ,lgS,Act.put,lsA,lsZ,lsS]
 refine wpAnyG.tA 2 (v:=.int .i64 ((P.nm.size:Int))) (by decide) 15 (by as_aux_lemma=>kernel_rfl) (by rfl) ?y2 (HBX _ hc0) ?_
 case y2 =>
  rintro w' ⟨f0,f1,f2,f3,f4,f5⟩
  simp only [lgA,lgZ,lgS]
  go_simp
 simp only [lgA,lgZ,lgS,Act.put,lsA,lsZ,lsS]
 refine wpAnyG.tA 3 (v:=.pointer (some ⟨w.heap.size,2,none⟩)) (by decide) 15 (by as_aux_lemma=>kernel_rfl) (by rfl) ?y3 (HBX _ hc0) ?_
 case y3 =>
  rintro w' ⟨f0,f1,f2,f3,f4,f5⟩
  simp only [lgA,lgZ,lgS]
  go_simp
 simp only [lgA,lgZ,lgS,Act.put,lsA,lsZ,lsS]
 refine wpAnyG.tA 4 (v:=.agg #[.bool P.p,.slice P.a P.na P.ca,.slice P.d P.nd P.cd]) (by decide) 15 (by as_aux_lemma=>kernel_rfl) (by rfl) ?y4 (HBX _ hc0) ?_
 case y4 =>
  rintro w' ⟨f0,f1,f2,f3,f4,f5⟩
  simp only [lgA,lgZ,lgS]
  go_simp
 simp only [lgA,lgZ,lgS,Act.put,lsA,lsZ,lsS]
 refine wpAnyG.tA 7 (v:=.pointer (some ⟨w.heap.size,5,none⟩)) (by decide) 15 (by as_aux_lemma=>kernel_rfl) (by rfl) ?y7 (HBX _ hc0) ?_
 case y7 =>
  rintro w' ⟨f0,f1,f2,f3,f4,f5⟩
  simp only [lgA,lgZ,lgS]
  go_simp
 simp only [lgA,lgZ,lgS,Act.put,lsA,lsZ,lsS]
 refine wpAnyG.tA 8 (v:=.slice P.va P.vn P.vc) (by decide) 15 (by as_aux_lemma=>kernel_rfl) (by rfl) ?y8 (HBX _ hc0) ?_
 case y8 =>
  rintro w' ⟨f0,f1,f2,f3,f4,f5⟩
  simp only [lgA,lgZ,lgS]
  go_simp
 simp only [lgA,lgZ,lgS,Act.put,lsA,lsZ,lsS]
 refine wpAnyG.tA 9 (v:=.int .i64 ((P.vn:Int))) (by decide) 15 (by as_aux_lemma=>kernel_rfl) (by rfl) ?y9 (HBX _ hc0) ?_
 case y9 =>
  rintro w' ⟨f0,f1,f2,f3,f4,f5⟩
  simp only [lgA,lgZ,lgS]
  go_simp
 simp only [lgA,lgZ,lgS,Act.put,lsA,lsZ,lsS]
 refine wpAnyG.tA 11 (v:=.pointer (some ⟨w.heap.size,6,none⟩)) (by decide) 15 (by as_aux_lemma=>kernel_rfl) (by rfl) ?y11 (HBX _ hc0) ?_
 case y11 =>
  rintro w' ⟨f0,f1,f2,f3,f4,f5⟩
  simp only [lgA,lgZ,lgS]
  go_simp
 simp only [lgA,lgZ,lgS,Act.put,lsA,lsZ,lsS]
 refine wpAnyG.tA 12 (v:=.slice P.ra P.rn P.rc) (by decide) 15 (by as_aux_lemma=>kernel_rfl) (by rfl) ?y12 (HBX _ hc0) ?_
 case y12 =>
  rintro w' ⟨f0,f1,f2,f3,f4,f5⟩
  simp only [lgA,lgZ,lgS]
  go_simp
 simp only [lgA,lgZ,lgS,Act.put,lsA,lsZ,lsS]
 refine wpAnyG.tA 13 (v:=.int .i64 ((P.rn:Int))) (by decide) 15 (by as_aux_lemma=>kernel_rfl) (by rfl) ?y13 (HBX _ hc0) ?_
 case y13 =>
  rintro w' ⟨f0,f1,f2,f3,f4,f5⟩
  simp only [lgA,lgZ,lgS]
  go_simp
 simp only [lgA,lgZ,lgS,Act.put,lsA,lsZ,lsS]
 refine wpAnyG.one 5 (by as_aux_lemma=>kernel_rfl) (by decide) (by rfl) (fun K hK=>?_)
 simp only [lgA,lgZ,lgS]
 go_simp
 refine (weightQ z0).mono ?_
 rintro e z1 ⟨k1,rfl,hk1⟩
 have hc1:Below W.heap.size W z1:=bel_tr hc0 hk1
 dsimp only
 refine hK _ _ (HBX _ hc1) ?_
 clear hK K
 refine wpAnyG.tA 6 (v:=.int .i64 (IntKind.i64.wrap ((P.nm.size:Int)+k1))) (by decide) 15 (by as_aux_lemma=>kernel_rfl) (by rfl) ?y6 (HBX _ hc1) ?_
 case y6 =>
  rintro w' ⟨f0,f1,f2,f3,f4,f5⟩
  simp only [lgA,lgZ,lgS]
  go_simp
 simp only [lgA,lgZ,lgS,Act.put,lsA,lsZ,lsS]
 refine wpAnyG.tA 10 (v:=.int .i64 (IntKind.i64.wrap (IntKind.i64.wrap ((P.nm.size:Int)+k1)+(P.vn:Int)))) (by decide) 15 (by as_aux_lemma=>kernel_rfl) (by rfl) ?y10 (HBX _ hc1) ?_
 case y10 =>
  rintro w' ⟨f0,f1,f2,f3,f4,f5⟩
  simp only [lgA,lgZ,lgS]
  go_simp
 simp only [lgA,lgZ,lgS,Act.put,lsA,lsZ,lsS]
 refine wpAnyG.tA 14 (v:=.int .i64 (IntKind.i64.wrap (IntKind.i64.wrap (IntKind.i64.wrap ((P.nm.size:Int)+k1)+(P.vn:Int))+(P.rn:Int)))) (by decide) 15 (by as_aux_lemma=>kernel_rfl) (by rfl) ?y14 (HBX _ hc1) ?_
 case y14 =>
  rintro w' ⟨f0,f1,f2,f3,f4,f5⟩
  simp only [lgA,lgZ,lgS]
  go_simp
 simp only [lgA,lgZ,lgS,Act.put,lsA,lsZ,lsS]
 refine wpAnyG.one 15 (by as_aux_lemma=>kernel_rfl) (by decide) (by rfl) (fun K hK=>?_)
 simp only [lgA,lgZ,lgS]
 go_simp
 refine hK _ _ (HBX _ hc1) ?_
 clear hK K
 refine wpAnyG.done (by as_aux_lemma=>kernel_rfl) (NoPanic.normal ?_)
 replace Pb:=Pb.below hc1
 replace hb:=bel_tr hb hc1
 clear HBX hk1 hc0 hc1 p1 p2 p3 p4 p5 p6
 generalize z1=wA at *
 go_wp2
 go_loopw [3,4] (fun s3 s4 wr=>∃ (j:Nat) (x:Int),j≤P.vn∧s4 = .int .i64 j∧s3 = .int .i64 x∧Below wA.heap.size wA wr) (fun _ s4 _=>P.vn-(intOf s4).toNat)
 case atStart=>exact ⟨0,_,Nat.zero_le _,rfl,rfl,Below.refl _ _⟩
 case round =>
  obtain ⟨i,x,hi,rfl,rfl,hbr⟩:=hrel
  have q5:=(Pb.below hbr) 5 _ rfl
  by_cases hgo:i<P.vn∧x<2147483648
  ·obtain ⟨hlt,hx⟩:=hgo
   have hkI:(i:Int)<(P.vn:Int):=by omega
   have hbel:=bel_tr hb hbr
   rcases (hP.v.below hbel) with h0|⟨bv,ov,hva,hev⟩
   ·omega
   have hV:=hev i hlt
   obtain ⟨nmV,enm⟩:∃ nmV,nmV=(P.V i).nm:=⟨_,rfl⟩
   obtain ⟨hl,ehl⟩:∃ hl,hl=(P.V i).hlo:=⟨_,rfl⟩
   obtain ⟨hh,ehh⟩:∃ hh,hh=(P.V i).hhi:=⟨_,rfl⟩
   obtain ⟨wh,ewh⟩:∃ wh,wh=(P.V i).whole:=⟨_,rfl⟩
   have r0:=hV.nm
   obtain ⟨pO,aO,nO,cO,dO,mO,lO,r1,r2,r3,_⟩:=hV.obj
   have r4:=hV.hlo
   obtain ⟨pL,aL,nL,cL,dL,mL,lL,r5,r6,r7,_⟩:=hV.lo
   have r8:=hV.hhi
   obtain ⟨pH,aH,nH,cH,dH,mH,lH,r9,r10,r11,_⟩:=hV.hi
   have r12:=hV.whole
   rw [← enm] at r0
   rw [← ehl] at r4
   rw [← ehh] at r8
   rw [← ewh] at r12
   have hkI2:(i:Int)*13=((i*13:Nat):Int):=by omega
   rw [hva] at q5
   clear hev hV enm ehl ehh ewh hva hbel
   have N:=box_new wr #[.string nmV,.bool pO,.slice aO nO cO,.slice dO mO lO,.bool hl,.bool pL,.slice aL nL cL,.slice dL mL lL,.bool hh,.bool pH,.slice aH nH cH,.slice dH mH lH,.bool wh] 51
   have hz:=bel_d0 wr (.cells #[.string nmV,.bool pO,.slice aO nO cO,.slice dO mO lO,.bool hl,.bool pL,.slice aL nL cL,.slice dL mL lL,.bool hh,.bool pH,.slice aH nH cH,.slice dH mH lH,.bool wh] 51)
   go_wp2_with fail
   replace hbr:=bel_tr hbr hz
   generalize wr.alloc (.cells #[.string nmV,.bool pO,.slice aO nO cO,.slice dO mO lO,.bool hl,.bool pL,.slice aL nL cL,.slice dL mL lL,.bool hh,.bool pH,.slice aH nH cH,.slice dH mH lH,.bool wh] 51)=W2 at *
   clear r0 r1 r2 r3 r4 r5 r6 r7 r8 r9 r10 r11 r12 hz q5
   have n0:=N 0 _ rfl
   have n1:=N 1 _ rfl
   have n2:=N 2 _ rfl
   have n3:=N 3 _ rfl
   have n5:=N 5 _ rfl
   have n6:=N 6 _ rfl
   have n7:=N 7 _ rfl
   have n9:=N 9 _ rfl
   have n10:=N 10 _ rfl
   have n11:=N 11 _ rfl
   have HBX:∀ w',Below W2.heap.size W2 w'→(w'.cell? ⟨wr.heap.size,0,none⟩=some (.string nmV)∧w'.cell? ⟨wr.heap.size,1,none⟩=some (.bool pO)∧w'.cell? ⟨wr.heap.size,2,none⟩=some (.slice aO nO cO)∧w'.cell? ⟨wr.heap.size,3,none⟩=some (.slice dO mO lO)∧w'.cell? ⟨wr.heap.size,5,none⟩=some (.bool pL)∧w'.cell? ⟨wr.heap.size,6,none⟩=some (.slice aL nL cL)∧w'.cell? ⟨wr.heap.size,7,none⟩=some (.slice dL mL lL)∧w'.cell? ⟨wr.heap.size,9,none⟩=some (.bool pH)∧w'.cell? ⟨wr.heap.size,10,none⟩=some (.slice aH nH cH)∧w'.cell? ⟨wr.heap.size,11,none⟩=some (.slice dH mH lH)):=fun w' h=>⟨kept_c h n0,kept_c h n1,kept_c h n2,kept_c h n3,kept_c h n5,kept_c h n6,kept_c h n7,kept_c h n9,kept_c h n10,kept_c h n11⟩
   refine wp_region_noPanic (wp_region_guardB HBX (by as_aux_lemma=>kernel_rfl) ?_)
   have hc0:Below W2.heap.size W2 W2.drew:=bel_d1 _
   generalize W2.drew=y0 at *
   refine wpAnyG.tA 0 (v:=.int .i64 (x)) (by decide) 19 (by as_aux_lemma=>kernel_rfl) (by rfl) ?y0 (HBX _ hc0) ?_
   case y0 =>
    rintro w' ⟨f0,f1,f2,f3,f4,f5,f6,f7,f8,f9⟩
    simp only [lgA,lgZ]
    go_simp
   simp only [lgA,lgZ,Act.put,lsA,lsZ,lsS]
   refine wpAnyG.tA 1 (v:=.pointer (some ⟨wr.heap.size,0,none⟩)) (by decide) 19 (by as_aux_lemma=>kernel_rfl) (by rfl) ?y1 (HBX _ hc0) ?_
   case y1 =>
    rintro w' ⟨f0,f1,f2,f3,f4,f5,f6,f7,f8,f9⟩
    simp only [lgA,lgZ,lgS]
    go_simp
   simp only [lgA,lgZ,lgS,Act.put,lsA,lsZ,lsS]
   refine wpAnyG.tA 2 (v:=.string nmV) (by decide) 19 (by as_aux_lemma=>kernel_rfl) (by rfl) ?y2 (HBX _ hc0) ?_
   case y2 =>
    rintro w' ⟨f0,f1,f2,f3,f4,f5,f6,f7,f8,f9⟩
    simp only [lgA,lgZ,lgS]
    go_simp
   simp only [lgA,lgZ,lgS,Act.put,lsA,lsZ,lsS]
   refine wpAnyG.tA 3 (v:=.int .i64 ((nmV.size:Int))) (by decide) 19 (by as_aux_lemma=>kernel_rfl) (by rfl) ?y3 (HBX _ hc0) ?_
   case y3 =>
    rintro w' ⟨f0,f1,f2,f3,f4,f5,f6,f7,f8,f9⟩
    simp only [lgA,lgZ,lgS]
    go_simp
   simp only [lgA,lgZ,lgS,Act.put,lsA,lsZ,lsS]
   refine wpAnyG.tA 4 (v:=.int .i64 (IntKind.i64.wrap (x+(nmV.size:Int)))) (by decide) 19 (by as_aux_lemma=>kernel_rfl) (by rfl) ?y4 (HBX _ hc0) ?_
   case y4 =>
    rintro w' ⟨f0,f1,f2,f3,f4,f5,f6,f7,f8,f9⟩
    simp only [lgA,lgZ,lgS]
    go_simp
   simp only [lgA,lgZ,lgS,Act.put,lsA,lsZ,lsS]
   refine wpAnyG.tA 5 (v:=.pointer (some ⟨wr.heap.size,1,none⟩)) (by decide) 19 (by as_aux_lemma=>kernel_rfl) (by rfl) ?y5 (HBX _ hc0) ?_
   case y5 =>
    rintro w' ⟨f0,f1,f2,f3,f4,f5,f6,f7,f8,f9⟩
    simp only [lgA,lgZ,lgS]
    go_simp
   simp only [lgA,lgZ,lgS,Act.put,lsA,lsZ,lsS]
   refine wpAnyG.tA 6 (v:=.agg #[.bool pO,.slice aO nO cO,.slice dO mO lO]) (by decide) 19 (by as_aux_lemma=>kernel_rfl) (by rfl) ?y6 (HBX _ hc0) ?_
   case y6 =>
    rintro w' ⟨f0,f1,f2,f3,f4,f5,f6,f7,f8,f9⟩
    simp only [lgA,lgZ,lgS]
    go_simp
   simp only [lgA,lgZ,lgS,Act.put,lsA,lsZ,lsS]
   refine wpAnyG.tA 9 (v:=.pointer (some ⟨wr.heap.size,4,none⟩)) (by decide) 19 (by as_aux_lemma=>kernel_rfl) (by rfl) ?y9 (HBX _ hc0) ?_
   case y9 =>
    rintro w' ⟨f0,f1,f2,f3,f4,f5,f6,f7,f8,f9⟩
    simp only [lgA,lgZ,lgS]
    go_simp
   simp only [lgA,lgZ,lgS,Act.put,lsA,lsZ,lsS]
   refine wpAnyG.tA 10 (v:=.pointer (some ⟨wr.heap.size,5,none⟩)) (by decide) 19 (by as_aux_lemma=>kernel_rfl) (by rfl) ?y10 (HBX _ hc0) ?_
   case y10 =>
    rintro w' ⟨f0,f1,f2,f3,f4,f5,f6,f7,f8,f9⟩
    simp only [lgA,lgZ,lgS]
    go_simp
   simp only [lgA,lgZ,lgS,Act.put,lsA,lsZ,lsS]
   refine wpAnyG.tA 11 (v:=.agg #[.bool pL,.slice aL nL cL,.slice dL mL lL]) (by decide) 19 (by as_aux_lemma=>kernel_rfl) (by rfl) ?y11 (HBX _ hc0) ?_
   case y11 =>
    rintro w' ⟨f0,f1,f2,f3,f4,f5,f6,f7,f8,f9⟩
    simp only [lgA,lgZ,lgS]
    go_simp
   simp only [lgA,lgZ,lgS,Act.put,lsA,lsZ,lsS]
   refine wpAnyG.tA 14 (v:=.pointer (some ⟨wr.heap.size,8,none⟩)) (by decide) 19 (by as_aux_lemma=>kernel_rfl) (by rfl) ?y14 (HBX _ hc0) ?_
   case y14 =>
    rintro w' ⟨f0,f1,f2,f3,f4,f5,f6,f7,f8,f9⟩
    simp only [lgA,lgZ,lgS]
    go_simp
   simp only [lgA,lgZ,lgS,Act.put,lsA,lsZ,lsS]
   refine wpAnyG.tA 15 (v:=.pointer (some ⟨wr.heap.size,9,none⟩)) (by decide) 19 (by as_aux_lemma=>kernel_rfl) (by rfl) ?y15 (HBX _ hc0) ?_
   case y15 =>
    rintro w' ⟨f0,f1,f2,f3,f4,f5,f6,f7,f8,f9⟩
    simp only [lgA,lgZ,lgS]
    go_simp
   simp only [lgA,lgZ,lgS,Act.put,lsA,lsZ,lsS]
   refine wpAnyG.tA 16 (v:=.agg #[.bool pH,.slice aH nH cH,.slice dH mH lH]) (by decide) 19 (by as_aux_lemma=>kernel_rfl) (by rfl) ?y16 (HBX _ hc0) ?_
   case y16 =>
    rintro w' ⟨f0,f1,f2,f3,f4,f5,f6,f7,f8,f9⟩
    simp only [lgA,lgZ,lgS]
    go_simp
   simp only [lgA,lgZ,lgS,Act.put,lsA,lsZ,lsS]
   refine wpAnyG.one 7 (by as_aux_lemma=>kernel_rfl) (by decide) (by rfl) (fun K hK=>?_)
   simp only [lgA,lgZ,lgS]
   go_simp
   refine (weightQ y0).mono ?_
   rintro e y1 ⟨k1,rfl,hk1⟩
   have hc1:Below W2.heap.size W2 y1:=bel_tr hc0 hk1
   dsimp only
   refine hK _ _ (HBX _ hc1) ?_
   clear hK K
   refine wpAnyG.tA 8 (v:=.int .i64 (IntKind.i64.wrap (IntKind.i64.wrap (x+(nmV.size:Int))+k1))) (by decide) 19 (by as_aux_lemma=>kernel_rfl) (by rfl) ?y8 (HBX _ hc1) ?_
   case y8 =>
    rintro w' ⟨f0,f1,f2,f3,f4,f5,f6,f7,f8,f9⟩
    simp only [lgA,lgZ,lgS]
    go_simp
   simp only [lgA,lgZ,lgS,Act.put,lsA,lsZ,lsS]
   refine wpAnyG.one 12 (by as_aux_lemma=>kernel_rfl) (by decide) (by rfl) (fun K hK=>?_)
   simp only [lgA,lgZ,lgS]
   go_simp
   refine (weightQ y1).mono ?_
   rintro e y2 ⟨k2,rfl,hk2⟩
   have hc2:Below W2.heap.size W2 y2:=bel_tr hc1 hk2
   dsimp only
   refine hK _ _ (HBX _ hc2) ?_
   clear hK K
   refine wpAnyG.tA 13 (v:=.int .i64 (IntKind.i64.wrap (IntKind.i64.wrap (IntKind.i64.wrap (x+(nmV.size:Int))+k1)+k2))) (by decide) 19 (by as_aux_lemma=>kernel_rfl) (by rfl) ?y13 (HBX _ hc2) ?_
   case y13 =>
    rintro w' ⟨f0,f1,f2,f3,f4,f5,f6,f7,f8,f9⟩
    simp only [lgA,lgZ,lgS]
    go_simp
   simp only [lgA,lgZ,lgS,Act.put,lsA,lsZ,lsS]
   refine wpAnyG.one 17 (by as_aux_lemma=>kernel_rfl) (by decide) (by rfl) (fun K hK=>?_)
   simp only [lgA,lgZ,lgS]
   go_simp
   refine (weightQ y2).mono ?_
   rintro e y3 ⟨k3,rfl,hk3⟩
   have hc3:Below W2.heap.size W2 y3:=bel_tr hc2 hk3
   dsimp only
   refine hK _ _ (HBX _ hc3) ?_
   clear hK K
   refine wpAnyG.tA 18 (v:=.int .i64 (IntKind.i64.wrap (IntKind.i64.wrap (IntKind.i64.wrap (IntKind.i64.wrap (x+(nmV.size:Int))+k1)+k2)+k3))) (by decide) 19 (by as_aux_lemma=>kernel_rfl) (by rfl) ?y18 (HBX _ hc3) ?_
   case y18 =>
    rintro w' ⟨f0,f1,f2,f3,f4,f5,f6,f7,f8,f9⟩
    simp only [lgA,lgZ,lgS]
    go_simp
   simp only [lgA,lgZ,lgS,Act.put,lsA,lsZ,lsS]
   refine wpAnyG.one 19 (by as_aux_lemma=>kernel_rfl) (by decide) (by rfl) (fun K hK=>?_)
   simp only [lgA,lgZ,lgS]
   go_simp
   refine hK _ _ (HBX _ hc3) ?_
   clear hK K
   refine wpAnyG.done (by as_aux_lemma=>kernel_rfl) (NoPanic.normal ?_)
   replace hbr:=bel_tr hbr hc3
   clear HBX hk1 hk2 hk3 hc0 hc1 hc2 hc3 N n0 n1 n2 n3 n5 n6 n7 n9 n10 n11
   go_wp2
   go_roundw
   case rel=>first|exact ⟨i+1,_,by omega,by go_num,rfl,hbr⟩|((repeat apply Exists.intro);refine ⟨?_,rfl⟩;exact ⟨i+1,_,by omega,by go_num,rfl,hbr⟩)
   case measure=>simp [intOf];omega
  ·have two:(i<P.vn∧¬ x<2147483648)∨¬ i<P.vn:=by omega
   clear hgo
   rcases two with ⟨hlt,hx⟩|hx
   all_goals (
    first
     | (have hkI:(i:Int)<(P.vn:Int):=by omega)
     | (have hkI:¬ (i:Int)<(P.vn:Int):=by omega)
    go_wp2
    replace Pb:=Pb.below hbr
    replace hb:=bel_tr hb hbr
    clear hbr q5
    generalize wr=wB at *
    go_loopw [3,6] (fun s3 s6 wr=>∃ (j:Nat) (x:Int),j≤P.rn∧s6 = .int .i64 j∧s3 = .int .i64 x∧Below wB.heap.size wB wr) (fun _ s6 _=>P.rn-(intOf s6).toNat)
    case atStart=>exact ⟨0,_,Nat.zero_le _,rfl,rfl,Below.refl _ _⟩
    case round =>
     obtain ⟨i,x,hi,rfl,rfl,hbr⟩:=hrel
     have q6:=(Pb.below hbr) 6 _ rfl
     by_cases hgo:i<P.rn∧x<2147483648
     ·obtain ⟨hlt,hx⟩:=hgo
      have hkI:(i:Int)<(P.rn:Int):=by omega
      have hbel:=bel_tr hb hbr
      rcases (hP.r.below hbel) with h0|⟨rb,ro,hra,hew⟩
      ·omega
      have hR:=hew i hlt
      obtain ⟨nmV,enm⟩:∃ nmV,nmV=(P.R i).nm:=⟨_,rfl⟩
      obtain ⟨hl,ehl⟩:∃ hl,hl=(P.R i).hlo:=⟨_,rfl⟩
      obtain ⟨hh,ehh⟩:∃ hh,hh=(P.R i).hhi:=⟨_,rfl⟩
      obtain ⟨nt,ent⟩:∃ nt,nt=(P.R i).nt:=⟨_,rfl⟩
      obtain ⟨tt,ett⟩:∃ tt,tt=(P.R i).t:=⟨_,rfl⟩
      have r0:=hR.nm
      obtain ⟨ta,tc,Zt,r1,hLT,htot,htc⟩:=hR.terms
      have r2:=hR.hlo
      obtain ⟨pL,aL,nL,cL,dL,mL,lL,r3,r4,r5,_⟩:=hR.lo
      have r6:=hR.hhi
      obtain ⟨pH,aH,nH,cH,dH,mH,lH,r7,r8,r9,_⟩:=hR.hi
      have hnt:nt≤1048576:=by have:=tot_len Zt (P.R i).nt;have:=tot_le (Z:=P.ZR) hlt;have:=hP.all;omega
      rw [← enm] at r0
      rw [← ent] at r1 hLT
      rw [← ett] at hLT
      rw [← ehl] at r2
      rw [← ehh] at r6
      have hkI2:(i:Int)*10=((i*10:Nat):Int):=by omega
      rw [hra] at q6
      clear hew hR enm ehl ehh ent ett hra hbel htot htc
      have N:=box_new wr #[.string nmV,.slice ta nt tc,.bool hl,.bool pL,.slice aL nL cL,.slice dL mL lL,.bool hh,.bool pH,.slice aH nH cH,.slice dH mH lH] 54
      have hz:=bel_d0 wr (.cells #[.string nmV,.slice ta nt tc,.bool hl,.bool pL,.slice aL nL cL,.slice dL mL lL,.bool hh,.bool pH,.slice aH nH cH,.slice dH mH lH] 54)
      go_wp2_with fail
      replace hbr:=bel_tr hbr hz
      replace hLT:=hLT.below hz
      generalize wr.alloc (.cells #[.string nmV,.slice ta nt tc,.bool hl,.bool pL,.slice aL nL cL,.slice dL mL lL,.bool hh,.bool pH,.slice aH nH cH,.slice dH mH lH] 54)=W2 at *
      clear r0 r1 r2 r3 r4 r5 r6 r7 r8 r9 hz q6
      have n0:=N 0 _ rfl
      have n1:=N 1 _ rfl
      have n3:=N 3 _ rfl
      have n4:=N 4 _ rfl
      have n5:=N 5 _ rfl
      have n7:=N 7 _ rfl
      have n8:=N 8 _ rfl
      have n9:=N 9 _ rfl
      have HBX:∀ w',Below W2.heap.size W2 w'→(w'.cell? ⟨wr.heap.size,0,none⟩=some (.string nmV)∧w'.cell? ⟨wr.heap.size,1,none⟩=some (.slice ta nt tc)∧w'.cell? ⟨wr.heap.size,3,none⟩=some (.bool pL)∧w'.cell? ⟨wr.heap.size,4,none⟩=some (.slice aL nL cL)∧w'.cell? ⟨wr.heap.size,5,none⟩=some (.slice dL mL lL)∧w'.cell? ⟨wr.heap.size,7,none⟩=some (.bool pH)∧w'.cell? ⟨wr.heap.size,8,none⟩=some (.slice aH nH cH)∧w'.cell? ⟨wr.heap.size,9,none⟩=some (.slice dH mH lH)):=fun w' h=>⟨kept_c h n0,kept_c h n1,kept_c h n3,kept_c h n4,kept_c h n5,kept_c h n7,kept_c h n8,kept_c h n9⟩
      refine wp_region_noPanic (wp_region_guardB HBX (by as_aux_lemma=>kernel_rfl) ?_)
      have hc0:Below W2.heap.size W2 W2.drew:=bel_d1 _
      generalize W2.drew=y0 at *
      refine wpAnyG.tA 0 (v:=.int .i64 (x)) (by decide) 19 (by as_aux_lemma=>kernel_rfl) (by rfl) ?y0 (HBX _ hc0) ?_
      case y0 =>
       rintro w' ⟨f0,f1,f2,f3,f4,f5,f6,f7⟩
       simp only [lgA,lgZ]
       go_simp
      simp only [lgA,lgZ,Act.put,lsA,lsZ,lsS]
      refine wpAnyG.tA 1 (v:=.pointer (some ⟨wr.heap.size,0,none⟩)) (by decide) 19 (by as_aux_lemma=>kernel_rfl) (by rfl) ?y1 (HBX _ hc0) ?_
      case y1 =>
       rintro w' ⟨f0,f1,f2,f3,f4,f5,f6,f7⟩
       simp only [lgA,lgZ,lgS]
       go_simp
      simp only [lgA,lgZ,lgS,Act.put,lsA,lsZ,lsS]
      refine wpAnyG.tA 2 (v:=.string nmV) (by decide) 19 (by as_aux_lemma=>kernel_rfl) (by rfl) ?y2 (HBX _ hc0) ?_
      case y2 =>
       rintro w' ⟨f0,f1,f2,f3,f4,f5,f6,f7⟩
       simp only [lgA,lgZ,lgS]
       go_simp
      simp only [lgA,lgZ,lgS,Act.put,lsA,lsZ,lsS]
      refine wpAnyG.tA 3 (v:=.int .i64 ((nmV.size:Int))) (by decide) 19 (by as_aux_lemma=>kernel_rfl) (by rfl) ?y3 (HBX _ hc0) ?_
      case y3 =>
       rintro w' ⟨f0,f1,f2,f3,f4,f5,f6,f7⟩
       simp only [lgA,lgZ,lgS]
       go_simp
      simp only [lgA,lgZ,lgS,Act.put,lsA,lsZ,lsS]
      refine wpAnyG.tA 4 (v:=.int .i64 (IntKind.i64.wrap (x+(nmV.size:Int)))) (by decide) 19 (by as_aux_lemma=>kernel_rfl) (by rfl) ?y4 (HBX _ hc0) ?_
      case y4 =>
       rintro w' ⟨f0,f1,f2,f3,f4,f5,f6,f7⟩
       simp only [lgA,lgZ,lgS]
       go_simp
      simp only [lgA,lgZ,lgS,Act.put,lsA,lsZ,lsS]
      refine wpAnyG.tA 5 (v:=.pointer (some ⟨wr.heap.size,2,none⟩)) (by decide) 19 (by as_aux_lemma=>kernel_rfl) (by rfl) ?y5 (HBX _ hc0) ?_
      case y5 =>
       rintro w' ⟨f0,f1,f2,f3,f4,f5,f6,f7⟩
       simp only [lgA,lgZ,lgS]
       go_simp
      simp only [lgA,lgZ,lgS,Act.put,lsA,lsZ,lsS]
      refine wpAnyG.tA 6 (v:=.pointer (some ⟨wr.heap.size,3,none⟩)) (by decide) 19 (by as_aux_lemma=>kernel_rfl) (by rfl) ?y6 (HBX _ hc0) ?_
      case y6 =>
       rintro w' ⟨f0,f1,f2,f3,f4,f5,f6,f7⟩
       simp only [lgA,lgZ,lgS]
       go_simp
      simp only [lgA,lgZ,lgS,Act.put,lsA,lsZ,lsS]
      refine wpAnyG.tA 7 (v:=.agg #[.bool pL,.slice aL nL cL,.slice dL mL lL]) (by decide) 19 (by as_aux_lemma=>kernel_rfl) (by rfl) ?y7 (HBX _ hc0) ?_
      case y7 =>
       rintro w' ⟨f0,f1,f2,f3,f4,f5,f6,f7⟩
       simp only [lgA,lgZ,lgS]
       go_simp
      simp only [lgA,lgZ,lgS,Act.put,lsA,lsZ,lsS]
      refine wpAnyG.tA 10 (v:=.pointer (some ⟨wr.heap.size,6,none⟩)) (by decide) 19 (by as_aux_lemma=>kernel_rfl) (by rfl) ?y10 (HBX _ hc0) ?_
      case y10 =>
       rintro w' ⟨f0,f1,f2,f3,f4,f5,f6,f7⟩
       simp only [lgA,lgZ,lgS]
       go_simp
      simp only [lgA,lgZ,lgS,Act.put,lsA,lsZ,lsS]
      refine wpAnyG.tA 11 (v:=.pointer (some ⟨wr.heap.size,7,none⟩)) (by decide) 19 (by as_aux_lemma=>kernel_rfl) (by rfl) ?y11 (HBX _ hc0) ?_
      case y11 =>
       rintro w' ⟨f0,f1,f2,f3,f4,f5,f6,f7⟩
       simp only [lgA,lgZ,lgS]
       go_simp
      simp only [lgA,lgZ,lgS,Act.put,lsA,lsZ,lsS]
      refine wpAnyG.tA 12 (v:=.agg #[.bool pH,.slice aH nH cH,.slice dH mH lH]) (by decide) 19 (by as_aux_lemma=>kernel_rfl) (by rfl) ?y12 (HBX _ hc0) ?_
      case y12 =>
       rintro w' ⟨f0,f1,f2,f3,f4,f5,f6,f7⟩
       simp only [lgA,lgZ,lgS]
       go_simp
      simp only [lgA,lgZ,lgS,Act.put,lsA,lsZ,lsS]
      refine wpAnyG.tA 15 (v:=.pointer (some ⟨wr.heap.size,1,none⟩)) (by decide) 19 (by as_aux_lemma=>kernel_rfl) (by rfl) ?y15 (HBX _ hc0) ?_
      case y15 =>
       rintro w' ⟨f0,f1,f2,f3,f4,f5,f6,f7⟩
       simp only [lgA,lgZ,lgS]
       go_simp
      simp only [lgA,lgZ,lgS,Act.put,lsA,lsZ,lsS]
      refine wpAnyG.tA 16 (v:=.slice ta nt tc) (by decide) 19 (by as_aux_lemma=>kernel_rfl) (by rfl) ?y16 (HBX _ hc0) ?_
      case y16 =>
       rintro w' ⟨f0,f1,f2,f3,f4,f5,f6,f7⟩
       simp only [lgA,lgZ,lgS]
       go_simp
      simp only [lgA,lgZ,lgS,Act.put,lsA,lsZ,lsS]
      refine wpAnyG.tA 17 (v:=.int .i64 ((nt:Int))) (by decide) 19 (by as_aux_lemma=>kernel_rfl) (by rfl) ?y17 (HBX _ hc0) ?_
      case y17 =>
       rintro w' ⟨f0,f1,f2,f3,f4,f5,f6,f7⟩
       simp only [lgA,lgZ,lgS]
       go_simp
      simp only [lgA,lgZ,lgS,Act.put,lsA,lsZ,lsS]
      refine wpAnyG.one 8 (by as_aux_lemma=>kernel_rfl) (by decide) (by rfl) (fun K hK=>?_)
      simp only [lgA,lgZ,lgS]
      go_simp
      refine (weightQ y0).mono ?_
      rintro e y1 ⟨k1,rfl,hk1⟩
      have hc1:Below W2.heap.size W2 y1:=bel_tr hc0 hk1
      dsimp only
      refine hK _ _ (HBX _ hc1) ?_
      clear hK K
      refine wpAnyG.tA 9 (v:=.int .i64 (IntKind.i64.wrap (IntKind.i64.wrap (x+(nmV.size:Int))+k1))) (by decide) 19 (by as_aux_lemma=>kernel_rfl) (by rfl) ?y9 (HBX _ hc1) ?_
      case y9 =>
       rintro w' ⟨f0,f1,f2,f3,f4,f5,f6,f7⟩
       simp only [lgA,lgZ,lgS]
       go_simp
      simp only [lgA,lgZ,lgS,Act.put,lsA,lsZ,lsS]
      refine wpAnyG.one 13 (by as_aux_lemma=>kernel_rfl) (by decide) (by rfl) (fun K hK=>?_)
      simp only [lgA,lgZ,lgS]
      go_simp
      refine (weightQ y1).mono ?_
      rintro e y2 ⟨k2,rfl,hk2⟩
      have hc2:Below W2.heap.size W2 y2:=bel_tr hc1 hk2
      dsimp only
      refine hK _ _ (HBX _ hc2) ?_
      clear hK K
      refine wpAnyG.tA 14 (v:=.int .i64 (IntKind.i64.wrap (IntKind.i64.wrap (IntKind.i64.wrap (x+(nmV.size:Int))+k1)+k2))) (by decide) 19 (by as_aux_lemma=>kernel_rfl) (by rfl) ?y14 (HBX _ hc2) ?_
      case y14 =>
       rintro w' ⟨f0,f1,f2,f3,f4,f5,f6,f7⟩
       simp only [lgA,lgZ,lgS]
       go_simp
      simp only [lgA,lgZ,lgS,Act.put,lsA,lsZ,lsS]
      refine wpAnyG.tA 18 (v:=.int .i64 (IntKind.i64.wrap (IntKind.i64.wrap (IntKind.i64.wrap (IntKind.i64.wrap (x+(nmV.size:Int))+k1)+k2)+(nt:Int)))) (by decide) 19 (by as_aux_lemma=>kernel_rfl) (by rfl) ?y18 (HBX _ hc2) ?_
      case y18 =>
       rintro w' ⟨f0,f1,f2,f3,f4,f5,f6,f7⟩
       simp only [lgA,lgZ,lgS]
       go_simp
      simp only [lgA,lgZ,lgS,Act.put,lsA,lsZ,lsS]
      refine wpAnyG.one 19 (by as_aux_lemma=>kernel_rfl) (by decide) (by rfl) (fun K hK=>?_)
      simp only [lgA,lgZ,lgS]
      go_simp
      refine hK _ _ (HBX _ hc2) ?_
      clear hK K
      refine wpAnyG.done (by as_aux_lemma=>kernel_rfl) (NoPanic.normal ?_)
      replace hbr:=bel_tr hbr hc2
      replace hLT:=hLT.below hc2
      replace N:=N.below hc2
      clear HBX hk1 hk2 hc0 hc1 hc2 n0 n1 n3 n4 n5 n7 n8 n9
      have hw0:wr.heap.size<wr.heap.size+1:=by omega
      generalize wr.heap.size=vb at *
      generalize y2=wC at *
      go_wp2
      go_loopw [3,8] (fun s3 s8 wr=>∃ (k:Nat) (x:Int),k≤nt∧s8 = .int .i64 k∧s3 = .int .i64 x∧Below wC.heap.size wC wr) (fun _ s8 _=>nt-(intOf s8).toNat)
      case atStart=>exact ⟨0,_,Nat.zero_le _,rfl,rfl,Below.refl _ _⟩
      case round =>
       obtain ⟨k,x2,hk,rfl,rfl,hbq⟩:=hrel
       have n1:=(N.below hbq) 1 _ rfl
       by_cases hgo2:k<nt∧x2<2147483648
       ·obtain ⟨hlt2,hx2⟩:=hgo2
        have hkJ:(k:Int)<(nt:Int):=by omega
        rcases (hLT.below hbq) with h0|⟨tb,tq,rfl,hel⟩
        ·omega
        obtain ⟨t0,⟨pC,aC,nC,cC,dC,mC,lC,t1,t2,t3,_⟩,_⟩:=hel k hlt2
        have hkJ2:(k:Int)*4=((k*4:Nat):Int):=by omega
        clear hel t0
        go_wp2_with fail
        refine (weightQ wr).mono ?_
        rintro e w4 ⟨k4,rfl,h4⟩
        replace hbq:=bel_tr hbq h4
        clear h4 n1 t1 t2 t3
        go_wp2
        go_roundw
        case rel=>first|exact ⟨k+1,_,by omega,by go_num,rfl,hbq⟩|((repeat apply Exists.intro);refine ⟨?_,rfl⟩;exact ⟨k+1,_,by omega,by go_num,rfl,hbq⟩)
        case measure=>simp [intOf];omega
       ·by_cases hlt2:k<nt
        ·have hkJ:(k:Int)<(nt:Int):=by omega
         have hx2:¬ x2<2147483648:=fun h=>hgo2 ⟨hlt2,h⟩
         clear hgo2
         go_wp2
         go_roundw
         case rel=>first|exact ⟨i+1,_,by omega,by go_num,rfl,bel_tr hbr hbq⟩|((repeat apply Exists.intro);refine ⟨?_,rfl⟩;exact ⟨i+1,_,by omega,by go_num,rfl,bel_tr hbr hbq⟩)
         case measure=>simp [intOf];omega
        ·have hkJ:¬ (k:Int)<(nt:Int):=by omega
         clear hgo2
         go_wp2
         go_roundw
         case rel=>first|exact ⟨i+1,_,by omega,by go_num,rfl,bel_tr hbr hbq⟩|((repeat apply Exists.intro);refine ⟨?_,rfl⟩;exact ⟨i+1,_,by omega,by go_num,rfl,bel_tr hbr hbq⟩)
         case measure=>simp [intOf];omega
     ·by_cases hlt:i<P.rn
      ·have hkI:(i:Int)<(P.rn:Int):=by omega
       have hx:¬ x<2147483648:=fun h=>hgo ⟨hlt,h⟩
       clear hgo
       go_wp2
       go_ret
       exact ⟨_,rfl,bel_tr hb hbr⟩
      ·have hkI:¬ (i:Int)<(P.rn:Int):=by omega
       clear hgo
       go_wp2
       go_ret
       exact ⟨_,rfl,bel_tr hb hbr⟩)
end Go.Proofs.YtceigfafmalfgaaGreatDoor

import Derived.Test.YtmeimjakdheidaaGreatDoorShR0All
import Derived.Test.YtmeimjakdheidaaGreatDoorTxAll
set_option maxRecDepth 100000
set_option maxHeartbeats 16000000
namespace Go.Proofs.YtmeimjakdheidaaGreatDoor
open Go.RowKit
theorem AL.at {w:World} {B:Nat} {aA:Option Addr} {m cA:Nat} {es:List Eqn} {n S:Nat} {bad:Option Nat} (h:AL w B (.slice aA m cA) es n S bad) {i:Nat} (hi:i<es.length):∃ gA g,aA=some ⟨gA,0,none⟩∧w.cell? ⟨gA,i,none⟩=some (.slice (some ⟨g,0,none⟩) n n)∧RL w 0 (.slice (some ⟨g,0,none⟩) n n) n (bV (es.getD i ⟨[],0⟩).l) S:=by
 obtain ⟨E,h1,h2⟩:=h
 have hl:es[i]? = some (es.getD i ⟨[],0⟩):=by rw [List.getD_eq_getElem?_getD,List.getElem?_eq_getElem hi];rfl
 rcases h1.cell with h0|⟨g,e,hc⟩
 ·omega
 obtain ⟨g',e1,_,hr⟩:=h2 i _ hl
 have hk:=hc i hi
 rw [e1] at hk
 exact ⟨g,g',e,by simpa using hk 0 _ rfl,hr⟩
theorem AL.below {w w':World} {B:Nat} {v:Value} {es:List Eqn} {n S:Nat} {bad:Option Nat} (h:AL w B v es n S bad) (hb:Below w.heap.size w w'):AL w' B v es n S bad:=h.kx (dU (R:=0) (F:=0) (L:=[]) hb (Nat.zero_le _)) (by simp) (by simp) (by simp)
theorem xat_zn (X:Nat→Rat) (n i:Nat):xat X n (i:Int)=zn n X i:=by
 unfold xat zn
 by_cases h:i<n
 ·rw [if_pos (by omega),if_pos h];rfl
 ·rw [if_neg (by omega),if_neg h]
theorem uD {aA:Option Addr} {cA:Nat} {aB:Option Addr} {cB gC n:Nat} {fK:Bool} {cK:Option Addr} {nK kK:Nat} {dK:Option Addr} {mK lK:Nat} {es:List Eqn} {S:Nat} {B:Nat} (i j:Nat) (w:World) (hA:AL w B (.slice aA es.length cA) es n S none) (hi:i<es.length) (hj:j<n) (hS1:1≤S) (hS7:S≤7000000) :
 Calls Tryz.prog 28 #[.agg #[.slice aA es.length cA,.slice aB es.length cB,.slice (some ⟨gC,0,none⟩) n n,.bool fK,.slice cK nK kK,.slice dK mK lK],.int .i64 (i:Nat),.int .i64 (j:Nat)] w fun e w'=>NumP w (bV (es.getD i ⟨[],0⟩).l j) S e w':=by
 obtain ⟨Bd,B1,hb,hs⟩:=boxd2 w #[.slice aA es.length cA,.slice aB es.length cB,.slice (some ⟨gC,0,none⟩) n n,.bool fK,.slice cK nK kK,.slice dK mK lK] 39 #[.bool false,.slice none 0 0,.slice none 0 0] 27
 have R1:Rw 27 ((w.alloc (.cells #[.slice aA es.length cA,.slice aB es.length cB,.slice (some ⟨gC,0,none⟩) n n,.bool fK,.slice cK nK kK,.slice dK mK lK] 39)).alloc (.cells #[.bool false,.slice none 0 0,.slice none 0 0] 27)) (w.heap.size+1) #[.bool false,.slice none 0 0,.slice none 0 0]:=by
  have:=Rw.new 27 (w.alloc (.cells #[.slice aA es.length cA,.slice aB es.length cB,.slice (some ⟨gC,0,none⟩) n n,.bool fK,.slice cK nK kK,.slice dK mK lK] 39)) #[.bool false,.slice none 0 0,.slice none 0 0]
  rwa [show (w.alloc (.cells #[.slice aA es.length cA,.slice aB es.length cB,.slice (some ⟨gC,0,none⟩) n n,.bool fK,.slice cK nK kK,.slice dK mK lK] 39)).heap.size=w.heap.size+1 by simp] at this
 have y0:=Bd 0 _ rfl
 have hi0:¬ (i:Int)<0:=by omega
 have hi1:¬ ((es.length:Nat):Int)≤(i:Int):=by omega
 have hi2:(i:Int)<((es.length:Nat):Int):=by omega
 have hi3:(i:Int)*1=((i:Nat):Int):=by omega
 obtain ⟨gA,g,rfl,a0,RR⟩:=hA.at hi
 replace a0:=aG hb a0
 replace RR:=RR.below hb
 go_enter Tryz.func28,Tryz.ntmps28
 go_wp2_with fail
 clear y0 Bd B1
 generalize (w.alloc (.cells #[.slice (some ⟨gA,0,none⟩) es.length cA,.slice aB es.length cB,.slice (some ⟨gC,0,none⟩) n n,.bool fK,.slice cK nK kK,.slice dK mK lK] 39)).alloc (.cells #[.bool false,.slice none 0 0,.slice none 0 0] 27)=W0 at *
 refine (atD (xc:=n) (S:=S) (j:Nat) W0 RR.lq (fun _ _=>⟨hS1,Nat.le_refl _⟩) ⟨hS1,hS7⟩).mono ?_
 rintro e w1 ⟨f1,c1,n1,k1,d1,m1,l1,rfl,G1,hx⟩
 have R2:=R1.below hx
 have hb2:=aF hb hx
 have t0:=(R2.cell 0).trans (show _=some (.bool false) from rfl);have t1:=(R2.cell 1).trans (show _=some (.slice none 0 0) from rfl);have t2:=(R2.cell 2).trans (show _=some (.slice none 0 0) from rfl)
 have v0:=R2.frozen 0;have v1:=R2.frozen 1;have v2:=R2.frozen 2
 obtain ⟨RN,ON⟩:=R2.set3 (.bool f1) (.slice c1 n1 k1) (.slice d1 m1 l1)
 have GN:=((G1.mono (B':=0) (Nat.zero_le _)).keep (row:=some (w.heap.size+1)) (R2.noW (by decide)) ON.grown).val (show xat (bV (es.getD i ⟨[],0⟩).l) n (j:Int)=bV (es.getD i ⟨[],0⟩).l j by rw [xat_zn];exact if_pos hj)
 have hbN:=hb2.trans (ON.below (by omega))
 clear hx G1 R1 a0
 go_wp2
 refine bodyPost_ret (v:=.agg #[.bool f1,.slice c1 n1 k1,.slice d1 m1 l1]) (Rw.ret1 Tryz.results28 _ RN rfl Tryz.underlying27 fH) rfl ?_
 exact ⟨_,_,_,_,_,_,_,rfl,GN,hbN⟩
def MtP (w:World) (es:List Eqn) (n:Nat) (Y:Nat→Rat) (e:Ending) (w':World):Prop:=∃ b,e = .returned (.bool b)∧(b=true↔(∀ c,c<n→0≤Y c)∧∀ i,i<es.length→bJ (fun c=>bV (es.getD i ⟨[],0⟩).l c*Y c) n=(es.getD i ⟨[],0⟩).r)∧Below w.heap.size w w'
theorem sign_nn {r:Rat} (h:¬ r.num.sign<0):0≤r:=by
 have h1:0≤r.num:=by
  rcases Int.lt_trichotomy r.num 0 with e|e|e
  ·exact absurd (by rw [Int.sign_eq_neg_one_of_neg e];decide) h
  ·omega
  ·omega
 exact Rat.num_nonneg.1 h1
theorem nn_sign {r:Rat} (h:0≤r) (k:r.num.sign<0):False:=by
 have h1:=Rat.num_nonneg.2 h
 rcases Int.lt_trichotomy r.num 0 with e|e|e
 ·omega
 ·rw [e] at k;simp at k
 ·rw [Int.sign_eq_one_of_pos e] at k;simp at k
theorem meetsQ {aA:Option Addr} {cA:Nat} {aB:Option Addr} {cB gC n:Nat} {fK:Bool} {cK:Option Addr} {nK kK:Nat} {dK:Option Addr} {mK lK:Nat} {es:List Eqn} {S:Nat} {B:Nat} {xa:Option Addr} {m xc:Nat} {X:Nat→Rat} {T Sc U:Nat} (w:World) (hA:AL w B (.slice aA es.length cA) es n S none) (hB:RL w 0 (.slice aB es.length cB) es.length (fun i=>(es.getD i ⟨[],0⟩).r) S) (hx:LQ w xa m X (fun _=>T)) (hT1:1≤T) (hT7:T≤2200000) (hS1:1≤S) (hS7:S≤2200000) (hn:n≤100000000) (hes:es.length≤100000000)
 (hsc:∀ i,i<es.length→∀ c,SzR (bV (es.getD i ⟨[],0⟩).l c) Sc) (hSc:1≤Sc) (hsu:∀ i,i<es.length→∀ j,j≤n→SzR (bJ (fun c=>bV (es.getD i ⟨[],0⟩).l c*zn m X c) j) U) (hU1:1≤U) (hU:U+(Sc+T)≤6000000) (hU2:U+S≤6000000) :
 Calls Tryz.prog 11 #[.agg #[.slice aA es.length cA,.slice aB es.length cB,.slice (some ⟨gC,0,none⟩) n n,.bool fK,.slice cK nK kK,.slice dK mK lK],.slice xa m xc] w fun e w'=>MtP w es n (zn m X) e w':=by
 have HAL:Hid (AL w B (.slice aA es.length cA) es n S none):=hA
 have HSC:Hid (∀ i,i<es.length→∀ c,SzR (bV (es.getD i ⟨[],0⟩).l c) Sc):=hsc
 have HSU:Hid (∀ i,i<es.length→∀ j,j≤n→SzR (bJ (fun c=>bV (es.getD i ⟨[],0⟩).l c*zn m X c) j) U):=hsu
 clear hA hsc hsu
 have RD0:=Rw.new 39 w #[.slice aA es.length cA,.slice aB es.length cB,.slice (some ⟨gC,0,none⟩) n n,.bool fK,.slice cK nK kK,.slice dK mK lK]
 have hb0:=aI w (.cells #[.slice aA es.length cA,.slice aB es.length cB,.slice (some ⟨gC,0,none⟩) n n,.bool fK,.slice cK nK kK,.slice dK mK lK] 39)
 have hs0:(w.alloc (.cells #[.slice aA es.length cA,.slice aB es.length cB,.slice (some ⟨gC,0,none⟩) n n,.bool fK,.slice cK nK kK,.slice dK mK lK] 39)).heap.size=w.heap.size+1:=by simp
 go_enter Tryz.func11,Tryz.ntmps11
 go_wp2_with fail
 generalize w.alloc (.cells #[.slice aA es.length cA,.slice aB es.length cB,.slice (some ⟨gC,0,none⟩) n n,.bool fK,.slice cK nK kK,.slice dK mK lK] 39)=W0 at *
 go_loopw [5] (fun s wr=>∃ (j:Nat),j≤n∧s = .int .i64 j∧Hid (∀ c,c<j→0≤zn m X c)∧Rw 39 wr w.heap.size #[.slice aA es.length cA,.slice aB es.length cB,.slice (some ⟨gC,0,none⟩) n n,.bool fK,.slice cK nK kK,.slice dK mK lK]∧Below w.heap.size w wr) (fun t _=>n-(intOf t).toNat)
 case atStart=>exact ⟨0,Nat.zero_le _,rfl,fun c hc=>absurd hc (Nat.not_lt_zero c),RD0,hb0⟩
 case round =>
  clear RD0 hb0 hs0
  obtain ⟨j,hj,rfl,HN,RD,hbr⟩:=hrel
  have y2:=(RD.cell 2).trans (show _=some (.slice (some ⟨gC,0,none⟩) n n) from rfl)
  by_cases hlt:j<n
  ·have hkI:(j:Int)<(n:Int):=by omega
   go_wp2_with fail
   clear y2
   refine (atD (xc:=xc) (S:=T) (j:Nat) wr (hx.below hbr) (fun _ _=>⟨hT1,Nat.le_refl _⟩) ⟨hT1,by omega⟩).mono ?_
   rintro e w1 ⟨f1,c1,n1,k1,d1,m1,l1,rfl,G1,h1⟩
   replace G1:=G1.val (xat_zn X m j)
   go_wp2_with fail
   refine (signD w1 G1.tr (by omega) hT1).mono ?_
   rintro e w2 ⟨rfl,h2⟩
   have hb2:=aF (aF hbr h1) h2
   have RD2:=(RD.below h1).below h2
   clear h1 h2 RD hbr G1
   obtain ⟨sg,esg⟩:∃ x,x=(zn m X j).num.sign:=⟨_,rfl⟩
   rw [← esg]
   have HSG:Hid (sg=(zn m X j).num.sign):=esg
   clear esg
   by_cases hs:sg<0
   ·go_wp2
    go_ret
    exact ⟨false,rfl,⟨fun h=>(by cases h),fun h=>absurd (h.1 j hlt) fun h2=>nn_sign h2 (by rw [← HSG.out];exact hs)⟩,hb2⟩
   ·have HN2:Hid (∀ c,c<j+1→0≤zn m X c):=fun c hc=>by
     rcases (by omega:c<j∨c=j) with h|rfl
     ·exact HN.out c h
     ·exact sign_nn (by rw [← HSG.out];exact hs)
    go_wp2
    go_roundw
    case rel=>first|exact ⟨j+1,by omega,by go_num,HN2,RD2,hb2⟩|((repeat apply Exists.intro);refine ⟨?_,rfl⟩;exact ⟨j+1,by omega,by go_num,HN2,RD2,hb2⟩)
    case measure=>simp [intOf];omega
  ·obtain rfl:j=n:=by omega
   have hkI:¬ (j:Int)<(j:Int):=by omega
   go_wp2_with fail
   clear y2
   obtain ⟨wv,ewv⟩:∃ x,x=wr:=⟨_,rfl⟩
   subst ewv
   obtain ⟨n,en⟩:∃ n,n=j:=⟨_,rfl⟩
   subst en
   go_loopw [6] (fun s wr=>∃ (i:Nat),i≤es.length∧s = .int .i64 i∧Hid (∀ k,k<i→bJ (fun c=>bV (es.getD k ⟨[],0⟩).l c*zn m X c) n=(es.getD k ⟨[],0⟩).r)∧Rw 39 wr w.heap.size #[.slice aA es.length cA,.slice aB es.length cB,.slice (some ⟨gC,0,none⟩) n n,.bool fK,.slice cK nK kK,.slice dK mK lK]∧Below w.heap.size w wr) (fun t _=>es.length-(intOf t).toNat)
   case atStart=>exact ⟨0,Nat.zero_le _,rfl,fun c hc=>absurd hc (Nat.not_lt_zero c),RD,hbr⟩
   case round =>
    clear RD hbr
    obtain ⟨i,hil,rfl,HM,RD,hbr⟩:=hrel
    have y1:=(RD.cell 1).trans (show _=some (.slice aB es.length cB) from rfl)
    by_cases hi:i<es.length
    ·have hkI:(i:Int)<((es.length:Nat):Int):=by omega
     go_wp2_with fail
     clear y1
     refine (ofD 0 wr (by decide) (by decide)).mono ?_
     rintro e w1 ⟨f0,c0,n0,k0,d0,m0,l0,rfl,G0,h1⟩
     have hx1:=aI w1 (.cells #[.bool f0,.slice c0 n0 k0,.slice d0 m0 l0] 27)
     have RS0:=Rw.new 27 w1 #[.bool f0,.slice c0 n0 k0,.slice d0 m0 l0]
     have RD1:=(RD.below h1).below hx1
     have hb1:=aF (aF hbr h1) hx1
     have GS0:GR _ 0 f0 c0 n0 k0 d0 m0 l0 (bJ (fun c=>bV (es.getD i ⟨[],0⟩).l c*zn m X c) 0) U:=(((G0.mono (B':=0) (Nat.zero_le _)).below hx1).val rfl).fit (HSU.out i hi 0 (Nat.zero_le _))
     have hsz1:w.heap.size<w1.heap.size:=Nat.lt_of_lt_of_le RD.lt h1.size
     go_wp2_with fail
     clear G0 h1 hx1 RD hbr
     generalize w1.alloc (.cells #[.bool f0,.slice c0 n0 k0,.slice d0 m0 l0] 27)=W1 at *
     obtain ⟨bS,ebS⟩:∃ x,x=w1.heap.size:=⟨_,rfl⟩
     rw [← ebS] at RS0 hsz1 ⊢
     clear ebS
     go_loopw [8] (fun s wr=>∃ (j:Nat) (fs:Bool) (cs:Option Addr) (ns ks:Nat) (ds:Option Addr) (ms ls:Nat),j≤n∧s = .int .i64 j∧Rw 27 wr bS #[.bool fs,.slice cs ns ks,.slice ds ms ls]∧GR wr 0 fs cs ns ks ds ms ls (bJ (fun c=>bV (es.getD i ⟨[],0⟩).l c*zn m X c) j) U∧Rw 39 wr w.heap.size #[.slice aA es.length cA,.slice aB es.length cB,.slice (some ⟨gC,0,none⟩) n n,.bool fK,.slice cK nK kK,.slice dK mK lK]∧Below w.heap.size w wr) (fun t _=>n-(intOf t).toNat)
     case atStart=>exact ⟨0,_,_,_,_,_,_,_,Nat.zero_le _,rfl,RS0,GS0,RD1,hb1⟩
     case round =>
      clear RS0 GS0 RD1 hb1
      obtain ⟨j,fs,cs,ns,ks,ds,ms,ls,hjn,rfl,RS,GS,RD,hbr⟩:=hrel
      have y2:=(RD.cell 2).trans (show _=some (.slice (some ⟨gC,0,none⟩) n n) from rfl)
      by_cases hjl:j<n
      ·have hkJ:(j:Int)<(n:Int):=by omega
       go_wp2_with fail
       clear y2
       have HBX:∀ w',Below wr.heap.size wr w'→(w'.cell? ⟨bS,0,none⟩=some (.bool fs)∧w'.cell? ⟨bS,1,none⟩=some (.slice cs ns ks)∧w'.cell? ⟨bS,2,none⟩=some (.slice ds ms ls)∧w'.cell? ⟨w.heap.size,0,none⟩=some (.slice aA es.length cA)∧w'.cell? ⟨w.heap.size,1,none⟩=some (.slice aB es.length cB)∧w'.cell? ⟨w.heap.size,2,none⟩=some (.slice (some ⟨gC,0,none⟩) n n)∧w'.cell? ⟨w.heap.size,3,none⟩=some (.bool fK)∧w'.cell? ⟨w.heap.size,4,none⟩=some (.slice cK nK kK)∧w'.cell? ⟨w.heap.size,5,none⟩=some (.slice dK mK lK)):=fun w' h=>⟨((RS.below h).cell 0).trans rfl,((RS.below h).cell 1).trans rfl,((RS.below h).cell 2).trans rfl,((RD.below h).cell 0).trans rfl,((RD.below h).cell 1).trans rfl,((RD.below h).cell 2).trans rfl,((RD.below h).cell 3).trans rfl,((RD.below h).cell 4).trans rfl,((RD.below h).cell 5).trans rfl⟩
       refine wp_region_noPanic (aS 10 HBX (by as_aux_lemma=>kernel_rfl) ?_)
       have hc0:Below wr.heap.size wr wr.drew:=aK _
       generalize wr.drew=z0 at *
       refine wpAnyG.tT 0 (v:=.agg #[.bool fs,.slice cs ns ks,.slice ds ms ls]) (by decide) 10 (by as_aux_lemma=>kernel_rfl) (by rfl) ?y0 (HBX _ hc0) ?_
       case y0 =>
        rintro w' ⟨q0,q1,q2,q3,q4,q5,q6,q7,q8⟩
        simp only [lgA,lgZ]
        go_simp
       simp only [lgA,lgZ,Act.put,lsA,lsZ,lsS]
       refine wpAnyG.tT 1 (v:=.agg #[.slice aA es.length cA,.slice aB es.length cB,.slice (some ⟨gC,0,none⟩) n n,.bool fK,.slice cK nK kK,.slice dK mK lK]) (by decide) 10 (by as_aux_lemma=>kernel_rfl) (by rfl) ?y1 (HBX _ hc0) ?_
       case y1 =>
        rintro w' ⟨q0,q1,q2,q3,q4,q5,q6,q7,q8⟩
        simp only [lgA,lgZ,lgS]
        go_simp
       simp only [lgA,lgZ,lgS,Act.put,lsA,lsZ,lsS]
       refine wpAnyG.tT 2 (v:=.int .i64 (i:Nat)) (by decide) 10 (by as_aux_lemma=>kernel_rfl) (by rfl) ?y2 (HBX _ hc0) ?_
       case y2 =>
        rintro w' ⟨q0,q1,q2,q3,q4,q5,q6,q7,q8⟩
        simp only [lgA,lgZ,lgS]
        go_simp
       simp only [lgA,lgZ,lgS,Act.put,lsA,lsZ,lsS]
       refine wpAnyG.tT 3 (v:=.int .i64 (j:Nat)) (by decide) 10 (by as_aux_lemma=>kernel_rfl) (by rfl) ?y3 (HBX _ hc0) ?_
       case y3 =>
        rintro w' ⟨q0,q1,q2,q3,q4,q5,q6,q7,q8⟩
        simp only [lgA,lgZ,lgS]
        go_simp
       simp only [lgA,lgZ,lgS,Act.put,lsA,lsZ,lsS]
       refine wpAnyG.tT 5 (v:=.slice xa m xc) (by decide) 10 (by as_aux_lemma=>kernel_rfl) (by rfl) ?y5 (HBX _ hc0) ?_
       case y5 =>
        rintro w' ⟨q0,q1,q2,q3,q4,q5,q6,q7,q8⟩
        simp only [lgA,lgZ,lgS]
        go_simp
       simp only [lgA,lgZ,lgS,Act.put,lsA,lsZ,lsS]
       refine wpAnyG.tT 6 (v:=.int .i64 (j:Nat)) (by decide) 10 (by as_aux_lemma=>kernel_rfl) (by rfl) ?y6 (HBX _ hc0) ?_
       case y6 =>
        rintro w' ⟨q0,q1,q2,q3,q4,q5,q6,q7,q8⟩
        simp only [lgA,lgZ,lgS]
        go_simp
       simp only [lgA,lgZ,lgS,Act.put,lsA,lsZ,lsS]
       refine wpAnyG.one 4 (by as_aux_lemma=>kernel_rfl) (by decide) (by rfl) (fun K hK=>?_)
       simp only [lgA,lgZ,lgS]
       go_simp
       refine (uD i j z0 (HAL.out.below (aF hbr hc0)) hi hjl hS1 (by omega)).mono ?_
       rintro e z1 ⟨f1,c1,n1,k1,d1,m1,l1,rfl,G1,hk1⟩
       have hc1:Below wr.heap.size wr z1:=aF hc0 hk1
       dsimp only
       refine hK _ _ ⟨fun _=>HBX _ hc1,fun _=>trivial⟩ ?_
       clear hK K
       refine wpAnyG.one 7 (by as_aux_lemma=>kernel_rfl) (by decide) (by rfl) (fun K hK=>?_)
       simp only [lgA,lgZ,lgS]
       go_simp
       refine (atD (xc:=xc) (S:=T) (j:Nat) z1 (hx.below (aF hbr hc1)) (fun _ _=>⟨hT1,Nat.le_refl _⟩) ⟨hT1,by omega⟩).mono ?_
       rintro e z2 ⟨f2,c2,n2,k2,d2,m2,l2,rfl,G2,hk2⟩
       have hc2:Below wr.heap.size wr z2:=aF hc1 hk2
       replace G2:=G2.val (xat_zn X m j)
       dsimp only
       refine hK _ _ ⟨fun _=>HBX _ hc2,fun _=>trivial⟩ ?_
       clear hK K
       refine wpAnyG.one 8 (by as_aux_lemma=>kernel_rfl) (by decide) (by rfl) (fun K hK=>?_)
       simp only [lgA,lgZ,lgS]
       go_simp
       refine (mulD z2 ((G1.fit (HSC.out i hi j)).tr.below hk2) G2.tr (by omega) hSc hT1).mono ?_
       rintro e z3 ⟨f3,c3,n3,k3,d3,m3,l3,rfl,G3,hk3⟩
       have hc3:Below wr.heap.size wr z3:=aF hc2 hk3
       dsimp only
       refine hK _ _ ⟨fun _=>HBX _ hc3,fun _=>trivial⟩ ?_
       clear hK K
       refine wpAnyG.one 9 (by as_aux_lemma=>kernel_rfl) (by decide) (by rfl) (fun K hK=>?_)
       simp only [lgA,lgZ,lgS]
       go_simp
       refine (addD z3 (GS.tr.below hc3) G3.tr (by omega) (by omega) (by omega)).mono ?_
       rintro e z4 ⟨f4,c4,n4,k4,d4,m4,l4,rfl,G4,hk4⟩
       have hc4:Below wr.heap.size wr z4:=aF hc3 hk4
       dsimp only
       refine hK _ _ ⟨fun _=>HBX _ hc4,fun _=>trivial⟩ ?_
       clear hK K
       refine wpAnyG.one 10 (by as_aux_lemma=>kernel_rfl) (by decide) (by rfl) (fun K hK=>?_)
       simp only [lgA,lgZ,lgS]
       have RS4:=RS.below hc4
       have t0:=(RS4.cell 0).trans (show _=some (.bool fs) from rfl);have t1:=(RS4.cell 1).trans (show _=some (.slice cs ns ks) from rfl);have t2:=(RS4.cell 2).trans (show _=some (.slice ds ms ls) from rfl)
       have v0:=RS4.frozen 0;have v1:=RS4.frozen 1;have v2:=RS4.frozen 2
       go_simp
       refine hK _ _ ⟨fun h=>absurd h (by decide),fun _=>trivial⟩ ?_
       clear t0 t1 t2 v0 v1 v2
       clear hK K
       refine wpAnyG.done (by as_aux_lemma=>kernel_rfl) (NoPanic.normal ?_)
       obtain ⟨RN,ON⟩:=(RS.below hc4).set3 (.bool f4) (.slice c4 n4 k4) (.slice d4 m4 l4)
       have GN:GR (((z4.setCell ⟨bS,0,none⟩ (.bool f4)).setCell ⟨bS,1,none⟩ (.slice c4 n4 k4)).setCell ⟨bS,2,none⟩ (.slice d4 m4 l4)) 0 f4 c4 n4 k4 d4 m4 l4 (bJ (fun c=>bV (es.getD i ⟨[],0⟩).l c*zn m X c) (j+1)) U:=(((G4.mono (B':=0) (Nat.zero_le _)).keep (row:=some bS) ((RS.below hc4).noW (by decide)) ON.grown).val (bH _ j).symm).fit (HSU.out i hi (j+1) (by omega))
       have RDN:=(RD.below hc4).off ON (by omega)
       have hbN:Below w.heap.size w (((z4.setCell ⟨bS,0,none⟩ (.bool f4)).setCell ⟨bS,1,none⟩ (.slice c4 n4 k4)).setCell ⟨bS,2,none⟩ (.slice d4 m4 l4)):=(aF hbr hc4).trans (ON.below (by omega))
       clear HBX hc0 hc1 hc2 hc3 hc4 hk1 hk2 hk3 hk4 G1 G2 G3 G4 ON RS GS RD hbr
       generalize ((z4.setCell ⟨bS,0,none⟩ (.bool f4)).setCell ⟨bS,1,none⟩ (.slice c4 n4 k4)).setCell ⟨bS,2,none⟩ (.slice d4 m4 l4)=w9 at *
       go_wp2
       go_roundw
       case rel=>first|exact ⟨j+1,_,_,_,_,_,_,_,by omega,by go_num,RN,GN,RDN,hbN⟩|((repeat apply Exists.intro);refine ⟨?_,rfl⟩;exact ⟨j+1,_,_,_,_,_,_,_,by omega,by go_num,RN,GN,RDN,hbN⟩)
       case measure=>simp [intOf];omega
      ·obtain rfl:j=n:=by omega
       have hkJ:¬ (j:Int)<(j:Int):=by omega
       have hkI3:(i:Int)*3=((i*3:Nat):Int):=by omega
       obtain ⟨gB,pb,ab,nb,cb,db,mb,lb,egB,b0,b1,b2,GBi⟩:=(hB.below hbr).at hi
       obtain ⟨t,et⟩:∃ t,t=Go.Proofs.YtmeimjakdheidaaGreatDoor.cs (bJ (fun c=>bV (es.getD i ⟨[],0⟩).l c*zn m X c) j) (es.getD i ⟨[],0⟩).r:=⟨_,rfl⟩
       have HT:Hid (t=Go.Proofs.YtmeimjakdheidaaGreatDoor.cs (bJ (fun c=>bV (es.getD i ⟨[],0⟩).l c*zn m X c) j) (es.getD i ⟨[],0⟩).r):=et
       clear et
       have egB':aB=some ⟨gB,0,none⟩:=egB
       clear egB
       have y1b:=(RD.cell 1).trans (show _=some (.slice aB es.length cB) from rfl)
       rw [egB'] at y1b
       go_wp2_with fail
       clear y2
       have HBX:∀ w',Below wr.heap.size wr w'→(w'.cell? ⟨bS,0,none⟩=some (.bool fs)∧w'.cell? ⟨bS,1,none⟩=some (.slice cs ns ks)∧w'.cell? ⟨bS,2,none⟩=some (.slice ds ms ls)∧w'.cell? ⟨w.heap.size,1,none⟩=some (.slice (some ⟨gB,0,none⟩) es.length cB)∧w'.cell? ⟨gB,i*3,none⟩=some (.bool pb)∧w'.cell? ⟨gB,i*3+1,none⟩=some (.slice ab nb cb)∧w'.cell? ⟨gB,i*3+2,none⟩=some (.slice db mb lb)):=fun w' h=>⟨((RS.below h).cell 0).trans rfl,((RS.below h).cell 1).trans rfl,((RS.below h).cell 2).trans rfl,aG h y1b,aG h b0,aG h b1,aG h b2⟩
       refine wp_region_noPanic (bU HBX (by as_aux_lemma=>kernel_rfl) ?_)
       have hc0:Below wr.heap.size wr wr.drew:=aK _
       generalize wr.drew=z0 at *
       refine wpAnyG.tA 0 (v:=.agg #[.bool fs,.slice cs ns ks,.slice ds ms ls]) (by decide) 6 (by as_aux_lemma=>kernel_rfl) (by rfl) ?y0 (HBX _ hc0) ?_
       case y0 =>
        rintro w' ⟨q0,q1,q2,q3,q4,q5,q6⟩
        simp only [lgA,lgZ]
        go_simp
       simp only [lgA,lgZ,Act.put,lsA,lsZ,lsS]
       refine wpAnyG.tA 1 (v:=.pointer (some ⟨w.heap.size,1,none⟩)) (by decide) 2 (by as_aux_lemma=>kernel_rfl) (by rfl) ?y1 (HBX _ hc0) ?_
       case y1 =>
        rintro w' ⟨q0,q1,q2,q3,q4,q5,q6⟩
        simp only [lgA,lgZ,lgS]
        go_simp
       simp only [lgA,lgZ,lgS,Act.put,lsA,lsZ,lsS]
       refine wpAnyG.tA 2 (v:=.slice (some ⟨gB,0,none⟩) es.length cB) (by decide) 4 (by as_aux_lemma=>kernel_rfl) (by rfl) ?y2 (HBX _ hc0) ?_
       case y2 =>
        rintro w' ⟨q0,q1,q2,q3,q4,q5,q6⟩
        simp only [lgA,lgZ,lgS]
        go_simp
       simp only [lgA,lgZ,lgS,Act.put,lsA,lsZ,lsS]
       refine wpAnyG.tA 3 (v:=.int .i64 (i:Nat)) (by decide) 4 (by as_aux_lemma=>kernel_rfl) (by rfl) ?y3 (HBX _ hc0) ?_
       case y3 =>
        rintro w' ⟨q0,q1,q2,q3,q4,q5,q6⟩
        simp only [lgA,lgZ,lgS]
        go_simp
       simp only [lgA,lgZ,lgS,Act.put,lsA,lsZ,lsS]
       refine wpAnyG.tA 4 (v:=.pointer (some ⟨gB,i*3,none⟩)) (by decide) 5 (by as_aux_lemma=>kernel_rfl) (by rfl) ?y4 (HBX _ hc0) ?_
       case y4 =>
        rintro w' ⟨q0,q1,q2,q3,q4,q5,q6⟩
        simp only [lgA,lgZ,lgS]
        go_simp
       simp only [lgA,lgZ,lgS,Act.put,lsA,lsZ,lsS]
       refine wpAnyG.tA 5 (v:=.agg #[.bool pb,.slice ab nb cb,.slice db mb lb]) (by decide) 6 (by as_aux_lemma=>kernel_rfl) (by rfl) ?y5 (HBX _ hc0) ?_
       case y5 =>
        rintro w' ⟨q0,q1,q2,q3,q4,q5,q6⟩
        simp only [lgA,lgZ,lgS]
        go_simp
       simp only [lgA,lgZ,lgS,Act.put,lsA,lsZ,lsS]
       refine wpAnyG.one 6 (by as_aux_lemma=>kernel_rfl) (by decide) (by rfl) (fun K hK=>?_)
       simp only [lgA,lgZ,lgS]
       go_simp
       refine (cmpD t z0 (GS.tr.below hc0) (GBi.tr.below hc0) (by omega) (by omega) hS1 HT.out).mono ?_
       rintro e z1 ⟨rfl,hk1⟩
       have hc1:Below wr.heap.size wr z1:=aF hc0 hk1
       dsimp only
       refine hK _ _ (HBX _ hc1) ?_
       clear hK K
       refine wpAnyG.one 7 (by as_aux_lemma=>kernel_rfl) (by decide) (by rfl) (fun K hK=>?_)
       simp only [lgA,lgZ,lgS]
       go_simp
       refine hK _ _ (HBX _ hc1) ?_
       clear hK K
       refine wpAnyG.done (by as_aux_lemma=>kernel_rfl) (NoPanic.normal ?_)
       have hbN:=aF hbr hc1
       have RDN:=RD.below hc1
       clear HBX hc0 hc1 hk1 RS GS RD hbr GBi b0 b1 b2 y1b
       try rw [← egB']
       clear egB'
       by_cases ht:t=0
       ·have HM2:Hid (∀ k,k<i+1→bJ (fun c=>bV (es.getD k ⟨[],0⟩).l c*zn m X c) j=(es.getD k ⟨[],0⟩).r):=fun k hk=>by
         rcases (by omega:k<i∨k=i) with h|rfl
         ·exact HM.out k h
         ·exact jQ.1 (by rw [← HT.out];exact ht)
        go_wp2
        go_roundw
        case rel=>first|exact ⟨i+1,by omega,by go_num,HM2,RDN,hbN⟩|((repeat apply Exists.intro);refine ⟨?_,rfl⟩;exact ⟨i+1,by omega,by go_num,HM2,RDN,hbN⟩)
        case measure=>simp [intOf];omega
       ·go_wp2
        go_ret
        exact ⟨false,rfl,⟨fun h=>(by cases h),fun h=>absurd (HT.out.trans (jQ.2 (h.2 i hi))) ht⟩,hbN⟩
    ·obtain rfl:i=es.length:=by omega
     have hkI:¬ ((es.length:Nat):Int)<((es.length:Nat):Int):=by omega
     go_wp2
     go_ret
     exact ⟨true,rfl,⟨fun _=>⟨HN.out,HM.out⟩,fun _=>rfl⟩,hbr⟩
end Go.Proofs.YtmeimjakdheidaaGreatDoor

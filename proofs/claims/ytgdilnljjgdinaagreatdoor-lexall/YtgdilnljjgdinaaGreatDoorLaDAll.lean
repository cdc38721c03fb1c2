import Derived.Test.YtgdilnljjgdinaaGreatDoorLaF
import Derived.Test.YtgdilnljjgdinaaGreatDoorOpenPAll
import Derived.Test.YtgdilnljjgdinaaGreatDoorApAll
import Derived.Test.YtgdilnljjgdinaaGreatDoorRatAll
import Derived.Test.YtgdilnljjgdinaaGreatDoorLentAll
import Derived.Test.YtgdilnljjgdinaaGreatDoorLzLAll
import Derived.Test.YtgdilnljjgdinaaGreatDoorQ3DAll
namespace Go.Proofs.YtgdilnljjgdinaaGreatDoor
open Go.RowKit
theorem infNatT:Inf 40 1 24:=inf_of (by kernel_rfl)
set_option maxRecDepth 100000 in
set_option maxHeartbeats 8000000 in
theorem limbsD {va:Option Addr} {n vc B:Nat} {F:Nat→Bool} {V:Nat→Value} (w:World) (hL:SL w B 44 3 (.slice va n vc) n (fun i=>[.bool (F i),V (i+i),V (i+i+1)])) (hV:∀ k,k<n+n→∃ a m c,V k = .slice a m c) (hn:n≤400000000) :
  Calls Tryz.prog 42 #[.slice va n vc] w fun e w'=>∃ ua uc,e = .returned (.slice ua (n+n) uc)∧SL w' w.heap.size 40 1 (.slice ua (n+n) uc) (n+n) (fun k=>[V k])∧Below w.heap.size w w':=by
 go_enter Tryz.func42,Tryz.ntmps42
 go_wp2
 go_loopw [3,4] (fun so si wr=>∃ (i:Nat) (ua:Option Addr) (uc:Nat),i≤n∧si = .int .i64 i∧so = .slice ua (i+i) uc∧SL wr w.heap.size 40 1 (.slice ua (i+i) uc) (i+i) (fun k=>[V k])∧Below w.heap.size w wr) (fun _ x _=>n-(intOf x).toNat)
 case atStart=>exact ⟨0,none,0,Nat.zero_le _,rfl,rfl,SL.nil _ _ _ _ _,Below.refl _ _⟩
 case round =>
  obtain ⟨i,ua,uc,hi,rfl,rfl,hSL,hbel⟩:=hrel
  by_cases hlt:i<n
  ·have hiI:(i:Int)<(n:Int):=by omega
   have hi0:¬ (i:Int)<0:=by omega
   have hi3:(i:Int)*3=((i*3:Nat):Int):=by omega
   rcases hL.cell with h0|⟨g,rfl,hc⟩
   ·omega
   have hgw:g<w.heap.size:=(hL.lt g rfl).2
   obtain ⟨a1,n1,k1,e1⟩:=hV (i+i) (by omega)
   obtain ⟨a2,n2,k2,e2⟩:=hV (i+i+1) (by omega)
   have HE:Hid (V (i+i) = .slice a1 n1 k1∧V (i+i+1) = .slice a2 n2 k2):=⟨e1,e2⟩
   have c1:=kept_c hbel ((hc i hlt 1 _ rfl).trans (congrArg some e1))
   have c2:=kept_c hbel ((hc i hlt 2 _ rfl).trans (congrArg some e2))
   have HB5:∀ w',Below wr.heap.size wr w'→(w'.cell? ⟨g,i*3+1,none⟩=some (.slice a1 n1 k1)∧w'.cell? ⟨g,i*3+2,none⟩=some (.slice a2 n2 k2)):=fun w' h=>⟨kept_c h c1,kept_c h c2⟩
   clear hc c1 c2 e1 e2
   go_wp2_with fail
   refine wp_region_noPanic (wp_region_guardT 14 HB5 (by as_aux_lemma=>kernel_rfl) ?_)
   have hc0:Below wr.heap.size wr wr.drew:=bel_d1 _
   generalize wr.drew=z0 at *
   refine wpAnyG.tT 0 (v:=.slice ua (i+i) uc) (by decide) 14 (by as_aux_lemma=>kernel_rfl) (by rfl) ?y0 (HB5 _ hc0) ?_
   case y0 =>
    rintro w' ⟨q0,q1⟩
    simp only [lgA,lgZ]
    go_simp
   simp only [lgA,lgZ,Act.put,lsA,lsZ,lsS]
   refine wpAnyG.tT 1 (v:=.slice (some ⟨g,0,none⟩) n vc) (by decide) 14 (by as_aux_lemma=>kernel_rfl) (by rfl) ?y1 (HB5 _ hc0) ?_
   case y1 =>
    rintro w' ⟨q0,q1⟩
    simp only [lgA,lgZ,lgS]
    go_simp
   simp only [lgA,lgZ,lgS,Act.put,lsA,lsZ,lsS]
   refine wpAnyG.tT 2 (v:=.int .i64 (i:Int)) (by decide) 14 (by as_aux_lemma=>kernel_rfl) (by rfl) ?y2 (HB5 _ hc0) ?_
   case y2 =>
    rintro w' ⟨q0,q1⟩
    simp only [lgA,lgZ,lgS]
    go_simp
   simp only [lgA,lgZ,lgS,Act.put,lsA,lsZ,lsS]
   refine wpAnyG.tT 3 (v:=.pointer (some ⟨g,i*3,none⟩)) (by decide) 14 (by as_aux_lemma=>kernel_rfl) (by rfl) ?y3 (HB5 _ hc0) ?_
   case y3 =>
    rintro w' ⟨q0,q1⟩
    simp only [lgA,lgZ,lgS]
    go_simp
   simp only [lgA,lgZ,lgS,Act.put,lsA,lsZ,lsS]
   refine wpAnyG.tT 4 (v:=.pointer (some ⟨g,i*3,none⟩)) (by decide) 14 (by as_aux_lemma=>kernel_rfl) (by rfl) ?y4 (HB5 _ hc0) ?_
   case y4 =>
    rintro w' ⟨q0,q1⟩
    simp only [lgA,lgZ,lgS]
    go_simp
   simp only [lgA,lgZ,lgS,Act.put,lsA,lsZ,lsS]
   refine wpAnyG.tT 5 (v:=.pointer (some ⟨g,i*3+1,none⟩)) (by decide) 14 (by as_aux_lemma=>kernel_rfl) (by rfl) ?y5 (HB5 _ hc0) ?_
   case y5 =>
    rintro w' ⟨q0,q1⟩
    simp only [lgA,lgZ,lgS]
    go_simp
   simp only [lgA,lgZ,lgS,Act.put,lsA,lsZ,lsS]
   refine wpAnyG.tT 6 (v:=.slice a1 n1 k1) (by decide) 14 (by as_aux_lemma=>kernel_rfl) (by rfl) ?y6 (HB5 _ hc0) ?_
   case y6 =>
    rintro w' ⟨q0,q1⟩
    simp only [lgA,lgZ,lgS]
    go_simp
   simp only [lgA,lgZ,lgS,Act.put,lsA,lsZ,lsS]
   refine wpAnyG.tT 7 (v:=.slice (some ⟨g,0,none⟩) n vc) (by decide) 14 (by as_aux_lemma=>kernel_rfl) (by rfl) ?y7 (HB5 _ hc0) ?_
   case y7 =>
    rintro w' ⟨q0,q1⟩
    simp only [lgA,lgZ,lgS]
    go_simp
   simp only [lgA,lgZ,lgS,Act.put,lsA,lsZ,lsS]
   refine wpAnyG.tT 8 (v:=.int .i64 (i:Int)) (by decide) 14 (by as_aux_lemma=>kernel_rfl) (by rfl) ?y8 (HB5 _ hc0) ?_
   case y8 =>
    rintro w' ⟨q0,q1⟩
    simp only [lgA,lgZ,lgS]
    go_simp
   simp only [lgA,lgZ,lgS,Act.put,lsA,lsZ,lsS]
   refine wpAnyG.tT 9 (v:=.pointer (some ⟨g,i*3,none⟩)) (by decide) 14 (by as_aux_lemma=>kernel_rfl) (by rfl) ?y9 (HB5 _ hc0) ?_
   case y9 =>
    rintro w' ⟨q0,q1⟩
    simp only [lgA,lgZ,lgS]
    go_simp
   simp only [lgA,lgZ,lgS,Act.put,lsA,lsZ,lsS]
   refine wpAnyG.tT 10 (v:=.pointer (some ⟨g,i*3+2,none⟩)) (by decide) 14 (by as_aux_lemma=>kernel_rfl) (by rfl) ?y10 (HB5 _ hc0) ?_
   case y10 =>
    rintro w' ⟨q0,q1⟩
    simp only [lgA,lgZ,lgS]
    go_simp
   simp only [lgA,lgZ,lgS,Act.put,lsA,lsZ,lsS]
   refine wpAnyG.tT 11 (v:=.slice a2 n2 k2) (by decide) 14 (by as_aux_lemma=>kernel_rfl) (by rfl) ?y11 (HB5 _ hc0) ?_
   case y11 =>
    rintro w' ⟨q0,q1⟩
    simp only [lgA,lgZ,lgS]
    go_simp
   simp only [lgA,lgZ,lgS,Act.put,lsA,lsZ,lsS]
   refine wpAnyG.one 12 (by as_aux_lemma=>kernel_rfl) (by decide) (by rfl) (fun K hK=>?_)
   simp only [lgA,lgZ,lgS]
   go_simp
   have hy:=bel_tr hc0 (bel_d0 z0 (.cells #[.slice a1 n1 k1,.slice a2 n2 k2] 40))
   have BX:=box_new z0 #[.slice a1 n1 k1,.slice a2 n2 k2] 40
   have hs4:(z0.alloc (.cells #[.slice a1 n1 k1,.slice a2 n2 k2] 40)).heap.size=z0.heap.size+1:=by simp
   generalize z0.alloc (.cells #[.slice a1 n1 k1,.slice a2 n2 k2] 40)=z5 at *
   refine hK _ _ ⟨fun _=>HB5 _ hy,fun _=>trivial⟩ ?_
   clear hK K
   refine wpAnyG.one 13 (by as_aux_lemma=>kernel_rfl) (by decide) (by rfl) (fun K hK=>?_)
   simp only [lgA,lgZ,lgS]
   have SLZ:=hSL.below hy
   have hsy:=hy.size
   have hbs:=hbel.size
   refine wp_appendK z5 _ _ 80 40 1 24 2 rfl Tryz.underlying80 infNatT (by decide) (by decide) (by decide) w.heap.size (.slice ua (i+i) uc) (i+i) (fun k=>[V k]) rfl SLZ z0.heap.size _ rfl (fun j=>if j=0 then [.slice a1 n1 k1] else [.slice a2 n2 k2]) [.slice a1 n1 k1,.slice a2 n2 k2] rfl (fun q hq j u hu=>?_) (fun u hu=>by simp only [List.mem_cons,List.not_mem_nil,or_false] at hu;rcases hu with rfl|rfl <;> rfl) BX (by omega) (by omega) _ rfl ?_
   ·rcases (by omega:q=0∨q=1) with rfl|rfl
    ·have hj:j=0:=by have:=(List.getElem?_eq_some_iff.1 hu).1;simp at this;exact this
     subst hj
     exact ⟨by decide,hu⟩
    ·have hj:j=0:=by have:=(List.getElem?_eq_some_iff.1 hu).1;simp at this;exact this
     subst hj
     exact ⟨by decide,hu⟩
   intro g6 cap6 w6 SN hg hat hgl
   have hnb:∀ k,k<w.heap.size→Value.ownBlock (.slice ua (i+i) uc)≠some k:=fun k hk e=>by have:=(hSL.lt k e).1;omega
   have hw6:=hbel.trans ((hy.mono hbel.size).trans (grown_below hg (by have:=hbel.size;omega) (fun k e=>(SLZ.lt k e).1)))
   have hF6:w6.cell? ⟨g,i*3+1,none⟩=some (.slice a1 n1 k1)∧w6.cell? ⟨g,i*3+2,none⟩=some (.slice a2 n2 k2):=⟨keep_ne hg (HB5 _ hy).1 (hnb _ hgw),keep_ne hg (HB5 _ hy).2 (hnb _ hgw)⟩
   refine hK _ _ ⟨fun _=>hF6,fun _=>trivial⟩ ?_
   clear hK K
   refine wpAnyG.one 14 (by as_aux_lemma=>kernel_rfl) (by decide) (by rfl) (fun K hK=>?_)
   simp only [lgA,lgZ,lgS]
   go_simp
   refine hK _ _ ⟨fun h=>absurd h (by decide),fun _=>trivial⟩ ?_
   clear hK K
   refine wpAnyG.done (by as_aux_lemma=>kernel_rfl) (NoPanic.normal ?_)
   have SN2:SL w6 w.heap.size 40 1 (.slice (some ⟨g6,0,none⟩) (i+1+(i+1)) cap6) (i+1+(i+1)) (fun k=>[V k]):=by
    have e:i+1+(i+1)=i+i+2:=by omega
    rw [e]
    refine SN.congr fun k hk=>?_
    by_cases h:k<i+i
    ·rw [if_pos h]
    ·rw [if_neg h]
     rcases (by omega:k=i+i∨k=i+i+1) with rfl|rfl
     ·rw [if_pos (by omega),HE.out.1]
     ·rw [if_neg (by omega),HE.out.2]
   have e2:(Value.slice (some ⟨g6,0,none⟩) (i+i+2) cap6) = .slice (some ⟨g6,0,none⟩) (i+1+(i+1)) cap6:=by congr 1;omega
   clear HB5 SN hat hgl hg hF6 SLZ hSL hbel hy hc0 BX hsy hs4 hnb
   go_wp2
   go_roundw
   case rel=>first|exact ⟨i+1,some ⟨g6,0,none⟩,cap6,by omega,by first|rfl|go_num,by first|exact e2|rfl,SN2,hw6⟩|((repeat apply Exists.intro);refine ⟨?_,rfl⟩;exact ⟨i+1,some ⟨g6,0,none⟩,cap6,by omega,by first|rfl|go_num,by first|exact e2|rfl,SN2,hw6⟩)
   case measure=>simp [intOf];omega
  ·have hiI:¬ (i:Int)<(n:Int):=by omega
   obtain rfl:i=n:=by omega
   go_wp2
   go_ret
   exact ⟨ua,uc,rfl,hSL,hbel⟩
set_option maxHeartbeats 4000000 in
theorem apart_nil (c:Nat) (va:Option Addr) (w:World):Calls Tryz.prog 43 #[.slice va 0 c] w fun e w'=>e = .returned (.bool true)∧Below w.heap.size w w':=by
 go_enter Tryz.func43,Tryz.ntmps43
 go_wp2
 refine wp_loop_once ?_
 go_wp2
 refine wp_loop_once ?_
 go_wp2
 refine wp_loop_once ?_
 go_wp2
 go_ret
 exact ⟨rfl,Below.refl _ _⟩
set_option maxRecDepth 100000 in
set_option maxHeartbeats 8000000 in
theorem apartD {va:Option Addr} {n vc B:Nat} {F:Nat→Bool} {V:Nat→Value} {X:Nat→List Int} (w:World) (hB:B≤w.heap.size) (hL:SL w B 44 3 (.slice va n vc) n (fun i=>[.bool (F i),V (i+i),V (i+i+1)])) (hO:∀ k,k<n+n→OwnV w B (V k) (X k)) (hX:∀ k,k<n+n→(X k).length≤1000000000)
  (dis:∀ i j,i<n+n→j<n+n→i≠j→∀ g,(V i).ownBlock=some g→(V j).ownBlock≠some g) (hn:n≤1000000) :
  Calls Tryz.prog 23 #[.slice va n vc] w fun e w'=>e = .returned (.bool true)∧Below B w w'∧KN w w':=by
 have hLm:=limbsD w hL (fun k hk=>by obtain ⟨a,cap,e⟩:=(hO k hk).slice;exact ⟨a,_,cap,e⟩) (by omega)
 go_enter Tryz.func23,Tryz.ntmps23
 go_wp2_with fail
 refine hLm.mono ?_
 clear hLm
 rintro e w1 ⟨ua,uc,rfl,hS,hb⟩
 obtain ⟨m,em⟩:∃ m,m=n+n:=⟨_,rfl⟩
 have HM:Hid (m=n+n):=em
 rw [← em] at hS hO hX dis ⊢
 have hm:m≤2000000:=by omega
 clear em
 have hO1:∀ k,k<m→OwnV w1 B (V k) (X k):=fun k hk=>(hO k hk).below hb
 obtain ⟨vs,hr,hcov⟩:=hS
 have hbB:=hb.mono hB
 have hkn:=KN.of_below hb
 rcases hr.2 with ⟨e1,e2⟩|⟨g,cap,cur,e1,hg,hgb,hcap,hmx,hcs,htk⟩
 ·subst e2
  have hA:=apart_nil uc ua w1
  clear hr hcov hO1 hO hX dis hL e1
  go_wp2_with fail
  refine hA.mono ?_
  rintro e w2 ⟨rfl,h2⟩
  have hf:=And.intro (hbB.trans (h2.mono (Nat.le_trans hB hb.size))) (hkn.trans (KN.of_below h2))
  clear hA h2
  go_wp2
  go_ret
  exact ⟨rfl,hf⟩
 ·simp only [Value.slice.injEq,true_and] at e1
  obtain ⟨rfl,rfl⟩:=e1
  have hT:TRow w1 g m V:=⟨cur,hgb,fun i hi=>by
   have h:=(hcov i hi 0 _ rfl).2
   rw [← htk] at h
   simp only [Nat.mul_one,Nat.add_zero] at h
   rw [List.getElem?_take,if_pos hi] at h
   simpa using h⟩
  have hA:=apart_anyK g uc m B V X w1 hT hO1 dis hm hX (Nat.le_trans hB hb.size)
  clear hr hcov hO1 hO hX dis hL hT htk hcs
  go_wp2_with fail
  refine hA.mono ?_
  rintro e w2 ⟨rfl,h2⟩
  have hf:=And.intro (hbB.trans h2.1) (hkn.trans h2.2)
  clear hA h2
  go_wp2
  go_ret
  exact ⟨rfl,hf⟩
set_option maxHeartbeats 4000000 in
theorem refSameP {f g:Bool} {c c2:Option Addr} {n n2 k k2:Nat} {d d2:Option Addr} {nd nd2 kd kd2:Nat} {x y:Int} {B B' S R:Nat} (w:World) (ha:GI w B (.agg #[.bool f,.slice c n k]) x S) (La:Got w B (.slice d nd kd) y S) (hb:GI w B' (.agg #[.bool g,.slice c2 n2 k2]) x R) (Lb:Got w B' (.slice d2 nd2 kd2) y R) (hS:S≤100000000) :
  Calls Tryz.prog 40 #[.agg #[.bool f,.slice c n k,.slice d nd kd],.agg #[.bool g,.slice c2 n2 k2,.slice d2 nd2 kd2]] w fun e w'=>e = .returned (.bool true)∧Below w.heap.size w w':=by
 obtain ⟨P0,P1,hb0,hsz⟩:=box_rr w (.bool f) (.slice c n k) (.slice d nd kd) (.bool g) (.slice c2 n2 k2) (.slice d2 nd2 kd2) 44
 obtain ⟨_,_,_,e1,Ka⟩:=ha
 obtain ⟨_,_,_,e2,Kb⟩:=hb
 simp only [Value.agg.injEq,Array.mk.injEq,List.cons.injEq,Value.bool.injEq,Value.slice.injEq,and_true] at e1 e2
 obtain ⟨rfl,rfl,rfl,rfl⟩:=e1
 obtain ⟨rfl,rfl,rfl,rfl⟩:=e2
 generalize decide (x<0)=f at *
 replace Ka:=Ka.below hb0
 replace La:=La.below hb0
 replace Kb:=Kb.below hb0
 replace Lb:=Lb.below hb0
 go_enter Tryz.func40,Tryz.ntmps40
 obtain ⟨p0c0,p0c1,p0c2,p0c3,p0c4,p0c5⟩:=id P0
 obtain ⟨p1c0,p1c1,p1c2,p1c3,p1c4,p1c5⟩:=id P1
 go_wp2_with fail
 generalize (w.alloc (.cells #[.bool f,.slice c n k,.slice d nd kd] 44)).alloc (.cells #[.bool f,.slice c2 n2 k2,.slice d2 nd2 kd2] 44)=W0 at *
 refine (sameG _ Ka Kb rfl (by omega)).mono ?_
 rintro e w1 ⟨rfl,hx⟩
 clear p0c0 p0c1 p0c2 p0c3 p0c4 p0c5 p1c0 p1c1 p1c2 p1c3 p1c4 p1c5
 replace Ka:=Ka.below hx
 replace La:=La.below hx
 replace Kb:=Kb.below hx
 replace Lb:=Lb.below hx
 replace P0:=P0.below hx
 replace P1:=P1.below hx
 replace hb0:=bel_tr hb0 hx
 have hsw1:W0.heap.size≤w1.heap.size:=Below.size hx
 clear hx
 obtain ⟨p0c0,p0c1,p0c2,p0c3,p0c4,p0c5⟩:=id P0
 obtain ⟨p1c0,p1c1,p1c2,p1c3,p1c4,p1c5⟩:=id P1
 go_wp2_with fail
 refine (sameG _ La Lb rfl (by omega)).mono ?_
 rintro e w2 ⟨rfl,hx⟩
 clear p0c0 p0c1 p0c2 p0c3 p0c4 p0c5 p1c0 p1c1 p1c2 p1c3 p1c4 p1c5
 replace Ka:=Ka.below hx
 replace La:=La.below hx
 replace Kb:=Kb.below hx
 replace Lb:=Lb.below hx
 replace P0:=P0.below hx
 replace P1:=P1.below hx
 replace hb0:=bel_tr hb0 hx
 have hsw2:w1.heap.size≤w2.heap.size:=Below.size hx
 clear hx
 obtain ⟨p0c0,p0c1,p0c2,p0c3,p0c4,p0c5⟩:=id P0
 obtain ⟨p1c0,p1c1,p1c2,p1c3,p1c4,p1c5⟩:=id P1
 go_wp2_with (cases f <;> rfl)
 go_ret
 exact ⟨by simp,hb0⟩
theorem tr_nilO (w:World) (S:Nat):TR w false none 0 0 none 0 0 0 S:=⟨0,0,((GI.nil w 0).le (Nat.zero_le S)).ti,((Got.nil w 0).le (Nat.zero_le S)).num,by simp⟩
set_option maxRecDepth 100000 in
set_option maxHeartbeats 8000000 in
theorem sameTokD {k wd:Nat} {x:ByteArray} {l c:Int} {f:Bool} {a1:Option Addr} {n1 k1:Nat} {a2:Option Addr} {n2 k2:Nat} {g:Bool} {b1:Option Addr} {m1 j1:Nat} {b2:Option Addr} {m2 j2:Nat} {q:Rat} {B B':Nat} (w:World) (ha:NumM w B k f a1 n1 k1 a2 n2 k2 q) (hb:NumO w B' k g b1 m1 j1 b2 m2 j2 q) :
  Calls Tryz.prog 22 #[.agg #[.int .i64 (k:Nat),.string x,.bool f,.slice a1 n1 k1,.slice a2 n2 k2,.int .i64 (wd:Nat),.int .i64 l,.int .i64 c],.agg #[.int .i64 (k:Nat),.string x,.bool g,.slice b1 m1 j1,.slice b2 m2 j2,.int .i64 (wd:Nat),.int .i64 l,.int .i64 c]] w fun e w'=>e = .returned (.bool true)∧Below w.heap.size w w':=by
 have RX:=(Rw.new 46 w #[.int .i64 (k:Nat),.string x,.bool f,.slice a1 n1 k1,.slice a2 n2 k2,.int .i64 (wd:Nat),.int .i64 l,.int .i64 c]).alloc (.cells #[.int .i64 (k:Nat),.string x,.bool g,.slice b1 m1 j1,.slice b2 m2 j2,.int .i64 (wd:Nat),.int .i64 l,.int .i64 c] 46)
 have RY:=Rw.new 46 (w.alloc (.cells #[.int .i64 (k:Nat),.string x,.bool f,.slice a1 n1 k1,.slice a2 n2 k2,.int .i64 (wd:Nat),.int .i64 l,.int .i64 c] 46)) #[.int .i64 (k:Nat),.string x,.bool g,.slice b1 m1 j1,.slice b2 m2 j2,.int .i64 (wd:Nat),.int .i64 l,.int .i64 c]
 have hb0:=bel_tr (bel_d0 w (.cells #[.int .i64 (k:Nat),.string x,.bool f,.slice a1 n1 k1,.slice a2 n2 k2,.int .i64 (wd:Nat),.int .i64 l,.int .i64 c] 46)) (bel_d0 (w.alloc (.cells #[.int .i64 (k:Nat),.string x,.bool f,.slice a1 n1 k1,.slice a2 n2 k2,.int .i64 (wd:Nat),.int .i64 l,.int .i64 c] 46)) (.cells #[.int .i64 (k:Nat),.string x,.bool g,.slice b1 m1 j1,.slice b2 m2 j2,.int .i64 (wd:Nat),.int .i64 l,.int .i64 c] 46))
 have hs1:(w.alloc (.cells #[.int .i64 (k:Nat),.string x,.bool f,.slice a1 n1 k1,.slice a2 n2 k2,.int .i64 (wd:Nat),.int .i64 l,.int .i64 c] 46)).heap.size=w.heap.size+1:=by simp
 rw [hs1] at RY
 clear hs1
 have HBS:Hid (∀ s:ByteArray,True):=fun _=>trivial
 rcases ha with ⟨hk,ha⟩|⟨hk,rfl,rfl,rfl,rfl,rfl,rfl,rfl,rfl⟩
 ·rcases hb with ⟨-,hb⟩|⟨hk',-⟩
  ·have hkb:((k:Int) == 2)=true:=by rw [hk];rfl
   have hkx:((k:Int) != 2)=false:=by rw [hk];rfl
   clear hk
   replace ha:=ha.below hb0
   replace hb:=hb.below hb0
   go_enter Tryz.func22,Tryz.ntmps22
   have y0:=(RX.cell 0).trans (show _=some (.int .i64 (k:Nat)) from rfl)
   have y1:=(RX.cell 1).trans (show _=some (.string x) from rfl)
   have y2:=(RX.cell 2).trans (show _=some (.bool f) from rfl)
   have y3:=(RX.cell 3).trans (show _=some (.slice a1 n1 k1) from rfl)
   have y4:=(RX.cell 4).trans (show _=some (.slice a2 n2 k2) from rfl)
   have y5:=(RX.cell 5).trans (show _=some (.int .i64 (wd:Nat)) from rfl)
   have y6:=(RX.cell 6).trans (show _=some (.int .i64 l) from rfl)
   have y7:=(RX.cell 7).trans (show _=some (.int .i64 c) from rfl)
   have y8:=(RY.cell 0).trans (show _=some (.int .i64 (k:Nat)) from rfl)
   have y9:=(RY.cell 1).trans (show _=some (.string x) from rfl)
   have y10:=(RY.cell 2).trans (show _=some (.bool g) from rfl)
   have y11:=(RY.cell 3).trans (show _=some (.slice b1 m1 j1) from rfl)
   have y12:=(RY.cell 4).trans (show _=some (.slice b2 m2 j2) from rfl)
   have y13:=(RY.cell 5).trans (show _=some (.int .i64 (wd:Nat)) from rfl)
   have y14:=(RY.cell 6).trans (show _=some (.int .i64 l) from rfl)
   have y15:=(RY.cell 7).trans (show _=some (.int .i64 c) from rfl)
   go_wp2_with fail
   generalize (w.alloc (.cells #[.int .i64 (k:Nat),.string x,.bool f,.slice a1 n1 k1,.slice a2 n2 k2,.int .i64 (wd:Nat),.int .i64 l,.int .i64 c] 46)).alloc (.cells #[.int .i64 (k:Nat),.string x,.bool g,.slice b1 m1 j1,.slice b2 m2 j2,.int .i64 (wd:Nat),.int .i64 l,.int .i64 c] 46)=W0 at *
   refine (refSameP W0 ha.1 ha.2 hb.1 hb.2 (by decide)).mono ?_
   rintro e w1 ⟨rfl,h1⟩
   have RX1:=RX.below h1
   have RY1:=RY.below h1
   have hbf:=bel_tr hb0 h1
   clear y0 y1 y2 y3 y4 y5 y6 y7 y8 y9 y10 y11 y12 y13 y14 y15 ha hb
   have z0:=(RX1.cell 0).trans (show _=some (.int .i64 (k:Nat)) from rfl)
   have z1:=(RX1.cell 1).trans (show _=some (.string x) from rfl)
   have z2:=(RX1.cell 2).trans (show _=some (.bool f) from rfl)
   have z3:=(RX1.cell 3).trans (show _=some (.slice a1 n1 k1) from rfl)
   have z4:=(RX1.cell 4).trans (show _=some (.slice a2 n2 k2) from rfl)
   have z5:=(RX1.cell 5).trans (show _=some (.int .i64 (wd:Nat)) from rfl)
   have z6:=(RX1.cell 6).trans (show _=some (.int .i64 l) from rfl)
   have z7:=(RX1.cell 7).trans (show _=some (.int .i64 c) from rfl)
   have z8:=(RY1.cell 0).trans (show _=some (.int .i64 (k:Nat)) from rfl)
   have z9:=(RY1.cell 1).trans (show _=some (.string x) from rfl)
   have z10:=(RY1.cell 2).trans (show _=some (.bool g) from rfl)
   have z11:=(RY1.cell 3).trans (show _=some (.slice b1 m1 j1) from rfl)
   have z12:=(RY1.cell 4).trans (show _=some (.slice b2 m2 j2) from rfl)
   have z13:=(RY1.cell 5).trans (show _=some (.int .i64 (wd:Nat)) from rfl)
   have z14:=(RY1.cell 6).trans (show _=some (.int .i64 l) from rfl)
   have z15:=(RY1.cell 7).trans (show _=some (.int .i64 c) from rfl)
   go_wp2
   go_ret
   exact ⟨rfl,hbf⟩
  ·exact absurd hk hk'
 ·rcases hb with ⟨h,-⟩|⟨-,-,rfl,rfl,rfl,rfl,rfl,rfl,rfl⟩
  ·exact absurd h hk
  ·have hkI:¬ (k:Int)=2:=by omega
   have hkb:((k:Int) == 2)=false:=by simpa using hkI
   have hkx:((k:Int) != 2)=true:=by simpa using hkI
   go_enter Tryz.func22,Tryz.ntmps22
   have y0:=(RX.cell 0).trans (show _=some (.int .i64 (k:Nat)) from rfl)
   have y1:=(RX.cell 1).trans (show _=some (.string x) from rfl)
   have y2:=(RX.cell 2).trans (show _=some (.bool false) from rfl)
   have y3:=(RX.cell 3).trans (show _=some (.slice none 0 0) from rfl)
   have y4:=(RX.cell 4).trans (show _=some (.slice none 0 0) from rfl)
   have y5:=(RX.cell 5).trans (show _=some (.int .i64 (wd:Nat)) from rfl)
   have y6:=(RX.cell 6).trans (show _=some (.int .i64 l) from rfl)
   have y7:=(RX.cell 7).trans (show _=some (.int .i64 c) from rfl)
   have y8:=(RY.cell 0).trans (show _=some (.int .i64 (k:Nat)) from rfl)
   have y9:=(RY.cell 1).trans (show _=some (.string x) from rfl)
   have y10:=(RY.cell 2).trans (show _=some (.bool false) from rfl)
   have y11:=(RY.cell 3).trans (show _=some (.slice none 0 0) from rfl)
   have y12:=(RY.cell 4).trans (show _=some (.slice none 0 0) from rfl)
   have y13:=(RY.cell 5).trans (show _=some (.int .i64 (wd:Nat)) from rfl)
   have y14:=(RY.cell 6).trans (show _=some (.int .i64 l) from rfl)
   have y15:=(RY.cell 7).trans (show _=some (.int .i64 c) from rfl)
   go_wp2_with fail
   generalize (w.alloc (.cells #[.int .i64 (k:Nat),.string x,.bool false,.slice none 0 0,.slice none 0 0,.int .i64 (wd:Nat),.int .i64 l,.int .i64 c] 46)).alloc (.cells #[.int .i64 (k:Nat),.string x,.bool false,.slice none 0 0,.slice none 0 0,.int .i64 (wd:Nat),.int .i64 l,.int .i64 c] 46)=W0 at *
   refine (refSameP (x:=0) (y:=0) (S:=0) (R:=0) (B:=0) (B':=0) W0 (GI.nil _ _) (Got.nil _ _) (GI.nil _ _) (Got.nil _ _) (by decide)).mono ?_
   rintro e w1 ⟨rfl,h1⟩
   have RX1:=RX.below h1
   have RY1:=RY.below h1
   clear y0 y1 y2 y3 y4 y5 y6 y7 y8 y9 y10 y11 y12 y13 y14 y15
   have z0:=(RX1.cell 0).trans (show _=some (.int .i64 (k:Nat)) from rfl)
   have z1:=(RX1.cell 1).trans (show _=some (.string x) from rfl)
   have z2:=(RX1.cell 2).trans (show _=some (.bool false) from rfl)
   have z3:=(RX1.cell 3).trans (show _=some (.slice none 0 0) from rfl)
   have z4:=(RX1.cell 4).trans (show _=some (.slice none 0 0) from rfl)
   have z5:=(RX1.cell 5).trans (show _=some (.int .i64 (wd:Nat)) from rfl)
   have z6:=(RX1.cell 6).trans (show _=some (.int .i64 l) from rfl)
   have z7:=(RX1.cell 7).trans (show _=some (.int .i64 c) from rfl)
   have z8:=(RY1.cell 0).trans (show _=some (.int .i64 (k:Nat)) from rfl)
   have z9:=(RY1.cell 1).trans (show _=some (.string x) from rfl)
   have z10:=(RY1.cell 2).trans (show _=some (.bool false) from rfl)
   have z11:=(RY1.cell 3).trans (show _=some (.slice none 0 0) from rfl)
   have z12:=(RY1.cell 4).trans (show _=some (.slice none 0 0) from rfl)
   have z13:=(RY1.cell 5).trans (show _=some (.int .i64 (wd:Nat)) from rfl)
   have z14:=(RY1.cell 6).trans (show _=some (.int .i64 l) from rfl)
   have z15:=(RY1.cell 7).trans (show _=some (.int .i64 c) from rfl)
   go_wp2_with fail
   refine (signB 0 w1 (tr_nilO w1 1) (by decide) (by decide) rfl).mono ?_
   rintro e w2 ⟨rfl,h2⟩
   have RX2:=RX1.below h2
   have RY2:=RY1.below h2
   clear z0 z1 z2 z3 z4 z5 z6 z7 z8 z9 z10 z11 z12 z13 z14 z15
   have y0:=(RX2.cell 0).trans (show _=some (.int .i64 (k:Nat)) from rfl)
   have y1:=(RX2.cell 1).trans (show _=some (.string x) from rfl)
   have y2:=(RX2.cell 2).trans (show _=some (.bool false) from rfl)
   have y3:=(RX2.cell 3).trans (show _=some (.slice none 0 0) from rfl)
   have y4:=(RX2.cell 4).trans (show _=some (.slice none 0 0) from rfl)
   have y5:=(RX2.cell 5).trans (show _=some (.int .i64 (wd:Nat)) from rfl)
   have y6:=(RX2.cell 6).trans (show _=some (.int .i64 l) from rfl)
   have y7:=(RX2.cell 7).trans (show _=some (.int .i64 c) from rfl)
   have y8:=(RY2.cell 0).trans (show _=some (.int .i64 (k:Nat)) from rfl)
   have y9:=(RY2.cell 1).trans (show _=some (.string x) from rfl)
   have y10:=(RY2.cell 2).trans (show _=some (.bool false) from rfl)
   have y11:=(RY2.cell 3).trans (show _=some (.slice none 0 0) from rfl)
   have y12:=(RY2.cell 4).trans (show _=some (.slice none 0 0) from rfl)
   have y13:=(RY2.cell 5).trans (show _=some (.int .i64 (wd:Nat)) from rfl)
   have y14:=(RY2.cell 6).trans (show _=some (.int .i64 l) from rfl)
   have y15:=(RY2.cell 7).trans (show _=some (.int .i64 c) from rfl)
   go_wp2_with fail
   refine (signB 0 w2 (tr_nilO w2 1) (by decide) (by decide) rfl).mono ?_
   rintro e w3 ⟨rfl,h3⟩
   have RX3:=RX2.below h3
   have RY3:=RY2.below h3
   have hbf:=bel_tr (bel_tr (bel_tr hb0 h1) h2) h3
   clear y0 y1 y2 y3 y4 y5 y6 y7 y8 y9 y10 y11 y12 y13 y14 y15
   have z0:=(RX3.cell 0).trans (show _=some (.int .i64 (k:Nat)) from rfl)
   have z1:=(RX3.cell 1).trans (show _=some (.string x) from rfl)
   have z2:=(RX3.cell 2).trans (show _=some (.bool false) from rfl)
   have z3:=(RX3.cell 3).trans (show _=some (.slice none 0 0) from rfl)
   have z4:=(RX3.cell 4).trans (show _=some (.slice none 0 0) from rfl)
   have z5:=(RX3.cell 5).trans (show _=some (.int .i64 (wd:Nat)) from rfl)
   have z6:=(RX3.cell 6).trans (show _=some (.int .i64 l) from rfl)
   have z7:=(RX3.cell 7).trans (show _=some (.int .i64 c) from rfl)
   have z8:=(RY3.cell 0).trans (show _=some (.int .i64 (k:Nat)) from rfl)
   have z9:=(RY3.cell 1).trans (show _=some (.string x) from rfl)
   have z10:=(RY3.cell 2).trans (show _=some (.bool false) from rfl)
   have z11:=(RY3.cell 3).trans (show _=some (.slice none 0 0) from rfl)
   have z12:=(RY3.cell 4).trans (show _=some (.slice none 0 0) from rfl)
   have z13:=(RY3.cell 5).trans (show _=some (.int .i64 (wd:Nat)) from rfl)
   have z14:=(RY3.cell 6).trans (show _=some (.int .i64 l) from rfl)
   have z15:=(RY3.cell 7).trans (show _=some (.int .i64 c) from rfl)
   go_wp2
   go_ret
   exact ⟨rfl,hbf⟩
end Go.Proofs.YtgdilnljjgdinaaGreatDoor

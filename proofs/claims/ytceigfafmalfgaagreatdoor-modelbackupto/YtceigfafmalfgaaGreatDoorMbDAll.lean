import Derived.Test.YtceigfafmalfgaaGreatDoorPrQ
import Derived.Test.YtceigfafmalfgaaGreatDoorMbC
namespace Go.Proofs.YtceigfafmalfgaaGreatDoor
open Go.RowKit Go.Maps
def rwG (T:Txt) (J:Nat→Nat→Nat) (i:Nat):PW:={ nm:=(T.C i).nm,nt:=(T.C i).n,t:=fun k=>⟨(J i k:Int),((T.C i).I k).coef⟩,hlo:=(T.C i).hlo,lo:=(T.C i).lo-0,hhi:=(T.C i).hhi,hi:=(T.C i).hi-0 }
set_option maxRecDepth 100000 in
set_option maxHeartbeats 16000000 in
theorem rowsG (T:Txt) {w:World} {B p q b:Nat} {D:DataW Value} {ns:List ByteArray} (J:Nat→Nat→Nat) (hK:T.K≤1048577) {w0:World} (hT:TX w0 T) (hb0:Below w0.heap.size w0 w) (hPl:Pl w B p q b D ns) (hnl1:ns.length≤1048576) (hTB:TB w)
  (hI:∀ j,j<T.cn→∀ i,i<(T.C j).n→ns[J j i]? = some ((T.C j).I i).nm∧((T.C j).I i).nm.data.toList≠[]) (hn0:∀ j,j<T.cn→(T.C j).nm.data.toList≠[]) (fv:Value) :
  Calls Tryz.prog 18 #[.slice T.ca T.cn T.cc,.map (some b),fv] w fun e w'=>∃ ra rc F,e = .returned (.slice ra T.cn rc)∧SL w' w.heap.size 54 10 (.slice ra T.cn rc) T.cn F∧(∀ i,i<T.cn→RF w0 w' w.heap.size (F i) (rwG T J i) (T.ZC i+2))∧Below w.heap.size w w':=by
 have HT:∀ w',Below w.heap.size w w'→Below w0.heap.size w0 w':=fun w' h=>hb0.trans (h.mono hb0.size)
 have HP:Hid (∀ w',Below w.heap.size w w'→Pl w' B p q b D ns):=fun w' h=>hPl.below h
 have HB:Hid (∀ w',Below w.heap.size w w'→TB w'):=fun w' h=>hTB.below h
 have HI:Hid (∀ j,j<T.cn→∀ i,i<(T.C j).n→ns[J j i]? = some ((T.C j).I i).nm∧((T.C j).I i).nm.data.toList≠[]):=hI
 have H0:Hid (∀ j,j<T.cn→(T.C j).nm.data.toList≠[]):=hn0
 clear hI hn0
 go_enter Tryz.func18,Tryz.ntmps18
 go_wp2
 go_loopw [7,14] (fun s7 s14 wr=>∃ (j:Nat) (F:Nat→List Value),j≤T.cn∧s14 = .int .i64 j∧SL wr w.heap.size 54 10 s7 j F∧(∀ i,i<j→RF w0 wr w.heap.size (F i) (rwG T J i) (T.ZC i+2))∧Below w.heap.size w wr) (fun _ s14 _=>T.cn-(intOf s14).toNat)
 case atStart=>exact ⟨0,fun _=>[],by omega,rfl,SL.nil _ _ _ _ _,fun i hi=>by omega,Below.refl _ _⟩
 case round =>
  obtain ⟨j,F,hj,rfl,hS,hF,hN⟩:=hrel
  obtain ⟨ga,gc,rfl,hgc⟩:=hS.form
  by_cases hlt:j<T.cn
  ·have hkI:(j:Int)<(T.cn:Int):=by omega
   have hkI2:(j:Int)*12=((j*12:Nat):Int):=by omega
   have hB0:=HT wr hN
   have hal:=hT.all
   have hal2:=tot_pos T.ZI T.n
   have hal3:=tot_len T.ZC T.cn
   rcases hT.c with h0|⟨cb,co,eca,hel⟩
   ·omega
   have hC:=hel j hlt
   have hZj:=tot_le (Z:=T.ZC) (show j<T.cn by omega)
   obtain ⟨nm,enm⟩:∃ x,x=(T.C j).nm:=⟨_,rfl⟩
   obtain ⟨ln,eln⟩:∃ x,x=(T.C j).ln:=⟨_,rfl⟩
   obtain ⟨cl,ecl⟩:∃ x,x=(T.C j).cl:=⟨_,rfl⟩
   obtain ⟨n,en⟩:∃ x,x=(T.C j).n:=⟨_,rfl⟩
   obtain ⟨hl,ehl⟩:∃ x,x=(T.C j).hlo:=⟨_,rfl⟩
   obtain ⟨hh,ehh⟩:∃ x,x=(T.C j).hhi:=⟨_,rfl⟩
   have x0:=kept_c hB0 hC.nm
   have x1:=kept_c hB0 hC.ln
   have x2:=kept_c hB0 hC.cl
   obtain ⟨ia,ic,Zi,x3,hLI,htot,hic⟩:=hC.items
   have x4:=kept_c hB0 hC.hlo
   obtain ⟨p2,a2,n2,k2,d2,m2,l2,x5,x6,x7,t2⟩:=hC.lo
   have x8:=kept_c hB0 hC.hhi
   obtain ⟨p3,a3,n3,k3,d3,m3,l3,x9,x10,x11,t3⟩:=hC.hi
   replace x3:=kept_c hB0 x3
   replace x5:=kept_c hB0 x5
   replace x6:=kept_c hB0 x6
   replace x7:=kept_c hB0 x7
   replace x9:=kept_c hB0 x9
   replace x10:=kept_c hB0 x10
   replace x11:=kept_c hB0 x11
   have hs1:=hC.s1
   have hIn:=HI.out j hlt
   rw [← enm] at x0
   rw [← eln] at x1
   rw [← ecl] at x2
   rw [← en] at x3 hLI htot hic hIn
   rw [← ehl] at x4
   rw [← ehh] at x8
   have EN:Hid (nm=(T.C j).nm∧n=(T.C j).n∧hl=(T.C j).hlo∧hh=(T.C j).hhi):=⟨enm,en,ehl,ehh⟩
   have hslo:=hC.slo
   have hshi:=hC.shi
   clear hel hC enm eln ecl en ehl ehh
   rw [eca]
   have hnl:=tot_len Zi n
   have hn1:n≤1048576:=by omega
   have hZ2:T.ZC j≤1048576:=by omega
   have hz0:=bel_d0 wr (.cells #[.string nm,.int .i64 ln,.int .i64 cl,.slice ia n ic,.bool hl,.bool p2,.slice a2 n2 k2,.slice d2 m2 l2,.bool hh,.bool p3,.slice a3 n3 k3,.slice d3 m3 l3] 61)
   have N4:=box_new wr #[.string nm,.int .i64 ln,.int .i64 cl,.slice ia n ic,.bool hl,.bool p2,.slice a2 n2 k2,.slice d2 m2 l2,.bool hh,.bool p3,.slice a3 n3 k3,.slice d3 m3 l3] 61
   have hN4:Below w.heap.size w _:=bel_tr hN hz0
   have hb4:=hz0
   have hsw:=hN.size
   have hs4:(wr.alloc (.cells #[.string nm,.int .i64 ln,.int .i64 cl,.slice ia n ic,.bool hl,.bool p2,.slice a2 n2 k2,.slice d2 m2 l2,.bool hh,.bool p3,.slice a3 n3 k3,.slice d3 m3 l3] 61)).heap.size=wr.heap.size+1:=by simp
   have he:nm.data.toList≠[]:=by rw [EN.out.1];exact H0.out j hlt
   have he2:¬ nm.toList=[]:=by rw [ByteArray.toList_eq];exact he
   have he3:nm.toList.isEmpty=false:=by simpa using he2
   clear he
   go_wp2_with fail
   have hNc:=hN4
   have hbc:Below wr.heap.size wr _:=hz0
   generalize wr.alloc (.cells #[.string nm,.int .i64 ln,.int .i64 cl,.slice ia n ic,.bool hl,.bool p2,.slice a2 n2 k2,.slice d2 m2 l2,.bool hh,.bool p3,.slice a3 n3 k3,.slice d3 m3 l3] 61)=W4 at *
   have hBc:Below w.heap.size w W4:=hNc
   have NB:∀ i u,(#[.string nm,.int .i64 ln,.int .i64 cl,.slice ia n ic,.bool hl,.bool p2,.slice a2 n2 k2,.slice d2 m2 l2,.bool hh,.bool p3,.slice a3 n3 k3,.slice d3 m3 l3]).toList[i]? = some u→W4.cell? ⟨wr.heap.size,i,none⟩=some u:=fun i u hu=>N4 i u hu
   have hsc:=hNc.size
   have hbs:=hbc.size
   have hwl:wr.heap.size<W4.heap.size:=World.block_lt_of_cell? _ _ (NB 0 _ rfl)
   have c3:=NB 3 _ rfl
   have HCO:=constantA (ic:=ic) (hLI.below (HT W4 hBc)) hn1 (fun i hi=>(hIn i hi).2) (HB.out W4 hBc)
   clear x0 x1 x2 x3 x4 x5 x6 x7 x8 x9 x10 x11 hz0 hb4 N4 hN4 hs4
   go_wp2_with fail
   refine HCO.mono ?_
   clear HCO
   rintro e w5 ⟨fk,ck,nk,kk,dk,mk,lk,rfl,GK,hb5⟩
   go_wp2_with fail
   have hb56:=bel_d0 w5 (.cells #[.bool fk,.slice ck nk kk,.slice dk mk lk] 27)
   have hbc6:=bel_tr hb5 hb56
   have hB6:Below w.heap.size w _:=bel_tr hBc hbc6
   have NB6:=BoxC.below (w:=W4) NB hbc6
   have V6:=box_new w5 #[.bool fk,.slice ck nk kk,.slice dk mk lk] 27
   have GK6:=GK.below hb56
   have hS4:=hS.below hbc
   have hF4:∀ i,i<j→RF w0 W4 w.heap.size (F i) (rwG T J i) (T.ZC i+2):=fun i hi=>(hF i hi).below hbc
   have hS6:=hS4.below hbc6
   have hF6:∀ i,i<j→RF w0 _ w.heap.size (F i) (rwG T J i) (T.ZC i+2):=fun i hi=>(hF4 i hi).below hbc6
   have hs5:=hb5.size
   have hrow:∀ g,(Value.slice ga j gc).ownBlock=some g→g<wr.heap.size:=fun g hg=>(hS.lt g hg).2
   have hN6:Below w.heap.size w _:=bel_tr hNc hbc6
   have hrw:∀ g,(Value.slice ga j gc).ownBlock=some g→w.heap.size≤g:=fun g hg=>(hS.lt g hg).1
   clear hS hS4 hF hF4 hN hNc hbc NB c3 GK hb5 hbc6 hb56
   generalize w5.alloc (.cells #[.bool fk,.slice ck nk kk,.slice dk mk lk] 27)=W6 at *
   have hs6:=hN6.size
   have hXW:w.heap.size≤W6.heap.size:=by omega
   have hT6:=HT W6 hB6
   refine wp_region_noPanic (wp_region_guard (Till 17 17 (fun w'=>BoxC w' wr.heap.size (#[.string nm,.int .i64 ln,.int .i64 cl,.slice ia n ic,.bool hl,.bool p2,.slice a2 n2 k2,.slice d2 m2 l2,.bool hh,.bool p3,.slice a3 n3 k3,.slice d3 m3 l3]).toList∧BoxC w' w5.heap.size [.bool fk,.slice ck nk kk,.slice dk mk lk]) (fun _=>True)) (by kernel_rfl) ?_)
   refine wpAnyG.take 0 (v:=.slice ga j gc) (by decide) (by kernel_rfl) (fun _ _ _ h=>h) 17 _ (by rfl) (till_ind (by decide) (by decide)) (fun L w' h1 h2=>h2.1 h1) (by kernel_rfl) (by kernel_rfl) (by kernel_rfl) (by rfl) ?y0 ⟨fun _=>⟨NB6,V6⟩,fun _=>trivial⟩ (by rfl) ?_
   case y0 =>
    rintro w' ⟨hB5,hV5⟩
    skip
    simp only [lgA,lgZ]
    go_simp
   simp only [lgA,lgZ,Act.put,lsA,lsZ,lsS]
   refine wpAnyG.take 1 (v:=.string nm) (by decide) (by kernel_rfl) (fun _ _ _ h=>h) 17 _ (by rfl) (till_ind (by decide) (by decide)) (fun L w' h1 h2=>h2.1 h1) (by kernel_rfl) (by kernel_rfl) (by kernel_rfl) (by rfl) ?y1 ⟨fun _=>⟨NB6,V6⟩,fun _=>trivial⟩ (by rfl) ?_
   case y1 =>
    rintro w' ⟨hB5,hV5⟩
    skip
    simp only [lgA,lgZ,lgS]
    go_simp
   simp only [lgA,lgZ,lgS,Act.put,lsA,lsZ,lsS]
   refine wpAnyG.take 2 (v:=.pointer (some ⟨wr.heap.size,3,none⟩)) (by decide) (by kernel_rfl) (fun _ _ _ h=>h) 17 _ (by rfl) (till_ind (by decide) (by decide)) (fun L w' h1 h2=>h2.1 h1) (by kernel_rfl) (by kernel_rfl) (by kernel_rfl) (by rfl) ?y2 ⟨fun _=>⟨NB6,V6⟩,fun _=>trivial⟩ (by rfl) ?_
   case y2 =>
    rintro w' ⟨hB5,hV5⟩
    skip
    simp only [lgA,lgZ,lgS]
    go_simp
   simp only [lgA,lgZ,lgS,Act.put,lsA,lsZ,lsS]
   refine wpAnyG.take 3 (v:=.slice ia n ic) (by decide) (by kernel_rfl) (fun _ _ _ h=>h) 17 _ (by rfl) (till_ind (by decide) (by decide)) (fun L w' h1 h2=>h2.1 h1) (by kernel_rfl) (by kernel_rfl) (by kernel_rfl) (by rfl) ?y3 ⟨fun _=>⟨NB6,V6⟩,fun _=>trivial⟩ (by rfl) ?_
   case y3 =>
    rintro w' ⟨hB5,hV5⟩
    have qhB53:=hB5 3 _ rfl
    simp only [lgA,lgZ,lgS]
    go_simp
   simp only [lgA,lgZ,lgS,Act.put,lsA,lsZ,lsS]
   refine wpAnyG.take 4 (v:=.map (some b)) (by decide) (by kernel_rfl) (fun _ _ _ h=>h) 17 _ (by rfl) (till_ind (by decide) (by decide)) (fun L w' h1 h2=>h2.1 h1) (by kernel_rfl) (by kernel_rfl) (by kernel_rfl) (by rfl) ?y4 ⟨fun _=>⟨NB6,V6⟩,fun _=>trivial⟩ (by rfl) ?_
   case y4 =>
    rintro w' ⟨hB5,hV5⟩
    skip
    simp only [lgA,lgZ,lgS]
    go_simp
   simp only [lgA,lgZ,lgS,Act.put,lsA,lsZ,lsS]
   refine wpAnyG.take 6 (v:=.pointer (some ⟨wr.heap.size,4,none⟩)) (by decide) (by kernel_rfl) (fun _ _ _ h=>h) 17 _ (by rfl) (till_ind (by decide) (by decide)) (fun L w' h1 h2=>h2.1 h1) (by kernel_rfl) (by kernel_rfl) (by kernel_rfl) (by rfl) ?y6 ⟨fun _=>⟨NB6,V6⟩,fun _=>trivial⟩ (by rfl) ?_
   case y6 =>
    rintro w' ⟨hB5,hV5⟩
    skip
    simp only [lgA,lgZ,lgS]
    go_simp
   simp only [lgA,lgZ,lgS,Act.put,lsA,lsZ,lsS]
   refine wpAnyG.take 7 (v:=.agg #[.bool hl,.bool p2,.slice a2 n2 k2,.slice d2 m2 l2]) (by decide) (by kernel_rfl) (fun _ _ _ h=>h) 17 _ (by rfl) (till_ind (by decide) (by decide)) (fun L w' h1 h2=>h2.1 h1) (by kernel_rfl) (by kernel_rfl) (by kernel_rfl) (by rfl) ?y7 ⟨fun _=>⟨NB6,V6⟩,fun _=>trivial⟩ (by rfl) ?_
   case y7 =>
    rintro w' ⟨hB5,hV5⟩
    have qhB54:=hB5 4 _ rfl;have qhB55:=hB5 5 _ rfl;have qhB56:=hB5 6 _ rfl;have qhB57:=hB5 7 _ rfl
    simp only [lgA,lgZ,lgS]
    go_simp
   simp only [lgA,lgZ,lgS,Act.put,lsA,lsZ,lsS]
   refine wpAnyG.take 8 (v:=.agg #[.bool fk,.slice ck nk kk,.slice dk mk lk]) (by decide) (by kernel_rfl) (fun _ _ _ h=>h) 17 _ (by rfl) (till_ind (by decide) (by decide)) (fun L w' h1 h2=>h2.1 h1) (by kernel_rfl) (by kernel_rfl) (by kernel_rfl) (by rfl) ?y8 ⟨fun _=>⟨NB6,V6⟩,fun _=>trivial⟩ (by rfl) ?_
   case y8 =>
    rintro w' ⟨hB5,hV5⟩
    have qhV50:=hV5 0 _ rfl;have qhV51:=hV5 1 _ rfl;have qhV52:=hV5 2 _ rfl
    simp only [lgA,lgZ,lgS]
    go_simp
   simp only [lgA,lgZ,lgS,Act.put,lsA,lsZ,lsS]
   refine wpAnyG.take 10 (v:=.pointer (some ⟨wr.heap.size,8,none⟩)) (by decide) (by kernel_rfl) (fun _ _ _ h=>h) 17 _ (by rfl) (till_ind (by decide) (by decide)) (fun L w' h1 h2=>h2.1 h1) (by kernel_rfl) (by kernel_rfl) (by kernel_rfl) (by rfl) ?y10 ⟨fun _=>⟨NB6,V6⟩,fun _=>trivial⟩ (by rfl) ?_
   case y10 =>
    rintro w' ⟨hB5,hV5⟩
    skip
    simp only [lgA,lgZ,lgS]
    go_simp
   simp only [lgA,lgZ,lgS,Act.put,lsA,lsZ,lsS]
   refine wpAnyG.take 11 (v:=.agg #[.bool hh,.bool p3,.slice a3 n3 k3,.slice d3 m3 l3]) (by decide) (by kernel_rfl) (fun _ _ _ h=>h) 17 _ (by rfl) (till_ind (by decide) (by decide)) (fun L w' h1 h2=>h2.1 h1) (by kernel_rfl) (by kernel_rfl) (by kernel_rfl) (by rfl) ?y11 ⟨fun _=>⟨NB6,V6⟩,fun _=>trivial⟩ (by rfl) ?_
   case y11 =>
    rintro w' ⟨hB5,hV5⟩
    have qhB58:=hB5 8 _ rfl;have qhB59:=hB5 9 _ rfl;have qhB510:=hB5 10 _ rfl;have qhB511:=hB5 11 _ rfl
    simp only [lgA,lgZ,lgS]
    go_simp
   simp only [lgA,lgZ,lgS,Act.put,lsA,lsZ,lsS]
   refine wpAnyG.take 12 (v:=.agg #[.bool fk,.slice ck nk kk,.slice dk mk lk]) (by decide) (by kernel_rfl) (fun _ _ _ h=>h) 17 _ (by rfl) (till_ind (by decide) (by decide)) (fun L w' h1 h2=>h2.1 h1) (by kernel_rfl) (by kernel_rfl) (by kernel_rfl) (by rfl) ?y12 ⟨fun _=>⟨NB6,V6⟩,fun _=>trivial⟩ (by rfl) ?_
   case y12 =>
    rintro w' ⟨hB5,hV5⟩
    have qhV50:=hV5 0 _ rfl;have qhV51:=hV5 1 _ rfl;have qhV52:=hV5 2 _ rfl
    simp only [lgA,lgZ,lgS]
    go_simp
   simp only [lgA,lgZ,lgS,Act.put,lsA,lsZ,lsS]
   refine wpAnyG.one 5 (by kernel_rfl) (by decide) (by rfl) (fun K hK=>?_)
   simp only [lgA,lgZ,lgS]
   go_simp
   refine (termsS (HP.out _ (hB6.trans ((bel_d1 _).mono hXW))) (bel_tr hT6 (bel_d1 _)) hLI (fun i hi=>by
    rcases hLI with h0|⟨tb,to,eia,hel⟩
    ·omega
    ·exact (hel i hi).snm) hn1 (J j) (fun i hi=>(hIn i hi).1) hnl1).mono ?_
   rintro e v1 ⟨ta,tc,E,rfl,hSL,hTQ,htc,hk1⟩
   have hc1:Below W6.heap.size W6 v1:=bel_tr (bel_d1 _) hk1
   have hm1:=hc1.size
   dsimp only
   refine hK _ _ ⟨fun _=>⟨NB6.below hc1,V6.below hc1⟩,fun _=>trivial⟩ ?_
   clear hK K
   refine wpAnyG.one 9 (by kernel_rfl) (by decide) (by rfl) (fun K hK=>?_)
   simp only [lgA,lgZ,lgS]
   go_simp
   refine (lessBQ _ (t2.below (bel_tr hT6 hc1)) (GK6.tr.below hc1) (by omega) hs1 (by omega) (HB.out _ (hB6.trans (hc1.mono hXW)))).mono ?_
   rintro e v2 ⟨f2,c2,j2,g2,c2',j2',g2',rfl,G2,hk2⟩
   have hc2:Below W6.heap.size W6 v2:=bel_tr hc1 hk2
   have hm2:=hc2.size
   dsimp only
   refine hK _ _ ⟨fun _=>⟨NB6.below hc2,V6.below hc2⟩,fun _=>trivial⟩ ?_
   clear hK K
   refine wpAnyG.one 13 (by kernel_rfl) (by decide) (by rfl) (fun K hK=>?_)
   simp only [lgA,lgZ,lgS]
   go_simp
   refine (lessBQ _ (t3.below (bel_tr hT6 hc2)) (GK6.tr.below hc2) (by omega) hs1 (by omega) (HB.out _ (hB6.trans (hc2.mono hXW)))).mono ?_
   rintro e v3 ⟨f3,c3,j3,g3,c3',j3',g3',rfl,G3,hk3⟩
   have hc3:Below W6.heap.size W6 v3:=bel_tr hc2 hk3
   have hm3:=hc3.size
   dsimp only
   refine hK _ _ ⟨fun _=>⟨NB6.below hc3,V6.below hc3⟩,fun _=>trivial⟩ ?_
   clear hK K
   refine wpAnyG.one 14 (by kernel_rfl) (by decide) (by rfl) (fun K hK=>?_)
   simp only [lgA,lgZ,lgS]
   go_simp
   refine hK _ _ ⟨fun _=>⟨NB6.below hc3,V6.below hc3⟩,fun _=>trivial⟩ ?_
   clear hK K
   refine wpAnyG.one 15 (by kernel_rfl) (by decide) (by rfl) (fun K hK=>?_)
   simp only [lgA,lgZ,lgS]
   go_simp
   have hc4:Below W6.heap.size W6 (v3.alloc (.cells #[.string nm,.slice ta n tc,.bool hl,.bool f2,.slice c2 j2 g2,.slice c2' j2' g2',.bool hh,.bool f3,.slice c3 j3 g3,.slice c3' j3' g3'] 54)):=bel_a hc3
   refine hK _ _ ⟨fun _=>⟨NB6.below hc4,V6.below hc4⟩,fun _=>trivial⟩ ?_
   clear hK K
   refine wpAnyG.one 16 (by kernel_rfl) (by decide) (by rfl) (fun K hK=>?_)
   simp only [lgA,lgZ,lgS]
   have hS7:=hS6.below hc4
   refine wp_appendS _ _ _ 29 54 10 168 rfl Tryz.underlying29 infRow (by decide) (by decide) w.heap.size (.slice ga j gc) j F rfl hS7 v3.heap.size _ rfl [.string nm,.slice ta n tc,.bool hl,.bool f2,.slice c2 j2 g2,.slice c2' j2' g2',.bool hh,.bool f3,.slice c3 j3 g3,.slice c3' j3' g3'] rfl (fun u hu=>by simp at hu;rcases hu with rfl|rfl|rfl|rfl|rfl|rfl|rfl|rfl|rfl|rfl <;> rfl) (box_new v3 #[.string nm,.slice ta n tc,.bool hl,.bool f2,.slice c2 j2 g2,.slice c2' j2' g2',.bool hh,.bool f3,.slice c3 j3 g3,.slice c3' j3' g3'] 54) (by omega) (by simp;omega) (v3.heap.size+1) (by simp) ?_
   intro gN capN w7 SN hgrow hat _
   refine hK _ _ ⟨fun _=>⟨fun a u hu=>keep_ne hgrow (NB6.below hc4 a u hu) (fun e=>by have h9:=hrow _ e;simp at h9),fun a u hu=>keep_ne hgrow (V6.below hc4 a u hu) (fun e=>by have h9:w5.heap.size<wr.heap.size:=hrow _ e;omega)⟩,fun _=>trivial⟩ ?_
   clear hK K
   refine wpAnyG.one 17 (by kernel_rfl) (by decide) (by rfl) (fun K hK=>?_)
   simp only [lgA,lgZ,lgS]
   go_simp
   refine hK _ _ ⟨fun h=>absurd h (by decide),fun _=>trivial⟩ ?_
   clear hK K
   refine wpAnyG.done (by kernel_rfl) (NoPanic.normal ?_)
   have hnw:=hS7.noW (by decide)
   have hnt:=hS7.noT (by decide)
   have hxA:=bel_d0 v3 (.cells #[.string nm,.slice ta n tc,.bool hl,.bool f2,.slice c2 j2 g2,.slice c2' j2' g2',.bool hh,.bool f3,.slice c3 j3 g3,.slice c3' j3' g3'] 54)
   have hb14:=bel_tr (bel_tr hk2 hk3) hxA
   have hSL7:=((hSL.mono (show w.heap.size≤W6.drew.heap.size from hs6)).below hb14)
   have hSL8:=hSL7.kept hgrow (hSL7.ne_noT hnt)
   have G28:=(((G2.mono (show w.heap.size≤_ by omega)).below (bel_tr hk3 hxA)).keep hnw hgrow).le (show T.ZC j+1+1≤T.ZC j+2 by omega)
   have G38:=(((G3.mono (show w.heap.size≤_ by omega)).below hxA).keep hnw hgrow).le (show T.ZC j+1+1≤T.ZC j+2 by omega)
   obtain ⟨en1,en2,en3,en4⟩:=EN.out
   have hnmR:(rwG T J j).nm=nm:=en1.symm
   have RN:∀ i,i<j+1→RF w0 w7 w.heap.size ((fun i=>if i<j then F i else [.string nm,.slice ta n tc,.bool hl,.bool f2,.slice c2 j2 g2,.slice c2' j2' g2',.bool hh,.bool f3,.slice c3 j3 g3,.slice c3' j3' g3']) i) (rwG T J i) (T.ZC i+2):=by
    intro i hi
    by_cases hij:i<j
    ·simp only [hij,if_true]
     exact ((hF6 i hij).below hc4).keep hnw hnt hgrow
    ·obtain rfl:i=j:=by omega
     simp only [Nat.lt_irrefl,if_false]
     refine ⟨ta,tc,E,Zi,f2,c2,j2,g2,c2',j2',g2',f3,c3,j3,g3,c3',j3',g3',?_,?_,?_,?_,?_,G28,G38⟩
     ·rw [hnmR,en2,en3,en4];rfl
     ·show SL _ _ _ 4 (.slice ta (T.C i).n tc) (T.C i).n E;rw [← en2];exact hSL8
     ·intro k hk
      have hk':k<n:=by rw [en2];exact hk
      refine ⟨hTQ k hk',?_⟩
      rcases hLI with h0|⟨tb,to,eia,hel⟩
      ·omega
      ·exact ⟨(hel k hk').s1,(hel k hk').sz⟩
     ·show tot Zi (T.C i).n+2≤_;rw [← en2];omega
     ·show (T.C i).n≤tc;rw [← en2];exact htc
   have NN:Below w.heap.size w w7:=(bel_tr hN6 hc4).trans (grown_below hgrow (by have:=hc4.size;omega) (fun k e=>hrw k e))
   clear hSL hSL7 hSL8 G2 G3 G28 G38 hgrow hat hnw hnt hxA hb14 hk1 hk2 hk3 hc1 hc2 hc3 hc4 hF6 hS6 hS7 NB6 V6 GK6 hB6 hT6 hN6 hTQ hLI en1 en2 en3 en4 hnmR EN t2 t3
   rw [← eca]
   go_wp2
   go_roundw
   case rel=>exact ⟨_,_,_,_,_,_,⟨j+1,by omega,by go_num,_,SN,RN⟩,rfl,rfl,rfl,rfl,rfl,rfl⟩
   case measure=>simp [intOf];omega
  ·have hkI:¬ (j:Int)<(T.cn:Int):=by omega
   obtain rfl:j=T.cn:=by omega
   go_wp2
   go_ret
   first|exact ⟨ga,gc,rfl,F,hS,hF,hN⟩|exact ⟨ga,gc,F,rfl,hS,hF,hN⟩|exact ⟨ga,gc,rfl,⟨F,hS,hF⟩,hN⟩
end Go.Proofs.YtceigfafmalfgaaGreatDoor
namespace Go.Proofs.YtceigfafmalfgaaGreatDoor
open Go.RowKit Go.Maps
def okR (P:Prob) (i k:Nat):Bool:=decide (0≤((P.R i).t k).var) && decide (((P.R i).t k).var<(P.vn:Int))
def fR (P:Prob) (i q:Nat):PT:=(P.R i).t (fxq (okR P i) (P.R i).nt q)
def whP (P:Prob) (j:Nat):Bool:=(P.V j).whole
def itP (P:Prob) (j:Nat):PI:=if j=0 then ⟨P.k,⟨#[]⟩,0,0⟩ else ⟨(P.V (j-1)).obj,(P.V (j-1)).nm,0,0⟩
def itR (P:Prob) (i q:Nat):PI:=⟨(fR P i q).coef,(P.V (fR P i q).var.toNat).nm,0,0⟩
def txP (P:Prob) (ia:Option Addr) (ic:Nat) (ca:Option Addr) (cc:Nat) (la:Option Addr) (lc:Nat) (wa:Option Addr) (wc:Nat):Txt :=
 { mx:=P.mx,nm:=P.nm,ia:=ia,n:=P.vn+1,ic:=ic,ca:=ca,cn:=P.rn,cc:=cc,I:=itP P,ZI:=fun j=>if j=0 then P.S else P.ZV (j-1),C:=fun i=>⟨(P.R i).nm,0,0,flt (okR P i) (P.R i).nt,itR P i,(P.R i).hlo,(P.R i).lo,(P.R i).hhi,(P.R i).hi⟩,ZC:=P.ZR,K:=P.K+1,la:=la,ln:=P.vn,lc:=lc,L:=fun j=>⟨(P.V j).nm,0,0,true,true,(P.V j).hlo,(P.V j).lo,(P.V j).hhi,(P.V j).hi⟩,ZL:=P.ZV,wa:=wa,wn:=flt (whP P) P.vn,wc:=wc,M:=fun q=>⟨(P.V (fxq (whP P) P.vn q)).nm,0,0⟩ }
def nsP (P:Prob):List ByteArray:=(List.range P.vn).map (fun j=>(P.V j).nm)
structure UL (P:Prob):Prop where
 v0:∀ j,j<P.vn→(P.V j).nm.data.toList≠[]
 vd:∀ j k,j<k→k<P.vn→(P.V j).nm≠(P.V k).nm
 r0:∀ i,i<P.rn→(P.R i).nm.data.toList≠[]
 rn:∀ i,i<P.rn→(P.R i).nm≠P.nm
 rd:∀ i k,i<k→k<P.rn→(P.R i).nm≠(P.R k).nm
theorem nsP_at {P:Prob} {j:Nat} (h:j<P.vn):(nsP P)[j]? = some (P.V j).nm:=by unfold nsP;rw [List.getElem?_map,List.getElem?_range h];rfl
theorem nsP_mem {P:Prob} {j:Nat} (h:j<P.vn):(P.V j).nm ∈ nsP P:=List.mem_of_getElem? (nsP_at h)
theorem nsP_len (P:Prob):(nsP P).length=P.vn:=by simp [nsP]
theorem stq_in {ns:List ByteArray} {s:ByteArray} (h:s ∈ ns):stq ns s=ns:=by unfold stq;rw [if_pos (.inr (mem_data.2 h))]
theorem stq_new {ns:List ByteArray} {s:ByteArray} (h:¬ s ∈ ns) (h0:s.data.toList≠[]):stq ns s=ns++[s]:=by unfold stq;rw [if_neg (fun h2=>h2.elim h0 (fun h3=>h (mem_data.1 h3)))]
theorem fol_itP {P:Prob} (h:UL P):∀ j,j≤P.vn→fol [] (itP P) (j+1)=(List.range j).map (fun j=>(P.V j).nm)
 | 0,_=>rfl
 | j+1,hj=>by
  have ih:=fol_itP h j (by omega)
  show stq (fol [] (itP P) (j+1)) (itP P (j+1)).nm=_
  have e:(itP P (j+1)).nm=(P.V j).nm:=by unfold itP;rw [if_neg (by omega)];rfl
  rw [ih,e,stq_new ?_ (h.v0 j (by omega)),List.range_succ,List.map_append]
  ·rfl
  ·intro h2
   obtain ⟨k,hk,ek⟩:=List.mem_map.1 h2
   exact h.vd k j (List.mem_range.1 hk) (by omega) ek
theorem fol_in {ns:List ByteArray} {I:Nat→PI}:∀ n,(∀ i,i<n→(I i).nm ∈ ns)→fol ns I n=ns
 | 0,_=>rfl
 | n+1,h=>by
  show stq (fol ns I n) (I n).nm=ns
  rw [fol_in n (fun i hi=>h i (by omega)),stq_in (h n (by omega))]
theorem fR_var {P:Prob} {i q:Nat} (h:q<flt (okR P i) (P.R i).nt):0≤(fR P i q).var∧(fR P i q).var<(P.vn:Int):=by
 have h2:(decide (0≤(fR P i q).var) && decide ((fR P i q).var<(P.vn:Int)))=true:=(fxq_lt _ q h).2
 rw [Bool.and_eq_true,decide_eq_true_iff,decide_eq_true_iff] at h2
 exact h2
theorem names_P {P:Prob} (h:UL P) (ia:Option Addr) (ic:Nat) (ca:Option Addr) (cc:Nat) (la:Option Addr) (lc:Nat) (wa:Option Addr) (wc:Nat):allNames (txP P ia ic ca cc la lc wa wc)=nsP P:=by
 unfold allNames
 have e1:fol [] (itP P) (P.vn+1)=nsP P:=fol_itP h P.vn (Nat.le_refl _)
 have e2:∀ j,j≤P.rn→folC (nsP P) (txP P ia ic ca cc la lc wa wc).C j=nsP P:=fun j=>by
  induction j with
  | zero=>intro _;rfl
  | succ j ih =>
   intro hj
   show fol (folC (nsP P) (txP P ia ic ca cc la lc wa wc).C j) (itR P j) (flt (okR P j) (P.R j).nt)=_
   rw [ih (by omega)]
   exact fol_in _ (fun q hq=>nsP_mem (by have:=fR_var hq;omega))
 have e3:∀ j,j≤P.vn→folL (nsP P) (txP P ia ic ca cc la lc wa wc).L j=nsP P:=fun j=>by
  induction j with
  | zero=>intro _;rfl
  | succ j ih =>
   intro hj
   show stq (folL (nsP P) (txP P ia ic ca cc la lc wa wc).L j) (P.V j).nm=_
   rw [ih (by omega),stq_in (nsP_mem (by omega))]
 have e4:∀ j,j≤flt (whP P) P.vn→folM (nsP P) (txP P ia ic ca cc la lc wa wc).M j=nsP P:=fun j=>by
  induction j with
  | zero=>intro _;rfl
  | succ j ih =>
   intro hj
   show stq (folM (nsP P) (txP P ia ic ca cc la lc wa wc).M j) (P.V (fxq (whP P) P.vn j)).nm=_
   rw [ih (by omega),stq_in (nsP_mem (fxq_lt _ j (by omega)).1)]
 show folM (folL (folC (fol [] (itP P) (P.vn+1)) _ P.rn) _ P.vn) _ (flt (whP P) P.vn)=_
 rw [e1,e2 _ (Nat.le_refl _),e3 _ (Nat.le_refl _),e4 _ (Nat.le_refl _)]
theorem gsum_one (a:Nat→Rat) (j:Nat):∀ n,gsum (fun i=>⟨(i:Int),a i⟩) n (j:Int)=if j<n then a j else 0
 | 0=>rfl
 | n+1=>by
  have ih:=gsum_one a j n
  unfold gsum at ih ⊢
  rw [rsum_succ,ih]
  by_cases h:j=n
  ·subst h
   rw [if_neg (Nat.lt_irrefl _),if_pos (Nat.lt_succ_self _),if_pos rfl,Rat.zero_add]
  ·rw [if_neg (show ¬ (n:Int)=(j:Int) by omega),Rat.add_zero]
   by_cases h2:j<n
   ·rw [if_pos h2,if_pos (by omega)]
   ·rw [if_neg h2,if_neg (by omega)]
theorem limV_far {V:Nat→PV} {L:Nat→PL} {j:Nat}:∀ k,k≤j→limV V L (fun q=>q) k j=V j
 | 0,_=>rfl
 | k+1,h=>(if_neg (show ¬ j=k by omega)).trans (limV_far k (by omega))
theorem limV_at {V:Nat→PV} {L:Nat→PL} {j:Nat}:∀ k,j<k→limV V L (fun q=>q) k j=setL (V j) (L j).slo (L j).shi (L j).hlo (L j).lo (L j).hhi (L j).hi
 | 0,h=>by omega
 | k+1,h=>by
  by_cases e:j=k
  ·subst e
   refine (if_pos rfl).trans ?_
   show setL (limV V L (fun q=>q) j j) _ _ _ _ _ _=_
   rw [limV_far j (Nat.le_refl _)]
  ·exact (if_neg e).trans (limV_at k (by omega))
theorem whV_no {V:Nat→PV} {J:Nat→Nat} {j:Nat}:∀ k,(∀ q,q<k→J q≠j)→whV V J k j=V j
 | 0,_=>rfl
 | k+1,h=>(if_neg (fun e=>h k (by omega) e.symm)).trans (whV_no k (fun q hq=>h q (by omega)))
theorem whV_or {V:Nat→PV} {J:Nat→Nat} {j:Nat}:∀ k,whV V J k j=V j∨whV V J k j = { V j with whole:=true }
 | 0=>.inl rfl
 | k+1=>by
  by_cases e:j=J k
  ·have e2:whV V J (k+1) j = { whV V J k (J k) with whole:=true }:=if_pos e
   rw [e2,← e]
   rcases whV_or (V:=V) (J:=J) (j:=j) k with h|h <;> rw [h] <;> exact .inr rfl
  ·have e2:whV V J (k+1) j=whV V J k j:=if_neg e
   rw [e2]
   exact whV_or k
theorem whV_yes {V:Nat→PV} {J:Nat→Nat} {j q:Nat}:∀ k,q<k→J q=j→whV V J k j = { V j with whole:=true }
 | 0,h,_=>by omega
 | k+1,h,e0=>by
  by_cases e:j=J k
  ·have e2:whV V J (k+1) j = { whV V J k (J k) with whole:=true }:=if_pos e
   rw [e2,← e]
   rcases whV_or (V:=V) (J:=J) (j:=j) k with h|h <;> rw [h]
  ·have e2:whV V J (k+1) j=whV V J k j:=if_neg e
   rw [e2]
   refine whV_yes k ?_ e0
   by_cases h3:q=k
   ·subst h3;exact absurd e0.symm e
   ·omega
theorem vars_P (P:Prob) (ia:Option Addr) (ic:Nat) (ca:Option Addr) (cc:Nat) (la:Option Addr) (lc:Nat) (wa:Option Addr) (wc:Nat) {j:Nat} (hj:j<P.vn):varsT (txP P ia ic ca cc la lc wa wc) (nsP P) 1 (fun i=>i) (fun k=>k) (fxq (whP P) P.vn) j=P.V j:=by
 have eg:gsum (tU (txP P ia ic ca cc la lc wa wc) 1 (fun i=>i)) ((txP P ia ic ca cc la lc wa wc).n-1) (j:Int)=(P.V j).obj:=by
  have e1:tU (txP P ia ic ca cc la lc wa wc) 1 (fun i=>i)=fun i=>⟨(i:Int),(P.V i).obj⟩:=by
   funext i
   show (⟨(i:Int),(itP P (i+1)).coef⟩:PT)=_
   unfold itP
   rw [if_neg (by omega)]
   rfl
  rw [e1]
  show gsum _ (P.vn+1-1) _=_
  rw [Nat.add_sub_cancel,gsum_one (fun i=>(P.V i).obj),if_pos hj]
 have en:(nsP P).getD j ⟨#[]⟩=(P.V j).nm:=by rw [List.getD_eq_getElem?_getD,nsP_at hj];rfl
 have e0:(fun j=>({ V0 (nsP P) j with obj:=gsum (tU (txP P ia ic ca cc la lc wa wc) 1 (fun i=>i)) ((txP P ia ic ca cc la lc wa wc).n-1) (j:Int) }:PV)) j=⟨(P.V j).nm,(P.V j).obj,true,0,false,0,false⟩:=by
  dsimp only
  rw [eg]
  unfold V0
  dsimp only
  rw [en]
 have e2:limV (fun j=>{ V0 (nsP P) j with obj:=gsum (tU (txP P ia ic ca cc la lc wa wc) 1 (fun i=>i)) ((txP P ia ic ca cc la lc wa wc).n-1) (j:Int) }) (txP P ia ic ca cc la lc wa wc).L (fun k=>k) P.vn j=⟨(P.V j).nm,(P.V j).obj,(P.V j).hlo,(P.V j).lo,(P.V j).hhi,(P.V j).hi,false⟩:=by
  exact (limV_at P.vn hj).trans (Eq.trans (congrArg (fun v=>setL v true true (P.V j).hlo (P.V j).lo (P.V j).hhi (P.V j).hi) e0) rfl)
 unfold varsT
 show whV (limV _ (txP P ia ic ca cc la lc wa wc).L (fun k=>k) P.vn) (fxq (whP P) P.vn) (flt (whP P) P.vn) j=_
 cases hw:whP P j with
 | true =>
  obtain ⟨q,hq,e⟩:=fxq_cov P.vn j hj hw
  rw [whV_yes _ hq e,e2]
  unfold whP at hw
  rw [← hw]
 | false =>
  rw [whV_no _ (fun q hq e=>by have:=(fxq_lt _ q hq).2;rw [e,hw] at this;cases this),e2]
  unfold whP at hw
  rw [← hw]
end Go.Proofs.YtceigfafmalfgaaGreatDoor

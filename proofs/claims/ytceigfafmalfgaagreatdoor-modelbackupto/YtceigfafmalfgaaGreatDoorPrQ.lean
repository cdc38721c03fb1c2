import Derived.Test.YtceigfafmalfgaaGreatDoorNtGAll
import Derived.Deep.RegionWith
namespace Go.Proofs.YtceigfafmalfgaaGreatDoor
open Go.RowKit Go.Maps
def rwA (T:Txt) (i:Nat):PW:={ nm:=if i=0 then ⟨#[82,50]⟩ else ⟨#[82,51]⟩,nt:=(T.C i).n,t:=fun k=>⟨0,((T.C i).I k).coef⟩,hlo:=(T.C i).hlo,lo:=(T.C i).lo-0,hhi:=(T.C i).hhi,hi:=(T.C i).hi-0 }
def RF (w0 w:World) (B:Nat) (cs:List Value) (r:PW) (S:Nat):Prop :=
 ∃ ta tc E Z p2 a2 n2 k2 d2 m2 l2 p3 a3 n3 k3 d3 m3 l3,cs=[.string r.nm,.slice ta r.nt tc,.bool r.hlo,.bool p2,.slice a2 n2 k2,.slice d2 m2 l2,.bool r.hhi,.bool p3,.slice a3 n3 k3,.slice d3 m3 l3]∧SL w B 56 4 (.slice ta r.nt tc) r.nt E∧(∀ i,i<r.nt→TQ w0 (E i) (r.t i) (Z i)∧1≤Z i∧SzR (r.t i).coef (Z i))∧tot Z r.nt+2≤S∧r.nt≤tc∧GR w B p2 a2 n2 k2 d2 m2 l2 r.lo S∧GR w B p3 a3 n3 k3 d3 m3 l3 r.hi S
theorem RF.below {w0 w w':World} {B:Nat} {cs:List Value} {r:PW} {S:Nat} (h:RF w0 w B cs r S) (hb:Below w.heap.size w w'):RF w0 w' B cs r S:=by
 obtain ⟨ta,tc,E,Z,p2,a2,n2,k2,d2,m2,l2,p3,a3,n3,k3,d3,m3,l3,e,h1,h2,h3,h4,h5,h6⟩:=h
 exact ⟨ta,tc,E,Z,p2,a2,n2,k2,d2,m2,l2,p3,a3,n3,k3,d3,m3,l3,e,h1.below hb,h2,h3,h4,h5.below hb,h6.below hb⟩
theorem SL.ne_noT {w:World} {B:Nat} {c:Nat} {v:Value} {n:Nat} {E:Nat→List Value} (h:SL w B 56 c v n E) {row:Option Nat} (hn:NoT w row):∀ g,v.ownBlock=some g→row≠some g:=by
 intro g e1 e2
 obtain ⟨cur,T,f2,hT⟩:=hn g e2
 obtain ⟨cur',f1⟩:=h.cells g e1
 rw [f1] at f2
 simp only [Option.some.injEq,Obj.cells.injEq] at f2
 exact hT f2.2.1.symm
theorem RF.keep {w0 w w':World} {B:Nat} {cs:List Value} {r:PW} {S:Nat} (h:RF w0 w B cs r S) {row:Option Nat} (hn:NoW w row) (ht:NoT w row) (hg:w.grownBy w' row):RF w0 w' B cs r S:=by
 obtain ⟨ta,tc,E,Z,p2,a2,n2,k2,d2,m2,l2,p3,a3,n3,k3,d3,m3,l3,e,h1,h2,h3,h4,h5,h6⟩:=h
 exact ⟨ta,tc,E,Z,p2,a2,n2,k2,d2,m2,l2,p3,a3,n3,k3,d3,m3,l3,e,h1.kept hg (h1.ne_noT ht),h2,h3,h4,h5.keep hn hg,h6.keep hn hg⟩
set_option maxRecDepth 100000 in
set_option maxHeartbeats 16000000 in
theorem rowsA (T:Txt) {w:World} {B p q b X Y b2 nn:Nat} {D D2:DataW Value} {nm0:ByteArray} (hcn:T.cn=2) (hK:T.K≤1048576) {w0:World} (hT:TX w0 T) (hb0:Below w0.heap.size w0 w) (h0X:w0.heap.size≤X) (hPl:∀ w',Below X w w'→Pl w' B p q b D [nm0]) (hTB:∀ w',Below X w w'→TB w')
  (hI:∀ j,j<2→∀ i,i<(T.C j).n→((T.C j).I i).nm=nm0) (hne:nm0.data.toList≠[]) (hnz:nm0.size≤1048576) (hn0:(T.C 0).nm=⟨#[82,50]⟩) (hn1:(T.C 1).nm=⟨#[]⟩)
  (hX:Rw 3 w X #[.int .i64 1]) (hY:∀ w',Below X w w'→Rw 64 w' Y #[.map (some b2)]) (ho:∀ w',Below X w w'→w'.ownsMap Tryz.prog 9 rawR b2 nn D2) (h2:Maps.has D2 (kS ⟨#[82,50]⟩)=true) (h3:Maps.has D2 (kS ⟨#[82,51]⟩)=false) (hV:∀ s,D2.atKey (kS s) (.held (.agg #[])) = .held (.agg #[])) :
  Calls Tryz.prog 18 #[.slice T.ca T.cn T.cc,.map (some b),.func (.func 36) #[] #[.pointer (some ⟨X,0,none⟩),.pointer (some ⟨Y,0,none⟩)]] w fun e w'=>∃ ra rc F,e = .returned (.slice ra 2 rc)∧SL w' w.heap.size 54 10 (.slice ra 2 rc) 2 F∧(∀ i,i<2→RF w0 w' w.heap.size (F i) (rwA T i) (T.ZC i+2))∧Near X w w':=by
 have HT:∀ w',Below X w w'→Below w0.heap.size w0 w':=fun w' h=>hb0.trans (h.mono h0X)
 have HP:Hid (∀ w',Below X w w'→Pl w' B p q b D [nm0]):=hPl
 have HB:Hid (∀ w',Below X w w'→TB w'):=hTB
 have HY:Hid (∀ w',Below X w w'→Rw 64 w' Y #[.map (some b2)]):=hY
 have HO:Hid (∀ w',Below X w w'→w'.ownsMap Tryz.prog 9 rawR b2 nn D2):=ho
 have HI:Hid (∀ j,j<2→∀ i,i<(T.C j).n→((T.C j).I i).nm=nm0):=hI
 have H0:Hid ((T.C 0).nm=⟨#[82,50]⟩∧(T.C 1).nm=⟨#[]⟩):=⟨hn0,hn1⟩
 clear hPl hTB hY ho hI hn0 hn1
 have hXl:=hX.lt
 rw [hcn]
 go_enter Tryz.func18,Tryz.ntmps18
 go_wp2
 go_loopw [7,14] (fun s7 s14 wr=>∃ (j:Nat) (F:Nat→List Value),j≤2∧s14 = .int .i64 j∧SL wr w.heap.size 54 10 s7 j F∧(∀ i,i<j→RF w0 wr w.heap.size (F i) (rwA T i) (T.ZC i+2))∧(j≤1→Rw 3 wr X #[.int .i64 1])∧Near X w wr) (fun _ s14 _=>2-(intOf s14).toNat)
 case atStart=>exact ⟨0,fun _=>[],by omega,rfl,SL.nil _ _ _ _ _,fun i hi=>by omega,fun _=>hX,Near.refl _ _⟩
 case round =>
  clear hX
  obtain ⟨j,F,hj,rfl,hS,hF,hXr,hN⟩:=hrel
  obtain ⟨ga,gc,rfl,hgc⟩:=hS.form
  by_cases hlt:j<2
  ·have hkI:(j:Int)<(2:Int):=by omega
   have hkI2:(j:Int)*12=((j*12:Nat):Int):=by omega
   have hBx:Below X w wr:=hN.below (Nat.le_refl _) (by omega)
   have hB0:=HT wr hBx
   have hal:=hT.all
   rcases hT.c with h0|⟨cb,co,eca,hel⟩
   ·omega
   have hC:=hel j (by omega)
   have hZj:=tot_le (Z:=T.ZC) (show j<T.cn by omega)
   obtain ⟨nm,enm⟩:∃ x,x=(T.C j).nm:=⟨_,rfl⟩
   obtain ⟨ln,eln⟩:∃ x,x=(T.C j).ln:=⟨_,rfl⟩
   obtain ⟨cl,ecl⟩:∃ x,x=(T.C j).cl:=⟨_,rfl⟩
   obtain ⟨n,en⟩:∃ x,x=(T.C j).n:=⟨_,rfl⟩
   obtain ⟨hl,ehl⟩:∃ x,x=(T.C j).hlo:=⟨_,rfl⟩
   obtain ⟨hh,ehh⟩:∃ x,x=(T.C j).hhi:=⟨_,rfl⟩
   have x0:=kept_c hB0 hC.nm
   have x1:=kept_c hB0 hC.ln
   have x2:=kept_c hB0 hC.cl
   obtain ⟨ia,ic,Zi,x3,hLI,htot,hic⟩:=hC.items
   have x4:=kept_c hB0 hC.hlo
   obtain ⟨p2,a2,n2,k2,d2,m2,l2,x5,x6,x7,t2⟩:=hC.lo
   have x8:=kept_c hB0 hC.hhi
   obtain ⟨p3,a3,n3,k3,d3,m3,l3,x9,x10,x11,t3⟩:=hC.hi
   replace x3:=kept_c hB0 x3
   replace x5:=kept_c hB0 x5
   replace x6:=kept_c hB0 x6
   replace x7:=kept_c hB0 x7
   replace x9:=kept_c hB0 x9
   replace x10:=kept_c hB0 x10
   replace x11:=kept_c hB0 x11
   have hs1:=hC.s1
   have hIn:=HI.out j hlt
   rw [← enm] at x0
   rw [← eln] at x1
   rw [← ecl] at x2
   rw [← en] at x3 hLI htot hic hIn
   rw [← ehl] at x4
   rw [← ehh] at x8
   have EN:Hid (nm=(T.C j).nm∧n=(T.C j).n∧hl=(T.C j).hlo∧hh=(T.C j).hhi):=⟨enm,en,ehl,ehh⟩
   have hslo:=hC.slo
   have hshi:=hC.shi
   clear hel hC enm eln ecl en ehl ehh
   rw [eca]
   have hnl:=tot_len Zi n
   have hn1:n≤1048576:=by omega
   have hZ2:T.ZC j≤1048576:=by omega
   have hz0:=bel_d0 wr (.cells #[.string nm,.int .i64 ln,.int .i64 cl,.slice ia n ic,.bool hl,.bool p2,.slice a2 n2 k2,.slice d2 m2 l2,.bool hh,.bool p3,.slice a3 n3 k3,.slice d3 m3 l3] 61)
   have N4:=box_new wr #[.string nm,.int .i64 ln,.int .i64 cl,.slice ia n ic,.bool hl,.bool p2,.slice a2 n2 k2,.slice d2 m2 l2,.bool hh,.bool p3,.slice a3 n3 k3,.slice d3 m3 l3] 61
   have hN4:Near X w _:=hN.trans (near_of hz0)
   have hXr4:j≤1→Rw 3 (wr.alloc (.cells #[.string nm,.int .i64 ln,.int .i64 cl,.slice ia n ic,.bool hl,.bool p2,.slice a2 n2 k2,.slice d2 m2 l2,.bool hh,.bool p3,.slice a3 n3 k3,.slice d3 m3 l3] 61)) X #[.int .i64 1]:=fun h=>(hXr h).below hz0
   have hb4:=hz0
   have hsw:=hN.size
   have hs4:(wr.alloc (.cells #[.string nm,.int .i64 ln,.int .i64 cl,.slice ia n ic,.bool hl,.bool p2,.slice a2 n2 k2,.slice d2 m2 l2,.bool hh,.bool p3,.slice a3 n3 k3,.slice d3 m3 l3] 61)).heap.size=wr.heap.size+1:=by simp
   rcases (by omega:j=0∨j=1) with hj0|hj0
   ·have he:nm=⟨#[82,50]⟩:=by have h1:=EN.out.1;rw [hj0] at h1;exact h1.trans H0.out.1
    have HJ:Hid (j=0):=hj0
    have hj1:j≤1:=by omega
    clear hj0
    have he2:¬ nm.toList=[]:=by rw [ByteArray.toList_eq,he];intro h;cases h
    have he3:nm.toList.isEmpty=false:=by simpa using he2
    have HE:Hid (nm=⟨#[82,50]⟩):=he
    clear he
    go_wp2_with fail
    have hXc:j+1≤1→Rw 3 (wr.alloc (.cells #[.string nm,.int .i64 ln,.int .i64 cl,.slice ia n ic,.bool hl,.bool p2,.slice a2 n2 k2,.slice d2 m2 l2,.bool hh,.bool p3,.slice a3 n3 k3,.slice d3 m3 l3] 61)) X #[.int .i64 1]:=fun _=>hXr4 hj1
    have hNc:=hN4
    have hbc:Near X wr _:=near_of (g:=X) hz0
    generalize wr.alloc (.cells #[.string nm,.int .i64 ln,.int .i64 cl,.slice ia n ic,.bool hl,.bool p2,.slice a2 n2 k2,.slice d2 m2 l2,.bool hh,.bool p3,.slice a3 n3 k3,.slice d3 m3 l3] 61)=W4 at *
    have hBc:Below X w W4:=hNc.below (Nat.le_refl _) (by omega)
    have NB:∀ i u,(#[.string nm,.int .i64 ln,.int .i64 cl,.slice ia n ic,.bool hl,.bool p2,.slice a2 n2 k2,.slice d2 m2 l2,.bool hh,.bool p3,.slice a3 n3 k3,.slice d3 m3 l3]).toList[i]? = some u→W4.cell? ⟨wr.heap.size,i,none⟩=some u:=fun i u hu=>N4 i u hu
    have hsc:=hNc.size
    have hbs:=hbc.size
    have hwl:wr.heap.size<W4.heap.size:=World.block_lt_of_cell? _ _ (NB 0 _ rfl)
    have c3:=NB 3 _ rfl
    have HCO:=constantA (ic:=ic) (hLI.below (HT W4 hBc)) hn1 (fun i hi=>by rw [hIn i hi];exact hne) (HB.out W4 hBc)
    clear x0 x1 x2 x3 x4 x5 x6 x7 x8 x9 x10 x11 hz0 hb4 N4 hN4 hXr4 hs4
    go_wp2_with fail
    refine HCO.mono ?_
    clear HCO
    rintro e w5 ⟨fk,ck,nk,kk,dk,mk,lk,rfl,GK,hb5⟩
    go_wp2_with fail
    have hb56:=bel_d0 w5 (.cells #[.bool fk,.slice ck nk kk,.slice dk mk lk] 27)
    have hbc6:=bel_tr hb5 hb56
    have hB6:Below X w _:=hBc.trans (hbc6.mono (show X≤_ by omega))
    have NB6:=BoxC.below (w:=W4) NB hbc6
    have V6:=box_new w5 #[.bool fk,.slice ck nk kk,.slice dk mk lk] 27
    have GK6:=GK.below hb56
    have hXw:Rw 3 wr X #[.int .i64 1]:=hXr (by omega)
    have hS4:=hS.kept hbc.grow (fun g e e2=>(hS.neR hXw (by decide)) (e.trans e2.symm))
    have hF4:∀ i,i<j→RF w0 W4 w.heap.size (F i) (rwA T i) (T.ZC i+2):=fun i hi=>(hF i hi).keep (hXw.noW (by decide)) (hXw.noT (by decide)) hbc.grow
    have hS6:=hS4.below hbc6
    have hF6:∀ i,i<j→RF w0 _ w.heap.size (F i) (rwA T i) (T.ZC i+2):=fun i hi=>(hF4 i hi).below hbc6
    have hs5:=hb5.size
    have hrow:∀ g,(Value.slice ga j gc).ownBlock=some g→g<wr.heap.size:=fun g hg=>(hS.lt g hg).2
    have hXc6:j+1≤1→Rw 3 _ X #[.int .i64 1]:=fun h=>(hXc h).below hbc6
    have hN6:Near X w _:=hNc.trans (near_of hbc6)
    have hrw:∀ g,(Value.slice ga j gc).ownBlock=some g→w.heap.size≤g:=fun g hg=>(hS.lt g hg).1
    clear hS hS4 hF hF4 hN hNc hXr hXc hbc NB c3 GK hb5 hbc6 hb56 hXw
    generalize w5.alloc (.cells #[.bool fk,.slice ck nk kk,.slice dk mk lk] 27)=W6 at *
    have hs6:=hN6.size
    have hXW:X≤W6.heap.size:=by omega
    have hT6:=HT W6 hB6
    refine wp_region_noPanic (wp_region_guard (Till 17 17 (fun w'=>BoxC w' wr.heap.size (#[.string nm,.int .i64 ln,.int .i64 cl,.slice ia n ic,.bool hl,.bool p2,.slice a2 n2 k2,.slice d2 m2 l2,.bool hh,.bool p3,.slice a3 n3 k3,.slice d3 m3 l3]).toList∧BoxC w' w5.heap.size [.bool fk,.slice ck nk kk,.slice dk mk lk]) (fun _=>True)) (by kernel_rfl) ?_)
    refine wpAnyG.take 0 (v:=.slice ga j gc) (by decide) (by kernel_rfl) (fun _ _ _ h=>h) 17 _ (by rfl) (till_ind (by decide) (by decide)) (fun L w' h1 h2=>h2.1 h1) (by kernel_rfl) (by kernel_rfl) (by kernel_rfl) (by rfl) ?y0 ⟨fun _=>⟨NB6,V6⟩,fun _=>trivial⟩ (by rfl) ?_
    case y0 =>
     rintro w' ⟨hB5,hV5⟩
     skip
     simp only [lgA,lgZ]
     go_simp
    simp only [lgA,lgZ,Act.put,lsA,lsZ,lsS]
    refine wpAnyG.take 1 (v:=.string nm) (by decide) (by kernel_rfl) (fun _ _ _ h=>h) 17 _ (by rfl) (till_ind (by decide) (by decide)) (fun L w' h1 h2=>h2.1 h1) (by kernel_rfl) (by kernel_rfl) (by kernel_rfl) (by rfl) ?y1 ⟨fun _=>⟨NB6,V6⟩,fun _=>trivial⟩ (by rfl) ?_
    case y1 =>
     rintro w' ⟨hB5,hV5⟩
     skip
     simp only [lgA,lgZ,lgS]
     go_simp
    simp only [lgA,lgZ,lgS,Act.put,lsA,lsZ,lsS]
    refine wpAnyG.take 2 (v:=.pointer (some ⟨wr.heap.size,3,none⟩)) (by decide) (by kernel_rfl) (fun _ _ _ h=>h) 17 _ (by rfl) (till_ind (by decide) (by decide)) (fun L w' h1 h2=>h2.1 h1) (by kernel_rfl) (by kernel_rfl) (by kernel_rfl) (by rfl) ?y2 ⟨fun _=>⟨NB6,V6⟩,fun _=>trivial⟩ (by rfl) ?_
    case y2 =>
     rintro w' ⟨hB5,hV5⟩
     skip
     simp only [lgA,lgZ,lgS]
     go_simp
    simp only [lgA,lgZ,lgS,Act.put,lsA,lsZ,lsS]
    refine wpAnyG.take 3 (v:=.slice ia n ic) (by decide) (by kernel_rfl) (fun _ _ _ h=>h) 17 _ (by rfl) (till_ind (by decide) (by decide)) (fun L w' h1 h2=>h2.1 h1) (by kernel_rfl) (by kernel_rfl) (by kernel_rfl) (by rfl) ?y3 ⟨fun _=>⟨NB6,V6⟩,fun _=>trivial⟩ (by rfl) ?_
    case y3 =>
     rintro w' ⟨hB5,hV5⟩
     have qhB53:=hB5 3 _ rfl
     simp only [lgA,lgZ,lgS]
     go_simp
    simp only [lgA,lgZ,lgS,Act.put,lsA,lsZ,lsS]
    refine wpAnyG.take 4 (v:=.map (some b)) (by decide) (by kernel_rfl) (fun _ _ _ h=>h) 17 _ (by rfl) (till_ind (by decide) (by decide)) (fun L w' h1 h2=>h2.1 h1) (by kernel_rfl) (by kernel_rfl) (by kernel_rfl) (by rfl) ?y4 ⟨fun _=>⟨NB6,V6⟩,fun _=>trivial⟩ (by rfl) ?_
    case y4 =>
     rintro w' ⟨hB5,hV5⟩
     skip
     simp only [lgA,lgZ,lgS]
     go_simp
    simp only [lgA,lgZ,lgS,Act.put,lsA,lsZ,lsS]
    refine wpAnyG.take 6 (v:=.pointer (some ⟨wr.heap.size,4,none⟩)) (by decide) (by kernel_rfl) (fun _ _ _ h=>h) 17 _ (by rfl) (till_ind (by decide) (by decide)) (fun L w' h1 h2=>h2.1 h1) (by kernel_rfl) (by kernel_rfl) (by kernel_rfl) (by rfl) ?y6 ⟨fun _=>⟨NB6,V6⟩,fun _=>trivial⟩ (by rfl) ?_
    case y6 =>
     rintro w' ⟨hB5,hV5⟩
     skip
     simp only [lgA,lgZ,lgS]
     go_simp
    simp only [lgA,lgZ,lgS,Act.put,lsA,lsZ,lsS]
    refine wpAnyG.take 7 (v:=.agg #[.bool hl,.bool p2,.slice a2 n2 k2,.slice d2 m2 l2]) (by decide) (by kernel_rfl) (fun _ _ _ h=>h) 17 _ (by rfl) (till_ind (by decide) (by decide)) (fun L w' h1 h2=>h2.1 h1) (by kernel_rfl) (by kernel_rfl) (by kernel_rfl) (by rfl) ?y7 ⟨fun _=>⟨NB6,V6⟩,fun _=>trivial⟩ (by rfl) ?_
    case y7 =>
     rintro w' ⟨hB5,hV5⟩
     have qhB54:=hB5 4 _ rfl;have qhB55:=hB5 5 _ rfl;have qhB56:=hB5 6 _ rfl;have qhB57:=hB5 7 _ rfl
     simp only [lgA,lgZ,lgS]
     go_simp
    simp only [lgA,lgZ,lgS,Act.put,lsA,lsZ,lsS]
    refine wpAnyG.take 8 (v:=.agg #[.bool fk,.slice ck nk kk,.slice dk mk lk]) (by decide) (by kernel_rfl) (fun _ _ _ h=>h) 17 _ (by rfl) (till_ind (by decide) (by decide)) (fun L w' h1 h2=>h2.1 h1) (by kernel_rfl) (by kernel_rfl) (by kernel_rfl) (by rfl) ?y8 ⟨fun _=>⟨NB6,V6⟩,fun _=>trivial⟩ (by rfl) ?_
    case y8 =>
     rintro w' ⟨hB5,hV5⟩
     have qhV50:=hV5 0 _ rfl;have qhV51:=hV5 1 _ rfl;have qhV52:=hV5 2 _ rfl
     simp only [lgA,lgZ,lgS]
     go_simp
    simp only [lgA,lgZ,lgS,Act.put,lsA,lsZ,lsS]
    refine wpAnyG.take 10 (v:=.pointer (some ⟨wr.heap.size,8,none⟩)) (by decide) (by kernel_rfl) (fun _ _ _ h=>h) 17 _ (by rfl) (till_ind (by decide) (by decide)) (fun L w' h1 h2=>h2.1 h1) (by kernel_rfl) (by kernel_rfl) (by kernel_rfl) (by rfl) ?y10 ⟨fun _=>⟨NB6,V6⟩,fun _=>trivial⟩ (by rfl) ?_
    case y10 =>
     rintro w' ⟨hB5,hV5⟩
     skip
     simp only [lgA,lgZ,lgS]
     go_simp
    simp only [lgA,lgZ,lgS,Act.put,lsA,lsZ,lsS]
    refine wpAnyG.take 11 (v:=.agg #[.bool hh,.bool p3,.slice a3 n3 k3,.slice d3 m3 l3]) (by decide) (by kernel_rfl) (fun _ _ _ h=>h) 17 _ (by rfl) (till_ind (by decide) (by decide)) (fun L w' h1 h2=>h2.1 h1) (by kernel_rfl) (by kernel_rfl) (by kernel_rfl) (by rfl) ?y11 ⟨fun _=>⟨NB6,V6⟩,fun _=>trivial⟩ (by rfl) ?_
    case y11 =>
     rintro w' ⟨hB5,hV5⟩
     have qhB58:=hB5 8 _ rfl;have qhB59:=hB5 9 _ rfl;have qhB510:=hB5 10 _ rfl;have qhB511:=hB5 11 _ rfl
     simp only [lgA,lgZ,lgS]
     go_simp
    simp only [lgA,lgZ,lgS,Act.put,lsA,lsZ,lsS]
    refine wpAnyG.take 12 (v:=.agg #[.bool fk,.slice ck nk kk,.slice dk mk lk]) (by decide) (by kernel_rfl) (fun _ _ _ h=>h) 17 _ (by rfl) (till_ind (by decide) (by decide)) (fun L w' h1 h2=>h2.1 h1) (by kernel_rfl) (by kernel_rfl) (by kernel_rfl) (by rfl) ?y12 ⟨fun _=>⟨NB6,V6⟩,fun _=>trivial⟩ (by rfl) ?_
    case y12 =>
     rintro w' ⟨hB5,hV5⟩
     have qhV50:=hV5 0 _ rfl;have qhV51:=hV5 1 _ rfl;have qhV52:=hV5 2 _ rfl
     simp only [lgA,lgZ,lgS]
     go_simp
    simp only [lgA,lgZ,lgS,Act.put,lsA,lsZ,lsS]
    refine wpAnyG.one 5 (by kernel_rfl) (by decide) (by rfl) (fun K hK=>?_)
    simp only [lgA,lgZ,lgS]
    go_simp
    refine (termsS (HP.out _ (hB6.trans ((bel_d1 _).mono hXW))) (bel_tr hT6 (bel_d1 _)) hLI (fun i hi=>by rw [hIn i hi];omega) hn1 (fun _=>0) (fun i hi=>by rw [hIn i hi];rfl) (by simp)).mono ?_
    rintro e v1 ⟨ta,tc,E,rfl,hSL,hTQ,htc,hk1⟩
    have hc1:Below W6.heap.size W6 v1:=bel_tr (bel_d1 _) hk1
    have hm1:=hc1.size
    dsimp only
    refine hK _ _ ⟨fun _=>⟨NB6.below hc1,V6.below hc1⟩,fun _=>trivial⟩ ?_
    clear hK K
    refine wpAnyG.one 9 (by kernel_rfl) (by decide) (by rfl) (fun K hK=>?_)
    simp only [lgA,lgZ,lgS]
    go_simp
    refine (lessBQ _ (t2.below (bel_tr hT6 hc1)) (GK6.tr.below hc1) (by omega) hs1 (by omega) (HB.out _ (hB6.trans (hc1.mono hXW)))).mono ?_
    rintro e v2 ⟨f2,c2,j2,g2,c2',j2',g2',rfl,G2,hk2⟩
    have hc2:Below W6.heap.size W6 v2:=bel_tr hc1 hk2
    have hm2:=hc2.size
    dsimp only
    refine hK _ _ ⟨fun _=>⟨NB6.below hc2,V6.below hc2⟩,fun _=>trivial⟩ ?_
    clear hK K
    refine wpAnyG.one 13 (by kernel_rfl) (by decide) (by rfl) (fun K hK=>?_)
    simp only [lgA,lgZ,lgS]
    go_simp
    refine (lessBQ _ (t3.below (bel_tr hT6 hc2)) (GK6.tr.below hc2) (by omega) hs1 (by omega) (HB.out _ (hB6.trans (hc2.mono hXW)))).mono ?_
    rintro e v3 ⟨f3,c3,j3,g3,c3',j3',g3',rfl,G3,hk3⟩
    have hc3:Below W6.heap.size W6 v3:=bel_tr hc2 hk3
    have hm3:=hc3.size
    dsimp only
    refine hK _ _ ⟨fun _=>⟨NB6.below hc3,V6.below hc3⟩,fun _=>trivial⟩ ?_
    clear hK K
    refine wpAnyG.one 14 (by kernel_rfl) (by decide) (by rfl) (fun K hK=>?_)
    simp only [lgA,lgZ,lgS]
    go_simp
    refine hK _ _ ⟨fun _=>⟨NB6.below hc3,V6.below hc3⟩,fun _=>trivial⟩ ?_
    clear hK K
    refine wpAnyG.one 15 (by kernel_rfl) (by decide) (by rfl) (fun K hK=>?_)
    simp only [lgA,lgZ,lgS]
    go_simp
    have hc4:Below W6.heap.size W6 (v3.alloc (.cells #[.string nm,.slice ta n tc,.bool hl,.bool f2,.slice c2 j2 g2,.slice c2' j2' g2',.bool hh,.bool f3,.slice c3 j3 g3,.slice c3' j3' g3'] 54)):=bel_a hc3
    refine hK _ _ ⟨fun _=>⟨NB6.below hc4,V6.below hc4⟩,fun _=>trivial⟩ ?_
    clear hK K
    refine wpAnyG.one 16 (by kernel_rfl) (by decide) (by rfl) (fun K hK=>?_)
    simp only [lgA,lgZ,lgS]
    have hS7:=hS6.below hc4
    refine wp_appendS _ _ _ 29 54 10 168 rfl Tryz.underlying29 infRow (by decide) (by decide) w.heap.size (.slice ga j gc) j F rfl hS7 v3.heap.size _ rfl [.string nm,.slice ta n tc,.bool hl,.bool f2,.slice c2 j2 g2,.slice c2' j2' g2',.bool hh,.bool f3,.slice c3 j3 g3,.slice c3' j3' g3'] rfl (fun u hu=>by simp at hu;rcases hu with rfl|rfl|rfl|rfl|rfl|rfl|rfl|rfl|rfl|rfl <;> rfl) (box_new v3 #[.string nm,.slice ta n tc,.bool hl,.bool f2,.slice c2 j2 g2,.slice c2' j2' g2',.bool hh,.bool f3,.slice c3 j3 g3,.slice c3' j3' g3'] 54) (by omega) (by simp;omega) (v3.heap.size+1) (by simp) ?_
    intro gN capN w7 SN hgrow hat _
    refine hK _ _ ⟨fun _=>⟨fun a u hu=>keep_ne hgrow (NB6.below hc4 a u hu) (fun e=>by have h9:=hrow _ e;simp at h9),fun a u hu=>keep_ne hgrow (V6.below hc4 a u hu) (fun e=>by have h9:w5.heap.size<wr.heap.size:=hrow _ e;omega)⟩,fun _=>trivial⟩ ?_
    clear hK K
    refine wpAnyG.one 17 (by kernel_rfl) (by decide) (by rfl) (fun K hK=>?_)
    simp only [lgA,lgZ,lgS]
    go_simp
    refine hK _ _ ⟨fun h=>absurd h (by decide),fun _=>trivial⟩ ?_
    clear hK K
    refine wpAnyG.done (by kernel_rfl) (NoPanic.normal ?_)
    have hnw:=hS7.noW (by decide)
    have hnt:=hS7.noT (by decide)
    have hxA:=bel_d0 v3 (.cells #[.string nm,.slice ta n tc,.bool hl,.bool f2,.slice c2 j2 g2,.slice c2' j2' g2',.bool hh,.bool f3,.slice c3 j3 g3,.slice c3' j3' g3'] 54)
    have hb14:=bel_tr (bel_tr hk2 hk3) hxA
    have hSL7:=((hSL.mono (show w.heap.size≤W6.drew.heap.size from hs6)).below hb14)
    have hSL8:=hSL7.kept hgrow (hSL7.ne_noT hnt)
    have G28:=(((G2.mono (show w.heap.size≤_ by omega)).below (bel_tr hk3 hxA)).keep hnw hgrow).le (show T.ZC j+1+1≤T.ZC j+2 by omega)
    have G38:=(((G3.mono (show w.heap.size≤_ by omega)).below hxA).keep hnw hgrow).le (show T.ZC j+1+1≤T.ZC j+2 by omega)
    obtain ⟨en1,en2,en3,en4⟩:=EN.out
    have hnmR:(rwA T j).nm=nm:=by show (if j=0 then _ else _)=_;rw [if_pos HJ.out,HE.out]
    have RN:∀ i,i<j+1→RF w0 w7 w.heap.size ((fun i=>if i<j then F i else [.string nm,.slice ta n tc,.bool hl,.bool f2,.slice c2 j2 g2,.slice c2' j2' g2',.bool hh,.bool f3,.slice c3 j3 g3,.slice c3' j3' g3']) i) (rwA T i) (T.ZC i+2):=by
     intro i hi
     by_cases hij:i<j
     ·simp only [hij,if_true]
      exact ((hF6 i hij).below hc4).keep hnw hnt hgrow
     ·obtain rfl:i=j:=by omega
      simp only [Nat.lt_irrefl,if_false]
      refine ⟨ta,tc,E,Zi,f2,c2,j2,g2,c2',j2',g2',f3,c3,j3,g3,c3',j3',g3',?_,?_,?_,?_,?_,G28,G38⟩
      ·rw [hnmR,en2,en3,en4];rfl
      ·show SL _ _ _ 4 (.slice ta (T.C i).n tc) (T.C i).n E;rw [← en2];exact hSL8
      ·intro k hk
       have hk':k<n:=by rw [en2];exact hk
       refine ⟨hTQ k hk',?_⟩
       rcases hLI with h0|⟨tb,to,eia,hel⟩
       ·omega
       ·exact ⟨(hel k hk').s1,(hel k hk').sz⟩
      ·show tot Zi (T.C i).n+2≤_;rw [← en2];omega
      ·show (T.C i).n≤tc;rw [← en2];exact htc
    have XN:j+1≤1→Rw 3 w7 X #[.int .i64 1]:=fun h=>((hXc6 h).below hc4).kept hgrow (fun e=>by have:=hrw X e;omega)
    have NN:Near X w w7:=(hN6.trans (near_of hc4)).grown hgrow (fun k e=>hrw k e)
    clear hSL hSL7 hSL8 G2 G3 G28 G38 hgrow hat hnw hnt hxA hb14 hk1 hk2 hk3 hc1 hc2 hc3 hc4 hF6 hS6 hS7 NB6 V6 GK6 hB6 hT6 hN6 hXc6 hTQ hLI en1 en2 en3 en4 hnmR EN HE t2 t3
    rw [← eca]
    go_wp2
    go_roundw
    case rel=>exact ⟨_,_,_,_,_,_,⟨j+1,by omega,by go_num,_,SN,RN,XN⟩,rfl,rfl,rfl,rfl,rfl,rfl⟩
    case measure=>simp [intOf];omega
   ·have he:nm=⟨#[]⟩:=by have h1:=EN.out.1;rw [hj0] at h1;exact h1.trans H0.out.2
    have HJ:Hid (j=1):=hj0
    have hj1:j+1≤2:=by omega
    clear hj0
    have he2: nm.toList=[]:=by rw [ByteArray.toList_eq,he]
    have he3:nm.toList.isEmpty=true:=by simpa using he2
    have HE:Hid (nm=⟨#[]⟩):=he
    clear he
    have hB4:=hN4.below (Nat.le_refl X) (by omega)
    have HNM:=nameA (v:=(j:Int)+1) (by have:=HJ.out;omega) (hXr4 (by omega)) (HY.out _ hB4) (HO.out _ hB4) h2 h3 hV
    go_wp2_with fail
    refine HNM.mono ?_
    clear HNM
    rintro e W4 ⟨rfl,hNn⟩
    have hNc:Near X w W4:=hN4.trans hNn
    have hbc:Near X wr W4:=(near_of hz0).trans hNn
    have hXc:j+1≤1→Rw 3 W4 X #[.int .i64 1]:=fun h=>by have:=HJ.out;omega
    have hBc:Below X w W4:=hNc.below (Nat.le_refl _) (by omega)
    have NB:∀ i u,(#[.string nm,.int .i64 ln,.int .i64 cl,.slice ia n ic,.bool hl,.bool p2,.slice a2 n2 k2,.slice d2 m2 l2,.bool hh,.bool p3,.slice a3 n3 k3,.slice d3 m3 l3]).toList[i]? = some u→W4.cell? ⟨wr.heap.size,i,none⟩=some u:=fun i u hu=>(World.cell?_of_block (hNn.block wr.heap.size (by simp) (by omega))).trans (N4 i u hu)
    have hsc:=hNc.size
    have hbs:=hbc.size
    have hwl:wr.heap.size<W4.heap.size:=World.block_lt_of_cell? _ _ (NB 0 _ rfl)
    have c3:=NB 3 _ rfl
    have HCO:=constantA (ic:=ic) (hLI.below (HT W4 hBc)) hn1 (fun i hi=>by rw [hIn i hi];exact hne) (HB.out W4 hBc)
    clear x0 x1 x2 x3 x4 x5 x6 x7 x8 x9 x10 x11 hz0 hb4 N4 hN4 hXr4 hs4
    go_wp2_with fail
    refine HCO.mono ?_
    clear HCO
    rintro e w5 ⟨fk,ck,nk,kk,dk,mk,lk,rfl,GK,hb5⟩
    go_wp2_with fail
    have hb56:=bel_d0 w5 (.cells #[.bool fk,.slice ck nk kk,.slice dk mk lk] 27)
    have hbc6:=bel_tr hb5 hb56
    have hB6:Below X w _:=hBc.trans (hbc6.mono (show X≤_ by omega))
    have NB6:=BoxC.below (w:=W4) NB hbc6
    have V6:=box_new w5 #[.bool fk,.slice ck nk kk,.slice dk mk lk] 27
    have GK6:=GK.below hb56
    have hXw:Rw 3 wr X #[.int .i64 1]:=hXr (by omega)
    have hS4:=hS.kept hbc.grow (fun g e e2=>(hS.neR hXw (by decide)) (e.trans e2.symm))
    have hF4:∀ i,i<j→RF w0 W4 w.heap.size (F i) (rwA T i) (T.ZC i+2):=fun i hi=>(hF i hi).keep (hXw.noW (by decide)) (hXw.noT (by decide)) hbc.grow
    have hS6:=hS4.below hbc6
    have hF6:∀ i,i<j→RF w0 _ w.heap.size (F i) (rwA T i) (T.ZC i+2):=fun i hi=>(hF4 i hi).below hbc6
    have hs5:=hb5.size
    have hrow:∀ g,(Value.slice ga j gc).ownBlock=some g→g<wr.heap.size:=fun g hg=>(hS.lt g hg).2
    have hXc6:j+1≤1→Rw 3 _ X #[.int .i64 1]:=fun h=>(hXc h).below hbc6
    have hN6:Near X w _:=hNc.trans (near_of hbc6)
    have hrw:∀ g,(Value.slice ga j gc).ownBlock=some g→w.heap.size≤g:=fun g hg=>(hS.lt g hg).1
    clear hS hS4 hF hF4 hN hNc hXr hXc hbc NB c3 GK hb5 hbc6 hb56 hXw
    generalize w5.alloc (.cells #[.bool fk,.slice ck nk kk,.slice dk mk lk] 27)=W6 at *
    have hs6:=hN6.size
    have hXW:X≤W6.heap.size:=by omega
    have hT6:=HT W6 hB6
    refine wp_region_noPanic (wp_region_guard (Till 17 17 (fun w'=>BoxC w' wr.heap.size (#[.string nm,.int .i64 ln,.int .i64 cl,.slice ia n ic,.bool hl,.bool p2,.slice a2 n2 k2,.slice d2 m2 l2,.bool hh,.bool p3,.slice a3 n3 k3,.slice d3 m3 l3]).toList∧BoxC w' w5.heap.size [.bool fk,.slice ck nk kk,.slice dk mk lk]) (fun _=>True)) (by kernel_rfl) ?_)
    refine wpAnyG.take 0 (v:=.slice ga j gc) (by decide) (by kernel_rfl) (fun _ _ _ h=>h) 17 _ (by rfl) (till_ind (by decide) (by decide)) (fun L w' h1 h2=>h2.1 h1) (by kernel_rfl) (by kernel_rfl) (by kernel_rfl) (by rfl) ?y0 ⟨fun _=>⟨NB6,V6⟩,fun _=>trivial⟩ (by rfl) ?_
    case y0 =>
     rintro w' ⟨hB5,hV5⟩
     skip
     simp only [lgA,lgZ]
     go_simp
    simp only [lgA,lgZ,Act.put,lsA,lsZ,lsS]
    refine wpAnyG.take 1 (v:=.string ⟨#[82,51]⟩) (by decide) (by kernel_rfl) (fun _ _ _ h=>h) 17 _ (by rfl) (till_ind (by decide) (by decide)) (fun L w' h1 h2=>h2.1 h1) (by kernel_rfl) (by kernel_rfl) (by kernel_rfl) (by rfl) ?y1 ⟨fun _=>⟨NB6,V6⟩,fun _=>trivial⟩ (by rfl) ?_
    case y1 =>
     rintro w' ⟨hB5,hV5⟩
     skip
     simp only [lgA,lgZ,lgS]
     go_simp
    simp only [lgA,lgZ,lgS,Act.put,lsA,lsZ,lsS]
    refine wpAnyG.take 2 (v:=.pointer (some ⟨wr.heap.size,3,none⟩)) (by decide) (by kernel_rfl) (fun _ _ _ h=>h) 17 _ (by rfl) (till_ind (by decide) (by decide)) (fun L w' h1 h2=>h2.1 h1) (by kernel_rfl) (by kernel_rfl) (by kernel_rfl) (by rfl) ?y2 ⟨fun _=>⟨NB6,V6⟩,fun _=>trivial⟩ (by rfl) ?_
    case y2 =>
     rintro w' ⟨hB5,hV5⟩
     skip
     simp only [lgA,lgZ,lgS]
     go_simp
    simp only [lgA,lgZ,lgS,Act.put,lsA,lsZ,lsS]
    refine wpAnyG.take 3 (v:=.slice ia n ic) (by decide) (by kernel_rfl) (fun _ _ _ h=>h) 17 _ (by rfl) (till_ind (by decide) (by decide)) (fun L w' h1 h2=>h2.1 h1) (by kernel_rfl) (by kernel_rfl) (by kernel_rfl) (by rfl) ?y3 ⟨fun _=>⟨NB6,V6⟩,fun _=>trivial⟩ (by rfl) ?_
    case y3 =>
     rintro w' ⟨hB5,hV5⟩
     have qhB53:=hB5 3 _ rfl
     simp only [lgA,lgZ,lgS]
     go_simp
    simp only [lgA,lgZ,lgS,Act.put,lsA,lsZ,lsS]
    refine wpAnyG.take 4 (v:=.map (some b)) (by decide) (by kernel_rfl) (fun _ _ _ h=>h) 17 _ (by rfl) (till_ind (by decide) (by decide)) (fun L w' h1 h2=>h2.1 h1) (by kernel_rfl) (by kernel_rfl) (by kernel_rfl) (by rfl) ?y4 ⟨fun _=>⟨NB6,V6⟩,fun _=>trivial⟩ (by rfl) ?_
    case y4 =>
     rintro w' ⟨hB5,hV5⟩
     skip
     simp only [lgA,lgZ,lgS]
     go_simp
    simp only [lgA,lgZ,lgS,Act.put,lsA,lsZ,lsS]
    refine wpAnyG.take 6 (v:=.pointer (some ⟨wr.heap.size,4,none⟩)) (by decide) (by kernel_rfl) (fun _ _ _ h=>h) 17 _ (by rfl) (till_ind (by decide) (by decide)) (fun L w' h1 h2=>h2.1 h1) (by kernel_rfl) (by kernel_rfl) (by kernel_rfl) (by rfl) ?y6 ⟨fun _=>⟨NB6,V6⟩,fun _=>trivial⟩ (by rfl) ?_
    case y6 =>
     rintro w' ⟨hB5,hV5⟩
     skip
     simp only [lgA,lgZ,lgS]
     go_simp
    simp only [lgA,lgZ,lgS,Act.put,lsA,lsZ,lsS]
    refine wpAnyG.take 7 (v:=.agg #[.bool hl,.bool p2,.slice a2 n2 k2,.slice d2 m2 l2]) (by decide) (by kernel_rfl) (fun _ _ _ h=>h) 17 _ (by rfl) (till_ind (by decide) (by decide)) (fun L w' h1 h2=>h2.1 h1) (by kernel_rfl) (by kernel_rfl) (by kernel_rfl) (by rfl) ?y7 ⟨fun _=>⟨NB6,V6⟩,fun _=>trivial⟩ (by rfl) ?_
    case y7 =>
     rintro w' ⟨hB5,hV5⟩
     have qhB54:=hB5 4 _ rfl;have qhB55:=hB5 5 _ rfl;have qhB56:=hB5 6 _ rfl;have qhB57:=hB5 7 _ rfl
     simp only [lgA,lgZ,lgS]
     go_simp
    simp only [lgA,lgZ,lgS,Act.put,lsA,lsZ,lsS]
    refine wpAnyG.take 8 (v:=.agg #[.bool fk,.slice ck nk kk,.slice dk mk lk]) (by decide) (by kernel_rfl) (fun _ _ _ h=>h) 17 _ (by rfl) (till_ind (by decide) (by decide)) (fun L w' h1 h2=>h2.1 h1) (by kernel_rfl) (by kernel_rfl) (by kernel_rfl) (by rfl) ?y8 ⟨fun _=>⟨NB6,V6⟩,fun _=>trivial⟩ (by rfl) ?_
    case y8 =>
     rintro w' ⟨hB5,hV5⟩
     have qhV50:=hV5 0 _ rfl;have qhV51:=hV5 1 _ rfl;have qhV52:=hV5 2 _ rfl
     simp only [lgA,lgZ,lgS]
     go_simp
    simp only [lgA,lgZ,lgS,Act.put,lsA,lsZ,lsS]
    refine wpAnyG.take 10 (v:=.pointer (some ⟨wr.heap.size,8,none⟩)) (by decide) (by kernel_rfl) (fun _ _ _ h=>h) 17 _ (by rfl) (till_ind (by decide) (by decide)) (fun L w' h1 h2=>h2.1 h1) (by kernel_rfl) (by kernel_rfl) (by kernel_rfl) (by rfl) ?y10 ⟨fun _=>⟨NB6,V6⟩,fun _=>trivial⟩ (by rfl) ?_
    case y10 =>
     rintro w' ⟨hB5,hV5⟩
     skip
     simp only [lgA,lgZ,lgS]
     go_simp
    simp only [lgA,lgZ,lgS,Act.put,lsA,lsZ,lsS]
    refine wpAnyG.take 11 (v:=.agg #[.bool hh,.bool p3,.slice a3 n3 k3,.slice d3 m3 l3]) (by decide) (by kernel_rfl) (fun _ _ _ h=>h) 17 _ (by rfl) (till_ind (by decide) (by decide)) (fun L w' h1 h2=>h2.1 h1) (by kernel_rfl) (by kernel_rfl) (by kernel_rfl) (by rfl) ?y11 ⟨fun _=>⟨NB6,V6⟩,fun _=>trivial⟩ (by rfl) ?_
    case y11 =>
     rintro w' ⟨hB5,hV5⟩
     have qhB58:=hB5 8 _ rfl;have qhB59:=hB5 9 _ rfl;have qhB510:=hB5 10 _ rfl;have qhB511:=hB5 11 _ rfl
     simp only [lgA,lgZ,lgS]
     go_simp
    simp only [lgA,lgZ,lgS,Act.put,lsA,lsZ,lsS]
    refine wpAnyG.take 12 (v:=.agg #[.bool fk,.slice ck nk kk,.slice dk mk lk]) (by decide) (by kernel_rfl) (fun _ _ _ h=>h) 17 _ (by rfl) (till_ind (by decide) (by decide)) (fun L w' h1 h2=>h2.1 h1) (by kernel_rfl) (by kernel_rfl) (by kernel_rfl) (by rfl) ?y12 ⟨fun _=>⟨NB6,V6⟩,fun _=>trivial⟩ (by rfl) ?_
    case y12 =>
     rintro w' ⟨hB5,hV5⟩
     have qhV50:=hV5 0 _ rfl;have qhV51:=hV5 1 _ rfl;have qhV52:=hV5 2 _ rfl
     simp only [lgA,lgZ,lgS]
     go_simp
    simp only [lgA,lgZ,lgS,Act.put,lsA,lsZ,lsS]
    refine wpAnyG.one 5 (by kernel_rfl) (by decide) (by rfl) (fun K hK=>?_)
    simp only [lgA,lgZ,lgS]
    go_simp
    refine (termsS (HP.out _ (hB6.trans ((bel_d1 _).mono hXW))) (bel_tr hT6 (bel_d1 _)) hLI (fun i hi=>by rw [hIn i hi];omega) hn1 (fun _=>0) (fun i hi=>by rw [hIn i hi];rfl) (by simp)).mono ?_
    rintro e v1 ⟨ta,tc,E,rfl,hSL,hTQ,htc,hk1⟩
    have hc1:Below W6.heap.size W6 v1:=bel_tr (bel_d1 _) hk1
    have hm1:=hc1.size
    dsimp only
    refine hK _ _ ⟨fun _=>⟨NB6.below hc1,V6.below hc1⟩,fun _=>trivial⟩ ?_
    clear hK K
    refine wpAnyG.one 9 (by kernel_rfl) (by decide) (by rfl) (fun K hK=>?_)
    simp only [lgA,lgZ,lgS]
    go_simp
    refine (lessBQ _ (t2.below (bel_tr hT6 hc1)) (GK6.tr.below hc1) (by omega) hs1 (by omega) (HB.out _ (hB6.trans (hc1.mono hXW)))).mono ?_
    rintro e v2 ⟨f2,c2,j2,g2,c2',j2',g2',rfl,G2,hk2⟩
    have hc2:Below W6.heap.size W6 v2:=bel_tr hc1 hk2
    have hm2:=hc2.size
    dsimp only
    refine hK _ _ ⟨fun _=>⟨NB6.below hc2,V6.below hc2⟩,fun _=>trivial⟩ ?_
    clear hK K
    refine wpAnyG.one 13 (by kernel_rfl) (by decide) (by rfl) (fun K hK=>?_)
    simp only [lgA,lgZ,lgS]
    go_simp
    refine (lessBQ _ (t3.below (bel_tr hT6 hc2)) (GK6.tr.below hc2) (by omega) hs1 (by omega) (HB.out _ (hB6.trans (hc2.mono hXW)))).mono ?_
    rintro e v3 ⟨f3,c3,j3,g3,c3',j3',g3',rfl,G3,hk3⟩
    have hc3:Below W6.heap.size W6 v3:=bel_tr hc2 hk3
    have hm3:=hc3.size
    dsimp only
    refine hK _ _ ⟨fun _=>⟨NB6.below hc3,V6.below hc3⟩,fun _=>trivial⟩ ?_
    clear hK K
    refine wpAnyG.one 14 (by kernel_rfl) (by decide) (by rfl) (fun K hK=>?_)
    simp only [lgA,lgZ,lgS]
    go_simp
    refine hK _ _ ⟨fun _=>⟨NB6.below hc3,V6.below hc3⟩,fun _=>trivial⟩ ?_
    clear hK K
    refine wpAnyG.one 15 (by kernel_rfl) (by decide) (by rfl) (fun K hK=>?_)
    simp only [lgA,lgZ,lgS]
    go_simp
    have hc4:Below W6.heap.size W6 (v3.alloc (.cells #[.string ⟨#[82,51]⟩,.slice ta n tc,.bool hl,.bool f2,.slice c2 j2 g2,.slice c2' j2' g2',.bool hh,.bool f3,.slice c3 j3 g3,.slice c3' j3' g3'] 54)):=bel_a hc3
    refine hK _ _ ⟨fun _=>⟨NB6.below hc4,V6.below hc4⟩,fun _=>trivial⟩ ?_
    clear hK K
    refine wpAnyG.one 16 (by kernel_rfl) (by decide) (by rfl) (fun K hK=>?_)
    simp only [lgA,lgZ,lgS]
    have hS7:=hS6.below hc4
    refine wp_appendS _ _ _ 29 54 10 168 rfl Tryz.underlying29 infRow (by decide) (by decide) w.heap.size (.slice ga j gc) j F rfl hS7 v3.heap.size _ rfl [.string ⟨#[82,51]⟩,.slice ta n tc,.bool hl,.bool f2,.slice c2 j2 g2,.slice c2' j2' g2',.bool hh,.bool f3,.slice c3 j3 g3,.slice c3' j3' g3'] rfl (fun u hu=>by simp at hu;rcases hu with rfl|rfl|rfl|rfl|rfl|rfl|rfl|rfl|rfl|rfl <;> rfl) (box_new v3 #[.string ⟨#[82,51]⟩,.slice ta n tc,.bool hl,.bool f2,.slice c2 j2 g2,.slice c2' j2' g2',.bool hh,.bool f3,.slice c3 j3 g3,.slice c3' j3' g3'] 54) (by omega) (by simp;omega) (v3.heap.size+1) (by simp) ?_
    intro gN capN w7 SN hgrow hat _
    refine hK _ _ ⟨fun _=>⟨fun a u hu=>keep_ne hgrow (NB6.below hc4 a u hu) (fun e=>by have h9:=hrow _ e;simp at h9),fun a u hu=>keep_ne hgrow (V6.below hc4 a u hu) (fun e=>by have h9:w5.heap.size<wr.heap.size:=hrow _ e;omega)⟩,fun _=>trivial⟩ ?_
    clear hK K
    refine wpAnyG.one 17 (by kernel_rfl) (by decide) (by rfl) (fun K hK=>?_)
    simp only [lgA,lgZ,lgS]
    go_simp
    refine hK _ _ ⟨fun h=>absurd h (by decide),fun _=>trivial⟩ ?_
    clear hK K
    refine wpAnyG.done (by kernel_rfl) (NoPanic.normal ?_)
    have hnw:=hS7.noW (by decide)
    have hnt:=hS7.noT (by decide)
    have hxA:=bel_d0 v3 (.cells #[.string ⟨#[82,51]⟩,.slice ta n tc,.bool hl,.bool f2,.slice c2 j2 g2,.slice c2' j2' g2',.bool hh,.bool f3,.slice c3 j3 g3,.slice c3' j3' g3'] 54)
    have hb14:=bel_tr (bel_tr hk2 hk3) hxA
    have hSL7:=((hSL.mono (show w.heap.size≤W6.drew.heap.size from hs6)).below hb14)
    have hSL8:=hSL7.kept hgrow (hSL7.ne_noT hnt)
    have G28:=(((G2.mono (show w.heap.size≤_ by omega)).below (bel_tr hk3 hxA)).keep hnw hgrow).le (show T.ZC j+1+1≤T.ZC j+2 by omega)
    have G38:=(((G3.mono (show w.heap.size≤_ by omega)).below hxA).keep hnw hgrow).le (show T.ZC j+1+1≤T.ZC j+2 by omega)
    obtain ⟨en1,en2,en3,en4⟩:=EN.out
    have hnmR:(rwA T j).nm=⟨#[82,51]⟩:=by show (if j=0 then _ else _)=_;rw [if_neg (by have:=HJ.out;omega)]
    have RN:∀ i,i<j+1→RF w0 w7 w.heap.size ((fun i=>if i<j then F i else [.string ⟨#[82,51]⟩,.slice ta n tc,.bool hl,.bool f2,.slice c2 j2 g2,.slice c2' j2' g2',.bool hh,.bool f3,.slice c3 j3 g3,.slice c3' j3' g3']) i) (rwA T i) (T.ZC i+2):=by
     intro i hi
     by_cases hij:i<j
     ·simp only [hij,if_true]
      exact ((hF6 i hij).below hc4).keep hnw hnt hgrow
     ·obtain rfl:i=j:=by omega
      simp only [Nat.lt_irrefl,if_false]
      refine ⟨ta,tc,E,Zi,f2,c2,j2,g2,c2',j2',g2',f3,c3,j3,g3,c3',j3',g3',?_,?_,?_,?_,?_,G28,G38⟩
      ·rw [hnmR,en2,en3,en4];rfl
      ·show SL _ _ _ 4 (.slice ta (T.C i).n tc) (T.C i).n E;rw [← en2];exact hSL8
      ·intro k hk
       have hk':k<n:=by rw [en2];exact hk
       refine ⟨hTQ k hk',?_⟩
       rcases hLI with h0|⟨tb,to,eia,hel⟩
       ·omega
       ·exact ⟨(hel k hk').s1,(hel k hk').sz⟩
      ·show tot Zi (T.C i).n+2≤_;rw [← en2];omega
      ·show (T.C i).n≤tc;rw [← en2];exact htc
    have XN:j+1≤1→Rw 3 w7 X #[.int .i64 1]:=fun h=>((hXc6 h).below hc4).kept hgrow (fun e=>by have:=hrw X e;omega)
    have NN:Near X w w7:=(hN6.trans (near_of hc4)).grown hgrow (fun k e=>hrw k e)
    clear hSL hSL7 hSL8 G2 G3 G28 G38 hgrow hat hnw hnt hxA hb14 hk1 hk2 hk3 hc1 hc2 hc3 hc4 hF6 hS6 hS7 NB6 V6 GK6 hB6 hT6 hN6 hXc6 hTQ hLI en1 en2 en3 en4 hnmR EN HE t2 t3
    rw [← eca]
    go_wp2
    go_roundw
    case rel=>exact ⟨_,_,_,_,_,_,⟨j+1,by omega,by go_num,_,SN,RN,XN⟩,rfl,rfl,rfl,rfl,rfl,rfl⟩
    case measure=>simp [intOf];omega
  ·have hkI:¬ (j:Int)<(2:Int):=by omega
   obtain rfl:j=2:=by omega
   go_wp2
   go_ret
   first|exact ⟨ga,gc,rfl,F,hS,hF,hN⟩|exact ⟨ga,gc,F,rfl,hS,hF,hN⟩|exact ⟨ga,gc,rfl,⟨F,hS,hF⟩,hN⟩
end Go.Proofs.YtceigfafmalfgaaGreatDoor

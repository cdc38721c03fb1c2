import Derived.Test.YtceigfafmalfgaaGreatDoorGuardSAll
import Derived.Test.YtceigfafmalfgaaGreatDoorPrR
namespace Go.Proofs.YtceigfafmalfgaaGreatDoor
open Go.RowKit Go.Maps
def objV (V:Nat→PV) (u:Nat→PT):Nat→Nat→PV
 | 0,j=>V j
 | k+1,j=>if j=(u k).var.toNat then { objV V u k (u k).var.toNat with obj:=(u k).coef } else objV V u k j
def limV (V:Nat→PV) (L:Nat→PL) (J:Nat→Nat):Nat→Nat→PV
 | 0,j=>V j
 | k+1,j=>if j=J k then setL (limV V L J k (J k)) (L k).slo (L k).shi (L k).hlo (L k).lo (L k).hhi (L k).hi else limV V L J k j
def whV (V:Nat→PV) (J:Nat→Nat):Nat→Nat→PV
 | 0,j=>V j
 | k+1,j=>if j=J k then { whV V J k (J k) with whole:=true } else whV V J k j
theorem objV_no {V:Nat→PV} {u:Nat→PT} {j:Nat}:∀ k,(∀ q,q<k→(u q).var.toNat≠j)→objV V u k j=V j
 | 0,_=>rfl
 | k+1,h=>(if_neg (fun e=>h k (by omega) e.symm)).trans (objV_no k (fun q hq=>h q (by omega)))
theorem objV_yes {V:Nat→PV} {u:Nat→PT} {j q:Nat}:∀ k,q<k→(u q).var.toNat=j→(∀ i,i<k→(u i).var.toNat=j→i=q)→objV V u k j = { V j with obj:=(u q).coef }
 | 0,h,_,_=>by omega
 | k+1,h,e,hu=>by
  by_cases h1:q=k
  ·subst h1
   refine (if_pos e.symm).trans ?_
   rw [e,objV_no q (fun i hi e2=>by have:=hu i (by omega) e2;omega)]
  ·refine (if_neg (fun e2=>?_)).trans (objV_yes k (by omega) e (fun i hi=>hu i (by omega)))
   have:=hu k (by omega) e2.symm
   omega
theorem objV_all {V:Nat→PV} {t:Nat→PT} {nt n:Nat} {u:Nat→PT} {m:Nat} (hG:Gath t nt n u m) {j:Nat} (hj:j<n) (h0:(V j).obj=0):objV V u m j = { V j with obj:=gsum t nt (j:Int) }:=by
 by_cases hg:gsum t nt (j:Int)=0
 ·rw [objV_no m (fun q hq e=>?_),hg,← h0]
  have h1:=hG.lt q hq
  have h2:=(hG.co q hq).2
  have e2:(u q).var=(j:Int):=by omega
  rw [e2] at h2
  exact h2 hg
 ·obtain ⟨q,hq,e⟩:=hG.all (j:Int) (by omega) (by omega) hg
  rw [objV_yes m hq (by omega) (fun i hi ei=>?_),(hG.co q hq).1,e]
  have h1:=hG.lt i hi
  have h2:=hG.up i q
  have h3:=hG.up q i
  by_cases hiq:i=q
  ·exact hiq
  ·rcases (by omega:i<q∨q<i) with h|h
   ·have:=h2 h hq;omega
   ·have:=h3 h hi;omega
theorem Pl.names {w:World} {B p q b:Nat} {D:DataW Value} {ns:List ByteArray} (h:Pl w B p q b D ns) {na:Option Addr} {nc:Nat} (hq:Rw 68 w q #[.slice na ns.length nc]):ns.length=0∨∃ g,na=some ⟨g,0,none⟩∧∀ i,i<ns.length→w.cell? ⟨g,i,none⟩=some (.string (ns.getD i ⟨#[]⟩)):=by
 obtain ⟨v,E,h1,h2,h3⟩:=h.nm
 unfold Rw at h1 hq
 rw [h1] at hq
 simp at hq
 subst hq
 rcases h2.cell with h0|⟨g,e,hc⟩
 ·exact .inl h0
 ·refine .inr ⟨g,e,fun i hi=>?_⟩
  have hs:ns[i]? = some (ns.getD i ⟨#[]⟩):=by rw [List.getD_eq_getElem?_getD,List.getElem?_eq_getElem hi];rfl
  have:=hc i hi 0 (.string (ns.getD i ⟨#[]⟩)) (by rw [h3 i _ hs];rfl)
  simpa using this
def V0 (ns:List ByteArray) (j:Nat):PV:=⟨ns.getD j ⟨#[]⟩,0,true,0,false,0,false⟩
def tU (T:Txt) (u:Nat) (JI:Nat→Nat) (i:Nat):PT:=⟨(JI i:Int),(T.I (i+u)).coef⟩
def varsT (T:Txt) (ns:List ByteArray) (u:Nat) (JI JL JM:Nat→Nat):Nat→PV :=
 whV (limV (fun j=>{ V0 ns j with obj:=gsum (tU T u JI) (T.n-u) (j:Int) }) T.L JL T.ln) JM T.wn
set_option maxRecDepth 100000 in
set_option maxHeartbeats 16000000 in
theorem variablesG (T:Txt) {w0 w:World} {B p q b:Nat} {D:DataW Value} {ns:List ByteArray} {na:Option Addr} {nc:Nat} (u:Nat) (JI JL JM:Nat→Nat) (Y:Nat→Nat) (hT:TX w0 T) (hb0:Below w0.heap.size w0 w) (hK:T.K≤1048580) (h:Pl w B p q b D ns) (hq:Rw 68 w q #[.slice na ns.length nc]) (hnl:ns.length≤1048576)
  (hun:u≤T.n) (hU:∀ i,i<u→¬ (T.I i).nm ∈ ns) (hJI:∀ i,i+u<T.n→ns[JI i]? = some (T.I (i+u)).nm) (hJL:∀ k,k<T.ln→ns[JL k]? = some (T.L k).nm) (hJM:∀ k,k<T.wn→ns[JM k]? = some (T.M k).nm)
  (hY:∀ j,j<ns.length→1≤Y j∧SzR (gsum (tU T u JI) (T.n-u) (j:Int)) (Y j)) (hYL:∀ k,k<T.ln→T.ZL k≤Y (JL k)) (hTB:TB w) :
  Calls Tryz.prog 17 #[T.val,.map (some b),.slice na ns.length nc] w fun e w'=>∃ g,e = .returned (.slice (some ⟨g,0,none⟩) ns.length ns.length)∧VS w0 w' w.heap.size g ns.length ns.length (varsT T ns u JI JL JM) Y∧Below w.heap.size w w':=by
 have hnn:T.n≤1048580:=by have:=hT.all;have:=tot_len T.ZI T.n;omega
 obtain ⟨n,hn⟩:∃ n,n=ns.length:=⟨_,rfl⟩
 have HNM:=h.names hq
 have HNL:Hid (n=ns.length):=hn
 rw [← hn] at HNM hq hnl hY ⊢
 have HY:Hid (∀ j,j<n→1≤Y j∧SzR (gsum (tU T u JI) (T.n-u) (j:Int)) (Y j)):=hY
 have HJL:Hid (∀ k,k<T.ln→ns[JL k]? = some (T.L k).nm∧T.ZL k≤Y (JL k)):=fun k hk=>⟨hJL k hk,hYL k hk⟩
 have HJM:Hid (∀ k,k<T.wn→ns[JM k]? = some (T.M k).nm):=hJM
 clear hn hY hJL hYL hJM hq
 have hs0:=hb0.size
 obtain ⟨hlw1,hlw2⟩:=hT.lw
 have hb1:=bel_d0 w (.cells #[.bool T.mx,.string T.nm,.slice T.ia T.n T.ic,.slice T.ca T.cn T.cc,.slice T.la T.ln T.lc,.slice T.wa T.wn T.wc,.slice none 0 0] 43)
 have X0:=box_new w #[.bool T.mx,.string T.nm,.slice T.ia T.n T.ic,.slice T.ca T.cn T.cc,.slice T.la T.ln T.lc,.slice T.wa T.wn T.wc,.slice none 0 0] 43
 have es:(w.alloc (.cells #[.bool T.mx,.string T.nm,.slice T.ia T.n T.ic,.slice T.ca T.cn T.cc,.slice T.la T.ln T.lc,.slice T.wa T.wn T.wc,.slice none 0 0] 43)).heap.size=w.heap.size+1:=by simp
 unfold Txt.val
 go_enter Tryz.func17,Tryz.ntmps17
 go_wp2_with (refine wpList_makeVs w0 _ rfl _ _ rfl n rfl rfl (by omega) (V0 ns) Y ?_)
 intro W HV hbW hsW
 generalize w.alloc (.cells #[.bool T.mx,.string T.nm,.slice T.ia T.n T.ic,.slice T.ca T.cn T.cc,.slice T.la T.ln T.lc,.slice T.wa T.wn T.wc,.slice none 0 0] 43)=W00 at *
 replace hbW:Below W00.heap.size W00 W:=by rw [es];exact hbW
 obtain ⟨g,hg⟩:∃ g,g=w.heap.size+1:=⟨_,rfl⟩
 rw [← hg] at HV hsW ⊢
 replace hb1:=bel_tr hb1 hbW
 replace X0:=X0.below hbW
 replace HV:VS w0 W w.heap.size g n 0 (V0 ns) Y:=⟨by omega,HV.row,fun j hj=>by omega⟩
 have HG:Hid (g=w.heap.size+1∧W.heap.size=g+1):=⟨hg,by omega⟩
 have hgW:w.heap.size≤g:=by omega
 have hs1:w.heap.size≤W.heap.size:=by omega
 have hXl:w.heap.size<W.heap.size:=by omega
 have hXg:w.heap.size≠g:=by omega
 clear hg es hsW hbW
 have HXG:Hid (w.heap.size≠g∧w.heap.size<W.heap.size):=⟨hXg,hXl⟩
 clear hXg hXl
 go_wp2
 go_loopw [29] (fun s29 wr=>∃ i:Nat,i≤n∧s29 = .int .i64 i∧VS w0 wr w.heap.size g n i (V0 ns) Y∧Near g W wr) (fun s29 _=>n-(intOf s29).toNat)
 case atStart=>exact ⟨0,Nat.zero_le _,rfl,HV,Near.refl _ _⟩
 case round =>
  clear HV
  obtain ⟨i,hi,rfl,HV,hN⟩:=hrel
  have hbw:Below w.heap.size w wr:=hb1.trans (hN.below hgW hs1)
  by_cases hlt:i<n
  ·have hkI:(i:Int)<(n:Int):=by omega
   have hkI2:(i:Int)*13=((i*13:Nat):Int):=by omega
   have hYi:=HY.out i hlt
   rcases HNM with h0|⟨gn,rfl,hc⟩
   ·omega
   have c1:=kept_c hbw (hc i hlt)
   obtain ⟨nm,enm⟩:∃ nm,nm=ns.getD i ⟨#[]⟩:=⟨_,rfl⟩
   rw [← enm] at c1
   have EN:Hid (nm=ns.getD i ⟨#[]⟩):=enm
   clear hc enm
   go_wp2_with fail
   refine (boundOfQ 0 _ (by decide) (by decide)).mono ?_
   rintro e w2 ⟨f,c,nf,k,c',nf',k',rfl,G,hb⟩
   have hs2:=hbw.size
   have HV2:=HV.below hb
   have hz0:ON w0 w2 w.heap.size [.bool false,.slice none 0 0,.slice none 0 0] 0 (Y i):=⟨_,_,_,_,_,_,_,rfl,.inr ((tr_zero w0).up hYi.1)⟩
   have hz1:ON w0 w2 w.heap.size [.bool f,.slice c nf k,.slice c' nf' k'] 0 (Y i):=⟨_,_,_,_,_,_,_,rfl,.inl (((G.mono hs2).le hYi.1).val rfl)⟩
   have hth:w2.there g (i*13) 13:=HV2.there (by omega)
   have PV:=HV2.putV (nm:=nm) (hl:=true) (hh:=false) (wh:=false) hlt hz0 hz1 hz0
   have O:=cellsOff g [.string nm,.bool false,.slice none 0 0,.slice none 0 0,.bool true,.bool f,.slice c nf k,.slice c' nf' k',.bool false,.bool false,.slice none 0 0,.slice none 0 0,.bool false] (i*13+0) w2
   rw [Nat.add_zero] at PV O
   have hN2:=(hN.trans (near_of hb)).trans O.near
   replace PV:=PV.congr (V':=V0 ns) (fun q hq=>by
    by_cases e:q=i
    ·rw [if_pos e,e,EN.out];rfl
    ·rw [if_neg e])
   clear HV HV2 hb G hz0 hz1 O hN hbw c1
   obtain ⟨w3,hw3⟩:∃ w3,w3=w2.setCells g (i*13) [.string nm,.bool false,.slice none 0 0,.slice none 0 0,.bool true,.bool f,.slice c nf k,.slice c' nf' k',.bool false,.bool false,.slice none 0 0,.slice none 0 0,.bool false]:=⟨_,rfl⟩
   rw [← hw3] at PV hN2
   have HW3:Hid (w3=w2.setCells g (i*13) [.string nm,.bool false,.slice none 0 0,.slice none 0 0,.bool true,.bool f,.slice c nf k,.slice c' nf' k',.bool false,.bool false,.slice none 0 0,.slice none 0 0,.bool false]):=hw3
   clear hw3
   go_wp2_with (refine wpList_storeW rfl 51 _ _ rfl g (i*13) #[.string nm,.bool false,.slice none 0 0,.slice none 0 0,.bool true,.bool f,.slice c nf k,.slice c' nf' k',.bool false,.bool false,.slice none 0 0,.slice none 0 0,.bool false] rfl rfl hth varI (by simp [Value.oneCell']) w3 HW3 ?_;clear HW3 hth)
   go_wp2
   go_roundw
   case rel=>first|exact ⟨i+1,by omega,by go_num,PV,hN2⟩|((repeat apply Exists.intro);refine ⟨?_,rfl⟩;exact ⟨i+1,by omega,by go_num,PV,hN2⟩)
   case measure=>simp [intOf];omega
  ·have hkI:¬ (i:Int)<(n:Int):=by omega
   obtain rfl:n=i:=by omega
   clear HNM
   have X1:=hN.box X0 HXG.out.2 HXG.out.1
   have x2:=X1 2 _ rfl
   have HTR:=termsU (ic:=T.ic) (h.below hbw) (hb0.trans (hbw.mono hs0)) hT.i (fun i hi=>by
    rcases hT.i with h0|⟨b',o',_,hel⟩
    ·omega
    ·exact (hel i hi).snm) hnn u hun hU JI hJI (by have:=HNL.out;omega)
   go_wp2_with fail
   refine HTR.mono ?_
   clear HTR
   rintro e w4 ⟨ta,tc,E4,rfl,hS4,hE4,htc,hb4⟩
   have hbw4:=bel_tr hbw hb4
   have hsz4:=hbw.size
   have hLT:LT w4 ta (T.n-u) (tU T u JI) (fun i=>T.ZI (i+u)):=lt_of_sl hS4 hE4 (hb0.trans (hbw4.mono hs0)) (fun i hi=>by
    have hvl:JI i<ns.length:=(List.getElem?_eq_some_iff.1 (hJI i (by omega))).1
    rcases hT.i with h0|⟨b',o',_,hel⟩
    ·omega
    ·exact ⟨(hel (i+u) (by omega)).s1,(hel (i+u) (by omega)).sz,by show -9223372036854775808≤(JI i:Int);omega,by show (JI i:Int)≤9223372036854775807;have:=HNL.out;omega⟩)
   have HGA:=gatherQ ta (T.n-u) tc (tU T u JI) (fun i=>T.ZI (i+u)) n w4 hLT (by
    have h1:∀ m,m+u≤T.n→tot (fun i=>T.ZI (i+u)) m≤tot T.ZI (m+u):=fun m=>by
     induction m with
     | zero=>intro _;show 1≤_;exact tot_pos _ _
     | succ m ih=>intro h2;have:=ih (by omega);rw [show m+1+u=(m+u)+1 by omega];show tot (fun i=>T.ZI (i+u)) m+T.ZI (m+u)+1≤tot T.ZI (m+u)+T.ZI (m+u)+1;omega
    have:=h1 (T.n-u) (by omega)
    rw [show T.n-u+u=T.n by omega] at this
    have:=hT.all
    omega) (by omega) (hTB.below hbw4)
   have HV4:=HV.below hb4
   have X4:=X1.below hb4
   clear hS4 hE4 hLT hb4 HV X1 x2 hbw
   go_wp2_with fail
   refine HGA.mono ?_
   clear HGA
   rintro e w5 ⟨tv,m,uu,rfl,HGa,hTL,hb5⟩
   obtain ⟨E,hSL,hTC⟩:=hTL
   obtain ⟨ua,uc,rfl,huc⟩:=hSL.form
   have hgu:∀ k,(Value.slice ua m uc).ownBlock=some k→k≠g:=fun k e=>by have h1:=(hSL.lt k e).1;have h2:=HV4.lt;omega
   have HGU:Hid (∀ k,(Value.slice ua m uc).ownBlock=some k→k≠g):=hgu
   have hbw5:=bel_tr hbw4 hb5
   have HV5:=HV4.below hb5
   have X5:=X4.below hb5
   have hs4:=hbw4.size
   have hs5:=hbw5.size
   have hXl5:w.heap.size<w5.heap.size:=by have h1:=hb5.size;have h2:=HV4.lt;omega
   have HXG5:Hid (w.heap.size≠g∧w.heap.size<w5.heap.size):=⟨HXG.out.1,hXl5⟩
   have HTC:Hid (∀ q,q<m→TC w5 w.heap.size (E q) (uu q) (Y (uu q).var.toNat)):=fun q hq=>by
    have h1:=hTC q hq
    obtain ⟨p,a,na,ca,d,nd,cd,e1,g1⟩:=h1
    have h2:=HGa.lt q hq
    have h3:=HY.out (uu q).var.toNat (by omega)
    refine ⟨p,a,na,ca,d,nd,cd,e1,(g1.mono hs4).fit ?_⟩
    have e2:(((uu q).var.toNat:Nat):Int)=(uu q).var:=by omega
    rw [(HGa.co q hq).1]
    have h4:=h3.2
    rw [e2] at h4
    exact h4
   have HGL:Hid (∀ q,q<m→0≤(uu q).var∧(uu q).var<(n:Int)):=HGa.lt
   have HGA2:Hid (Gath (tU T u JI) (T.n-u) n uu m):=HGa
   have hm1:m≤n:=by
    have h1:∀ q,q<m→(q:Int)≤(uu q).var:=fun q=>by
     induction q with
     | zero=>intro hq;exact (HGa.lt 0 hq).1
     | succ q ih=>intro hq;have:=ih (by omega);have:=HGa.up q (q+1) (by omega) hq;omega
    by_cases h0:m=0
    ·omega
    ·have:=h1 (m-1) (by omega);have:=(HGa.lt (m-1) (by omega)).2;omega
   clear hgu hTC HGa HV4 X4 hb5 hbw4 hN hXl5 X0
   go_wp2
   go_loopw [49] (fun s49 wr=>∃ k:Nat,k≤m∧s49 = .int .i64 k∧VS w0 wr w.heap.size g n n (objV (V0 ns) uu k) Y∧Near g w5 wr) (fun s49 _=>m-(intOf s49).toNat)
   case atStart=>exact ⟨0,Nat.zero_le _,rfl,HV5,Near.refl _ _⟩
   case round =>
    have hnw5:=HV5.noW
    clear HV5
    obtain ⟨k,hk,rfl,HV,hN⟩:=hrel
    by_cases hlt:k<m
    ·have hkI:(k:Int)<(m:Int):=by omega
     have hkI2:(k:Int)*4=((k*4:Nat):Int):=by omega
     obtain ⟨p1,a1,n1,k1,d1,m1,l1,eE,GT⟩:=(HTC.out k hlt).keep hnw5 hN.grow
     have hSr:=hSL.kept hN.grow (fun q e e2=>HGU.out q e (by cases e2;rfl))
     rcases hSr.cell with h0|⟨gt,eua,hcell⟩
     ·omega
     have hc0:=hcell k hlt
     rw [eE] at hc0
     have hl1:=HGL.out k hlt
     obtain ⟨x,hx⟩:∃ x:Nat,(uu k).var=(x:Int):=⟨(uu k).var.toNat,by omega⟩
     have hxn:x<n:=by omega
     have hx2:(uu k).var.toNat=x:=by omega
     rw [hx] at hc0
     rw [hx2] at GT
     have e0:=hc0 0 _ rfl
     have e1:=hc0 1 _ rfl
     have e2:=hc0 2 _ rfl
     have e3:=hc0 3 _ rfl
     rw [Nat.add_zero] at e0
     have HX:Hid ((uu k).var.toNat=x):=hx2
     have hxI:(x:Int)<(n:Int):=by omega
     have hxI2:(x:Int)*13=((x*13:Nat):Int):=by omega
     clear hx hx2 hl1 hcell hc0 eE hSr
     rw [eua]
     have hz:=bel_d0 wr (.cells #[.int .i64 (x:Int),.bool p1,.slice a1 n1 k1,.slice d1 m1 l1] 56)
     have N4:=box_new wr #[.int .i64 (x:Int),.bool p1,.slice a1 n1 k1,.slice d1 m1 l1] 56
     have y0:=N4 0 _ rfl
     have y1:=N4 1 _ rfl
     have y2:=N4 2 _ rfl
     have y3:=N4 3 _ rfl
     have HV2:=HV.below hz
     have hO:ON w0 (wr.alloc (.cells #[.int .i64 (x:Int),.bool p1,.slice a1 n1 k1,.slice d1 m1 l1] 56)) w.heap.size [.bool p1,.slice a1 n1 k1,.slice d1 m1 l1] (uu k).coef (Y x):=⟨_,_,_,_,_,_,_,rfl,.inl (GT.below hz)⟩
     have hth:(wr.alloc (.cells #[.int .i64 (x:Int),.bool p1,.slice a1 n1 k1,.slice d1 m1 l1] 56)).there g (x*13+1) 3:=HV2.there (by omega)
     have PV:=HV2.putObj hxn (Nat.le_refl _) hO
     have O:=cellsOff g [.bool p1,.slice a1 n1 k1,.slice d1 m1 l1] (x*13+1) (wr.alloc (.cells #[.int .i64 (x:Int),.bool p1,.slice a1 n1 k1,.slice d1 m1 l1] 56))
     have hN2:=(hN.trans (near_of hz)).trans O.near
     replace PV:=PV.congr (V':=objV (V0 ns) uu (k+1)) (fun q hq=>by
      show _=if q=(uu k).var.toNat then _ else _
      rw [HX.out])
     clear HV HV2 hz N4 hO O hN GT
     obtain ⟨w6,hw6⟩:∃ w6,w6=(wr.alloc (.cells #[.int .i64 (x:Int),.bool p1,.slice a1 n1 k1,.slice d1 m1 l1] 56)).setCells g (x*13+1) [.bool p1,.slice a1 n1 k1,.slice d1 m1 l1]:=⟨_,rfl⟩
     rw [← hw6] at PV hN2
     have HW6:Hid (w6=(wr.alloc (.cells #[.int .i64 (x:Int),.bool p1,.slice a1 n1 k1,.slice d1 m1 l1] 56)).setCells g (x*13+1) [.bool p1,.slice a1 n1 k1,.slice d1 m1 l1]):=hw6
     clear hw6
     go_wp2_with (refine wpList_storeW rfl 27 _ _ rfl g (x*13+1) #[.bool p1,.slice a1 n1 k1,.slice d1 m1 l1] rfl rfl hth ratI (by simp [Value.oneCell']) w6 HW6 ?_;clear HW6 hth e0 e1 e2 e3 y0 y1 y2 y3)
     go_roundw
     case rel=>first|exact ⟨k+1,by omega,by go_num,PV,hN2⟩|((repeat apply Exists.intro);refine ⟨?_,rfl⟩;exact ⟨k+1,by omega,by go_num,PV,hN2⟩)
     case measure=>simp [intOf];omega
    ·have hkI:¬ (k:Int)<(m:Int):=by omega
     obtain rfl:m=k:=by omega
     have X6:=hN.box X5 HXG5.out.2 HXG5.out.1
     have x4:=X6 4 _ rfl
     have hb6:Below w.heap.size w wr:=hbw5.trans (hN.below hgW hs5)
     replace HV:=HV.congr (fun j hj=>objV_all HGA2.out hj rfl)
     have hs6:=hb6.size
     have hX6l:w.heap.size<wr.heap.size:=by have h1:=HXG5.out.2;have h2:=hN.size;omega
     have HXG6:Hid (w.heap.size≠g∧w.heap.size<wr.heap.size):=⟨HXG.out.1,hX6l⟩
     clear hX6l HXG5 HGA2 HGL HTC HGU hSL hnw5 hN X5 hbw5
     go_wp2
     generalize wr=w7 at *
     go_loopw [64] (fun s64 wr=>∃ k:Nat,k≤T.ln∧s64 = .int .i64 k∧VS w0 wr w.heap.size g n n (limV (fun j=>{ V0 ns j with obj:=gsum (tU T u JI) (T.n-u) (j:Int) }) T.L JL k) Y∧Near g w7 wr) (fun s64 _=>T.ln-(intOf s64).toNat)
     case atStart=>exact ⟨0,Nat.zero_le _,rfl,HV,Near.refl _ _⟩
     case round =>
      clear HV
      obtain ⟨k,hk,rfl,HV,hN⟩:=hrel
      by_cases hlt:k<T.ln
      ·have hkI:(k:Int)<(T.ln:Int):=by omega
       have hkI2:(k:Int)*13=((k*13:Nat):Int):=by omega
       have hJ:=HJL.out k hlt
       rcases hT.l with h0|⟨lb,lo,ela,hel⟩
       ·omega
       have hC:=hel k hlt
       have hbr:Below w0.heap.size w0 wr:=hb0.trans ((hb6.trans (hN.below hgW hs6)).mono hs0)
       obtain ⟨nm,enm⟩:∃ x,x=(T.L k).nm:=⟨_,rfl⟩
       obtain ⟨ln,eln⟩:∃ x,x=(T.L k).ln:=⟨_,rfl⟩
       obtain ⟨cl,ecl⟩:∃ x,x=(T.L k).cl:=⟨_,rfl⟩
       obtain ⟨sl,esl⟩:∃ x,x=(T.L k).slo:=⟨_,rfl⟩
       obtain ⟨sh,esh⟩:∃ x,x=(T.L k).shi:=⟨_,rfl⟩
       obtain ⟨hl,ehl⟩:∃ x,x=(T.L k).hlo:=⟨_,rfl⟩
       obtain ⟨hh,ehh⟩:∃ x,x=(T.L k).hhi:=⟨_,rfl⟩
       obtain ⟨rlo,erlo⟩:∃ x,x=(T.L k).lo:=⟨_,rfl⟩
       obtain ⟨rhi,erhi⟩:∃ x,x=(T.L k).hi:=⟨_,rfl⟩
       have hsn:=hC.snm
       have x0:=kept_c hbr hC.nm
       have x1:=kept_c hbr hC.ln
       have x2:=kept_c hbr hC.cl
       have x3:=kept_c hbr hC.slo
       have x4:=kept_c hbr hC.shi
       have x5:=kept_c hbr hC.hlo
       obtain ⟨p2,a2,n2,k2,d2,m2,l2,x6,x7,x8,t2⟩:=hC.lo
       have x9:=kept_c hbr hC.hhi
       obtain ⟨p3,a3,n3,k3,d3,m3,l3,x10,x11,x12,t3⟩:=hC.hi
       replace x6:=kept_c hbr x6
       replace x7:=kept_c hbr x7
       replace x8:=kept_c hbr x8
       replace x10:=kept_c hbr x10
       replace x11:=kept_c hbr x11
       replace x12:=kept_c hbr x12
       obtain ⟨v,ev⟩:∃ v,v=JL k:=⟨_,rfl⟩
       rw [← enm] at x0 hsn hJ
       rw [← eln] at x1
       rw [← ecl] at x2
       rw [← esl] at x3
       rw [← esh] at x4
       rw [← ehl] at x5
       rw [← ehh] at x9
       rw [← erlo] at t2
       rw [← erhi] at t3
       rw [← ev] at hJ
       have hvl:v<ns.length:=(List.getElem?_eq_some_iff.1 hJ.1).1
       rw [← HNL.out] at hvl
       have EL:Hid (v=JL k∧sl=(T.L k).slo∧sh=(T.L k).shi∧hl=(T.L k).hlo∧rlo=(T.L k).lo∧hh=(T.L k).hhi∧rhi=(T.L k).hi):=⟨ev,esl,esh,ehl,erlo,ehh,erhi⟩
       replace t2:=t2.up hJ.2
       replace t3:=t3.up hJ.2
       clear hel hC enm eln ecl esl esh ehl ehh erlo erhi ev
       have hz0:=bel_d0 wr (.cells #[.string nm,.int .i64 ln,.int .i64 cl,.bool sl,.bool sh,.bool hl,.bool p2,.slice a2 n2 k2,.slice d2 m2 l2,.bool hh,.bool p3,.slice a3 n3 k3,.slice d3 m3 l3] 77)
       have N4:=box_new wr #[.string nm,.int .i64 ln,.int .i64 cl,.bool sl,.bool sh,.bool hl,.bool p2,.slice a2 n2 k2,.slice d2 m2 l2,.bool hh,.bool p3,.slice a3 n3 k3,.slice d3 m3 l3] 77
       have hbwr:Below w.heap.size w wr:=hb6.trans (hN.below hgW hs6)
       have O4:=own_below h.own (bel_tr hbwr hz0)
       obtain ⟨x,y,hrun,hx⟩:=O4.look_ok (string_keyed Tryz.underlying9) (t:=67) (e:=3) Tryz.underlying67 (z:=.int .i64 0) (Tryz.zeroValue3 _) (zd:=.held (.int .i64 0)) (zp:=[]) rfl (keyS hsn)
       rw [(h.has nm).2 (List.mem_of_getElem? hJ.1)] at hrun
       rw [h.idx v nm hJ.1] at hx
       simp only [rawR,Option.some.injEq,Prod.mk.injEq,DataW.held.injEq] at hx
       obtain ⟨rfl,_⟩:=hx
       have n0:=N4 0 _ rfl
       have HV2:=HV.below hz0
       have hN2:=hN.trans (near_of (g:=g) hz0)
       have hlo:∀ w9,ON w0 w9 w.heap.size [.bool p2,.slice a2 n2 k2,.slice d2 m2 l2] rlo (Y v):=fun w9=>⟨_,_,_,_,_,_,_,rfl,.inr t2⟩
       have hhi:∀ w9,ON w0 w9 w.heap.size [.bool p3,.slice a3 n3 k3,.slice d3 m3 l3] rhi (Y v):=fun w9=>⟨_,_,_,_,_,_,_,rfl,.inr t3⟩
       have HLO:Hid (∀ w9,ON w0 w9 w.heap.size [.bool p2,.slice a2 n2 k2,.slice d2 m2 l2] rlo (Y v)):=hlo
       have HHI:Hid (∀ w9,ON w0 w9 w.heap.size [.bool p3,.slice a3 n3 k3,.slice d3 m3 l3] rhi (Y v)):=hhi
       have hvI:(v:Int)<(n:Int):=by omega
       have hvI2:(v:Int)*13=((v*13:Nat):Int):=by omega
       obtain ⟨RL,hRL⟩:∃ RL,RL=wr.heap.size:=⟨_,rfl⟩
       clear hlo hhi t2 t3 HV hN O4 hJ hbwr
       rw [ela]
       go_wp2_with fail
       rw [← ela]
       rw [← hRL] at N4 n0
       clear x0 x1 x2 x3 x4 x5 x6 x7 x8 x9 x10 x11 x12 hrun hbr n0
       first|rw [← hRL]|skip
       clear hRL
       generalize wr.alloc (.cells #[.string nm,.int .i64 ln,.int .i64 cl,.bool sl,.bool sh,.bool hl,.bool p2,.slice a2 n2 k2,.slice d2 m2 l2,.bool hh,.bool p3,.slice a3 n3 k3,.slice d3 m3 l3] 77)=W6 at *
       clear hz0
       have HBx:∀ w',Below W6.heap.size W6 w'→(w'.cell? ⟨RL,0,none⟩=some (.string nm)∧w'.cell? ⟨RL,1,none⟩=some (.int .i64 ln)∧w'.cell? ⟨RL,2,none⟩=some (.int .i64 cl)∧w'.cell? ⟨RL,3,none⟩=some (.bool sl)∧w'.cell? ⟨RL,4,none⟩=some (.bool sh)∧w'.cell? ⟨RL,5,none⟩=some (.bool hl)∧w'.cell? ⟨RL,6,none⟩=some (.bool p2)∧w'.cell? ⟨RL,7,none⟩=some (.slice a2 n2 k2)∧w'.cell? ⟨RL,8,none⟩=some (.slice d2 m2 l2)∧w'.cell? ⟨RL,9,none⟩=some (.bool hh)∧w'.cell? ⟨RL,10,none⟩=some (.bool p3)∧w'.cell? ⟨RL,11,none⟩=some (.slice a3 n3 k3)∧w'.cell? ⟨RL,12,none⟩=some (.slice d3 m3 l3)):=fun w' hh=>⟨kept_c hh (N4 0 _ rfl),kept_c hh (N4 1 _ rfl),kept_c hh (N4 2 _ rfl),kept_c hh (N4 3 _ rfl),kept_c hh (N4 4 _ rfl),kept_c hh (N4 5 _ rfl),kept_c hh (N4 6 _ rfl),kept_c hh (N4 7 _ rfl),kept_c hh (N4 8 _ rfl),kept_c hh (N4 9 _ rfl),kept_c hh (N4 10 _ rfl),kept_c hh (N4 11 _ rfl),kept_c hh (N4 12 _ rfl)⟩
       refine wp_region_noPanic (wp_region_guard (Till 4 4 (fun w'=>(w'.cell? ⟨RL,0,none⟩=some (.string nm)∧w'.cell? ⟨RL,1,none⟩=some (.int .i64 ln)∧w'.cell? ⟨RL,2,none⟩=some (.int .i64 cl)∧w'.cell? ⟨RL,3,none⟩=some (.bool sl)∧w'.cell? ⟨RL,4,none⟩=some (.bool sh)∧w'.cell? ⟨RL,5,none⟩=some (.bool hl)∧w'.cell? ⟨RL,6,none⟩=some (.bool p2)∧w'.cell? ⟨RL,7,none⟩=some (.slice a2 n2 k2)∧w'.cell? ⟨RL,8,none⟩=some (.slice d2 m2 l2)∧w'.cell? ⟨RL,9,none⟩=some (.bool hh)∧w'.cell? ⟨RL,10,none⟩=some (.bool p3)∧w'.cell? ⟨RL,11,none⟩=some (.slice a3 n3 k3)∧w'.cell? ⟨RL,12,none⟩=some (.slice d3 m3 l3))) (fun _=>True)) (by as_aux_lemma=>kernel_rfl) ?_)
       have hc0:Below W6.heap.size W6 W6.drew:=bel_d1 _
       generalize W6.drew=z0 at *
       refine wpAnyG.take 0 (v:=.slice (some ⟨g,0,none⟩) n n) (by decide) (by as_aux_lemma=>kernel_rfl) (fun _ _ _ h=>h) 2 (fun _=>True) (by rfl) (till_ind (by decide) (by decide)) (fun _ _ _ _=>trivial) (by as_aux_lemma=>kernel_rfl) (by as_aux_lemma=>kernel_rfl) (by as_aux_lemma=>kernel_rfl) (by rfl) ?y0 ⟨fun _=>HBx _ hc0,fun _=>trivial⟩ (by rfl) ?_
       case y0 =>
        rintro w' -
        simp only [lgA,lgZ]
        go_simp
       simp only [lgA,lgZ,Act.put,lsA,lsZ,lsS]
       refine wpAnyG.take 1 (v:=.int .i64 (v:Int)) (by decide) (by as_aux_lemma=>kernel_rfl) (fun _ _ _ h=>h) 2 (fun _=>True) (by rfl) (till_ind (by decide) (by decide)) (fun _ _ _ _=>trivial) (by as_aux_lemma=>kernel_rfl) (by as_aux_lemma=>kernel_rfl) (by as_aux_lemma=>kernel_rfl) (by rfl) ?y1 ⟨fun _=>HBx _ hc0,fun _=>trivial⟩ (by rfl) ?_
       case y1 =>
        rintro w' -
        simp only [lgA,lgZ,lgS]
        go_simp
       simp only [lgA,lgZ,lgS,Act.put,lsA,lsZ,lsS]
       refine wpAnyG.tT 2 (v:=.pointer (some ⟨g,v*13,none⟩)) (by decide) 4 (by as_aux_lemma=>kernel_rfl) (by rfl) ?y2 (HBx _ hc0) ?_
       case y2 =>
        rintro w' ⟨x0,x1,x2,x3,x4,x5,x6,x7,x8,x9,x10,x11,x12⟩
        simp only [lgA,lgZ,lgS]
        go_simp
       simp only [lgA,lgZ,lgS,Act.put,lsA,lsZ,lsS]
       refine wpAnyG.tT 3 (v:=.agg #[.string nm,.int .i64 ln,.int .i64 cl,.bool sl,.bool sh,.bool hl,.bool p2,.slice a2 n2 k2,.slice d2 m2 l2,.bool hh,.bool p3,.slice a3 n3 k3,.slice d3 m3 l3]) (by decide) 4 (by as_aux_lemma=>kernel_rfl) (by rfl) ?y3 (HBx _ hc0) ?_
       case y3 =>
        rintro w' ⟨x0,x1,x2,x3,x4,x5,x6,x7,x8,x9,x10,x11,x12⟩
        simp only [lgA,lgZ,lgS]
        go_simp
       simp only [lgA,lgZ,lgS,Act.put,lsA,lsZ,lsS]
       refine wpAnyG.one 4 (by as_aux_lemma=>kernel_rfl) (by decide) (by rfl) (fun K hK=>?_)
       simp only [lgA,lgZ,lgS]
       go_simp
       refine (limitedQ (HV2.below hc0) (Nat.le_refl _) hvl (HLO.out _) (HHI.out _)).mono ?_
       rintro e z1 ⟨rfl,PV,hk1⟩
       dsimp only
       refine hK _ _ ⟨fun h=>absurd h (by decide),fun _=>trivial⟩ ?_
       clear hK K
       refine wpAnyG.done (by as_aux_lemma=>kernel_rfl) (NoPanic.normal ?_)
       replace PV:=PV.congr (V':=limV (fun j=>{ V0 ns j with obj:=gsum (tU T u JI) (T.n-u) (j:Int) }) T.L JL (k+1)) (fun q hq=>by
        show _=if q=JL k then _ else _
        rw [← EL.out.1,← EL.out.2.1,← EL.out.2.2.1,← EL.out.2.2.2.1,← EL.out.2.2.2.2.1,← EL.out.2.2.2.2.2.1,← EL.out.2.2.2.2.2.2])
       have hN3:=(hN2.trans (near_of (g:=g) hc0)).trans hk1
       clear HV2 hN2 hc0 hk1 HBx N4
       go_wp2
       go_roundw
       case rel=>first|exact ⟨k+1,by omega,by go_num,PV,hN3⟩|((repeat apply Exists.intro);refine ⟨?_,rfl⟩;exact ⟨k+1,by omega,by go_num,PV,hN3⟩)
       case measure=>simp [intOf];omega
      ·have hkI:¬ (k:Int)<(T.ln:Int):=by omega
       obtain rfl:k=T.ln:=by omega
       have X7:=hN.box X6 HXG6.out.2 HXG6.out.1
       have x5:=X7 5 _ rfl
       have hb7:Below w.heap.size w wr:=hb6.trans (hN.below hgW hs6)
       have hs7:=hb7.size
       have hX7l:w.heap.size<wr.heap.size:=by have h1:=HXG6.out.2;have h2:=hN.size;omega
       have HXG7:Hid (w.heap.size≠g∧w.heap.size<wr.heap.size):=⟨HXG.out.1,hX7l⟩
       clear hX7l HXG6 X6 x4 hN hb6
       go_wp2
       generalize wr=w8 at *
       go_loopw [85] (fun s85 wr=>∃ k:Nat,k≤T.wn∧s85 = .int .i64 k∧VS w0 wr w.heap.size g n n (whV (limV (fun j=>{ V0 ns j with obj:=gsum (tU T u JI) (T.n-u) (j:Int) }) T.L JL T.ln) JM k) Y∧Near g w8 wr) (fun s85 _=>T.wn-(intOf s85).toNat)
       case atStart=>exact ⟨0,Nat.zero_le _,rfl,HV,Near.refl _ _⟩
       case round =>
        clear HV
        obtain ⟨k,hk,rfl,HV,hN⟩:=hrel
        by_cases hlt:k<T.wn
        ·have hkI:(k:Int)<(T.wn:Int):=by omega
         have hkI2:(k:Int)*3=((k*3:Nat):Int):=by omega
         have hJ:=HJM.out k hlt
         rcases hT.m with h0|⟨lb,lo,ela,hel⟩
         ·omega
         obtain ⟨x0,x1,x2,hsn⟩:=hel k hlt
         have hbr:Below w0.heap.size w0 wr:=hb0.trans ((hb7.trans (hN.below hgW hs7)).mono hs0)
         obtain ⟨nm,enm⟩:∃ x,x=(T.M k).nm:=⟨_,rfl⟩
         obtain ⟨ln,eln⟩:∃ x,x=(T.M k).ln:=⟨_,rfl⟩
         obtain ⟨cl,ecl⟩:∃ x,x=(T.M k).cl:=⟨_,rfl⟩
         obtain ⟨v,ev⟩:∃ v,v=JM k:=⟨_,rfl⟩
         replace x0:=kept_c hbr x0
         replace x1:=kept_c hbr x1
         replace x2:=kept_c hbr x2
         rw [← enm] at x0 hsn hJ
         rw [← eln] at x1
         rw [← ecl] at x2
         rw [← ev] at hJ
         have hvl:v<ns.length:=(List.getElem?_eq_some_iff.1 hJ).1
         rw [← HNL.out] at hvl
         have EL:Hid (v=JM k):=ev
         clear hel enm eln ecl ev
         have hz0:=bel_d0 wr (.cells #[.string nm,.int .i64 ln,.int .i64 cl] 79)
         have N4:=box_new wr #[.string nm,.int .i64 ln,.int .i64 cl] 79
         have hbwr:Below w.heap.size w wr:=hb7.trans (hN.below hgW hs7)
         have O4:=own_below h.own (bel_tr hbwr hz0)
         obtain ⟨x,y,hrun,hx⟩:=O4.look_ok (string_keyed Tryz.underlying9) (t:=67) (e:=3) Tryz.underlying67 (z:=.int .i64 0) (Tryz.zeroValue3 _) (zd:=.held (.int .i64 0)) (zp:=[]) rfl (keyS hsn)
         rw [(h.has nm).2 (List.mem_of_getElem? hJ)] at hrun
         rw [h.idx v nm hJ] at hx
         simp only [rawR,Option.some.injEq,Prod.mk.injEq,DataW.held.injEq] at hx
         obtain ⟨rfl,_⟩:=hx
         have n0:=N4 0 _ rfl
         have HV2:=HV.below hz0
         have PV:=HV2.putWh (j:=v) hvl (Nat.le_refl _) true
         have hth:(wr.alloc (.cells #[.string nm,.int .i64 ln,.int .i64 cl] 79)).there g (v*13+12) 1:=HV2.there (by omega)
         have O:=cellsOff g [.bool true] (v*13+12) (wr.alloc (.cells #[.string nm,.int .i64 ln,.int .i64 cl] 79))
         have hN2:=(hN.trans (near_of (g:=g) hz0)).trans O.near
         obtain ⟨u0,c12⟩:=Option.isSome_iff_exists.1 (hth 0 (by omega)).1
         have f12:=(hth 0 (by omega)).2
         rw [Nat.add_zero] at c12 f12
         replace PV:=PV.congr (V':=whV (limV (fun j=>{ V0 ns j with obj:=gsum (tU T u JI) (T.n-u) (j:Int) }) T.L JL T.ln) JM (k+1)) (fun q hq=>by
          show _=if q=JM k then _ else _
          rw [← EL.out])
         have hvI:(v:Int)<(n:Int):=by omega
         have hvI2:(v:Int)*13=((v*13:Nat):Int):=by omega
         replace PV:VS w0 ((wr.alloc (.cells #[.string nm,.int .i64 ln,.int .i64 cl] 79)).setCell ⟨g,v*13+12,none⟩ (.bool true)) w.heap.size g n n (whV (limV (fun j=>{ V0 ns j with obj:=gsum (tU T u JI) (T.n-u) (j:Int) }) T.L JL T.ln) JM (k+1)) Y:=PV
         replace hN2:Near g w8 ((wr.alloc (.cells #[.string nm,.int .i64 ln,.int .i64 cl] 79)).setCell ⟨g,v*13+12,none⟩ (.bool true)):=hN2
         clear HV HV2 hN O4 hz0 N4 O hth hbwr hbr hJ
         rw [ela]
         go_wp2
         go_roundw
         case rel=>first|exact ⟨k+1,by omega,by go_num,PV,hN2⟩|((repeat apply Exists.intro);refine ⟨?_,rfl⟩;exact ⟨k+1,by omega,by go_num,PV,hN2⟩)
         case measure=>simp [intOf];omega
        ·have hkI:¬ (k:Int)<(T.wn:Int):=by omega
         obtain rfl:k=T.wn:=by omega
         have X8:=hN.box X7 HXG7.out.2 HXG7.out.1
         have x6:=X8 6 _ rfl
         have hb8:Below w.heap.size w wr:=hb7.trans (hN.below hgW hs7)
         clear X7 x5 hN
         go_wp2
         go_loopw [105] (fun s105 wq=>s105 = .int .i64 0∧wq=wr) (fun _ _=>0)
         case atStart=>exact ⟨rfl,rfl⟩
         case round =>
          obtain ⟨rfl,rfl⟩:=hrel
          go_wp2
          go_ret
          exact ⟨g,rfl,HV,hb8⟩
end Go.Proofs.YtceigfafmalfgaaGreatDoor

import Derived.Test.YtceigfafmalfgaaGreatDoorPrQ
import Derived.Test.YtceigfafmalfgaaGreatDoorPrF
namespace Go.Proofs.YtceigfafmalfgaaGreatDoor
open Go.RowKit Go.Maps
theorem tr_zero (w:World):TR w false none 0 0 none 0 0 0 1:=by
 have h0:Num w none 0 0 0 1:=⟨[],rfl,Nat.le_refl _,.inl rfl,AllW.nil,rfl,by simp⟩
 exact ⟨0,0,⟨0,h0,rfl⟩,h0,by simp⟩
structure Awk (T:Txt) (nm:ByteArray):Prop where
 cn:T.cn=2
 K:T.K≤100000
 e:T.nm=⟨#[]⟩
 n0:(T.C 0).nm=⟨#[82,50]⟩
 n1:(T.C 1).nm=⟨#[]⟩
 ne:nm.data.toList≠[]
 sz:nm.size≤1000
 I:∀ i,i<T.n→(T.I i).nm=nm
 C:∀ j,j<2→∀ i,i<(T.C j).n→((T.C j).I i).nm=nm
 all:allNames T=[nm]
 g:gsum (fun i=>⟨0,(T.I i).coef⟩) T.n 0≠0
 nl:T.la=none∧T.ln=0∧T.lc=0∧T.wa=none∧T.wn=0∧T.wc=0
theorem Awk.taken {T:Txt} {nm:ByteArray} (h:Awk T nm):(∀ j,j<T.cn→(T.C j).nm.data.toList≠[]→¬ Tkn T j (T.C j).nm)∧Tkn T T.cn ⟨#[82,50]⟩∧¬ Tkn T T.cn ⟨#[82,51]⟩:=by
 have e1:((⟨#[82,50]⟩:ByteArray)=⟨#[]⟩)→False:=fun e=>by have:=congrArg (fun b=>b.data.toList) e;simp at this
 have e2:((⟨#[82,51]⟩:ByteArray)=⟨#[]⟩)→False:=fun e=>by have:=congrArg (fun b=>b.data.toList) e;simp at this
 have e3:((⟨#[82,50]⟩:ByteArray)=⟨#[82,51]⟩)→False:=fun e=>by have:=congrArg (fun b=>b.data.toList) e;simp at this
 have e4:((⟨#[]⟩:ByteArray)=⟨#[82,51]⟩)→False:=fun e=>e2 e.symm
 refine ⟨fun j hj hne ht=>?_,.inr ⟨0,by rw [h.cn];omega,h.n0,by simp⟩,?_⟩
 ·rw [h.cn] at hj
  rcases (by omega:j=0∨j=1) with rfl|rfl
  ·rcases ht with e|⟨q,hq,_⟩
   ·rw [h.n0,h.e] at e;exact e1 e
   ·omega
  ·rw [h.n1] at hne;exact hne rfl
 ·rintro (e|⟨q,hq,e,_⟩)
  ·rw [h.e] at e;exact e2 e
  ·rw [h.cn] at hq
   rcases (by omega:q=0∨q=1) with rfl|rfl
   ·rw [h.n0] at e;exact e3 e
   ·rw [h.n1] at e;exact e4 e
def vaA (T:Txt) (nm:ByteArray):PV:={ nm:=nm,obj:=gsum (fun i=>⟨0,(T.I i).coef⟩) T.n 0,hlo:=true,lo:=0,hhi:=false,hi:=0,whole:=false }
theorem lw_of {w0 w:World} {B:Nat} {ra:Option Addr} {m n rc:Nat} {F:Nat→List Value} {R:Nat→PW} {ZS ZR:Nat→Nat} (hS:SL w B 54 10 (.slice ra m rc) n F) (hF:∀ i,i<n→RF w0 w B (F i) (R i) (ZS i)) (hb:Below w0.heap.size w0 w) (hv:∀ i,i<n→∀ k,k<(R i).nt→-9223372036854775808≤((R i).t k).var∧((R i).t k).var≤9223372036854775807)
  (hz:∀ i,i<n→1≤ZR i∧(R i).nm.size≤ZR i∧SzR (R i).lo (ZR i)∧SzR (R i).hi (ZR i)∧ZS i≤ZR i+2):LW w ra n R ZR:=by
 rcases hS.cell with h0|⟨g,rfl,hc⟩
 ·exact .inl h0
 ·refine .inr ⟨g,0,rfl,fun i hi=>?_⟩
  obtain ⟨ta,tc,E,Z,p2,a2,n2,k2,d2,m2,l2,p3,a3,n3,k3,d3,m3,l3,e1,s1,s2,s3,s4,s5,s6⟩:=hF i hi
  have hc':=hc i hi
  rw [e1] at hc'
  obtain ⟨z1,z2,z3,z4,z5⟩:=hz i hi
  rw [Nat.zero_add]
  exact ⟨hc' 0 _ rfl,⟨ta,tc,Z,hc' 1 _ rfl,lt_of_sl s1 (fun k hk=>(s2 k hk).1) hb (fun k hk=>⟨(s2 k hk).2.1,(s2 k hk).2.2,(hv i hi k hk).1,(hv i hi k hk).2⟩),by omega,s4⟩,hc' 2 _ rfl,⟨_,_,_,_,_,_,_,hc' 3 _ rfl,hc' 4 _ rfl,hc' 5 _ rfl,(s5.fit z3).tr⟩,hc' 6 _ rfl,⟨_,_,_,_,_,_,_,hc' 7 _ rfl,hc' 8 _ rfl,hc' 9 _ rfl,(s6.fit z4).tr⟩,z1,z3,z4,z2⟩
theorem TO.mono {w:World} {B B':Nat} {P:Prob} {v:Value} (h:TO w B P v) (hB:B'≤B):TO w B' P v:=by
 obtain ⟨f,c,n,k,c',n',k',va,vc,ra,rc,E,F,e,g,s1,h1,s2,h2⟩:=h
 exact ⟨f,c,n,k,c',n',k',va,vc,ra,rc,E,F,e,g.mono hB,s1.mono hB,fun q hq=>(h1 q hq).mono hB,s2.mono hB,fun q hq=>(h2 q hq).mono hB⟩
theorem TO.off {w w':World} {B:Nat} {P:Prob} {v:Value} (h:TO w B P v) {R:Nat} {cs:Array Value} (hr:Rw 31 w R cs) (o:Off R w w'):TO w' B P v:=by
 obtain ⟨f,c,n,k,c',n',k',va,vc,ra,rc,E,F,e,g,s1,h1,s2,h2⟩:=h
 have hw:=hr.noW (by decide)
 have ht:=hr.noT (by decide)
 have n1:=s1.neR hr (by decide)
 have n2:=s2.neR hr (by decide)
 exact ⟨f,c,n,k,c',n',k',va,vc,ra,rc,E,F,e,g.keep hw o.grown,s1.kept o.grown (fun g e e2=>n1 (e.trans e2.symm)),fun q hq=>(h1 q hq).keep hw o.grown,s2.kept o.grown (fun g e e2=>n2 (e.trans e2.symm)),fun q hq=>(h2 q hq).keep hw ht o.grown⟩
def prA (T:Txt) (nm:ByteArray) (fk:Bool) (ck:Option Addr) (nk kk:Nat) (dk:Option Addr) (mk lk:Nat) (RV:Nat) (ra:Option Addr) (rc:Nat):Prob :=
 { mx:=T.mx,nm:=T.nm,p:=fk,a:=ck,na:=nk,ca:=kk,d:=dk,nd:=mk,cd:=lk,va:=some ⟨RV,0,none⟩,vn:=1,vc:=1,ra:=ra,rn:=2,rc:=rc,k:=0,V:=fun _=>vaA T nm,ZV:=fun _=>T.K+1000,R:=rwA T,ZR:=fun i=>T.ZC i+2,S:=1,K:=1+(1+(T.K+1000)+1)+(1+(T.ZC 0+2)+1+(T.ZC 1+2)+1)+T.nm.size }
theorem prA_pq {T:Txt} {nm:ByteArray} {fk:Bool} {ck:Option Addr} {nk kk:Nat} {dk:Option Addr} {mk lk:Nat} {RV:Nat} {ra:Option Addr} {rc:Nat} {w0 w:World} {B B2:Nat} {F:Nat→List Value} {f1:Bool} {c1:Option Addr} {n1 k1:Nat} {d1:Option Addr} {m1 l1:Nat} {f:Bool} {c:Option Addr} {n k:Nat} {c':Option Addr} {n' k':Nat}
  (hsz:nm.size≤1000) (hb:Below w0.heap.size w0 w) (GK:GR w B2 fk ck nk kk dk mk lk 0 1) (RVr:Rw 51 w RV #[.string nm,.bool f1,.slice c1 n1 k1,.slice d1 m1 l1,.bool true,.bool f,.slice c n k,.slice c' n' k',.bool false,.bool false,.slice none 0 0,.slice none 0 0,.bool false]) (G1:GR w B2 f1 c1 n1 k1 d1 m1 l1 (gsum (fun i=>⟨0,(T.I i).coef⟩) T.n 0) T.K) (G2:GR w B2 f c n k c' n' k' 0 1)
  (hS:SL w B 54 10 (.slice ra 2 rc) 2 F) (hF:∀ i,i<2→RF w0 w B (F i) (rwA T i) (T.ZC i+2)):PQ w (prA T nm fk ck nk kk dk mk lk RV ra rc):=by
 have e1:=G1.le (show T.K≤T.K+1000 by omega)
 have e2:=G2.le (show 1≤T.K+1000 by omega)
 have e3:=(tr_zero w).up (show 1≤T.K+1000 by omega)
 refine ⟨GK.tr,Nat.le_refl _,sz_zero (Nat.le_refl _),.inr ⟨RV,0,rfl,fun i hi=>?_⟩,?_,Nat.le_refl _,Nat.le_refl _,?_⟩
 ·obtain rfl:i=0:=by have:i<1:=hi;omega
  exact ⟨RVr.cell 0,⟨f1,c1,n1,k1,d1,m1,l1,RVr.cell 1,RVr.cell 2,RVr.cell 3,e1.tr⟩,RVr.cell 4,⟨f,c,n,k,c',n',k',RVr.cell 5,RVr.cell 6,RVr.cell 7,e2.tr⟩,RVr.cell 8,⟨false,none,0,0,none,0,0,RVr.cell 9,RVr.cell 10,RVr.cell 11,e3⟩,RVr.cell 12,by show 1≤T.K+1000;omega,e1.tr.sz (by omega),e2.tr.sz (by omega),e3.sz (by omega),by show nm.size≤T.K+1000;omega⟩
 ·refine lw_of hS hF hb (fun i hi k hk=>⟨by show -9223372036854775808≤(0:Int);omega,by show (0:Int)≤9223372036854775807;omega⟩) (fun i hi=>?_)
  obtain ⟨ta,tc,E,Z,p2,a2,n2,k2,d2,m2,l2,p3,a3,n3,k3,d3,m3,l3,e1,s1,s2,s3,s4,s5,s6⟩:=hF i hi
  refine ⟨by show 1≤T.ZC i+2;omega,?_,s5.tr.sz (by omega),s6.tr.sz (by omega),Nat.le_succ_of_le (Nat.le_succ _)⟩
  show (rwA T i).nm.size≤T.ZC i+2
  have:(rwA T i).nm.size=2:=by unfold rwA;dsimp only;split <;> rfl
  omega
 ·obtain ⟨a',cap',e,hc⟩:=hS.form
  simp only [Value.slice.injEq] at e
  show 2≤rc
  omega
theorem bldI:(Tryz.prog.info? 31).map (·.size)=some 7:=by kernel_rfl
set_option maxRecDepth 100000 in
set_option maxHeartbeats 16000000 in
theorem buildA (T:Txt) (nm:ByteArray) (w:World) (hT:TX w T) (hA:Awk T nm) (hTB:TB w) :
  Calls Tryz.prog 7 #[T.val] w fun e w'=>∃ v P,e = .returned (.tuple #[v,.nilIface])∧TO w' w.heap.size P v∧P.vn=1∧P.rn=2∧P.R=rwA T∧P.V 0=vaA T nm∧Below w.heap.size w w':=by
 have hTK:T.K≤1048576:=by have:=hA.K;omega
 obtain ⟨hk1,hk2,hk3⟩:=hA.taken
 have X0:=Rw.new 43 w #[.bool T.mx,.string T.nm,.slice T.ia T.n T.ic,.slice T.ca T.cn T.cc,.slice T.la T.ln T.lc,.slice T.wa T.wn T.wc,.slice none 0 0]
 have hb0:=bel_d0 w (.cells #[.bool T.mx,.string T.nm,.slice T.ia T.n T.ic,.slice T.ca T.cn T.cc,.slice T.la T.ln T.lc,.slice T.wa T.wn T.wc,.slice none 0 0] 43)
 have es:(w.alloc (.cells #[.bool T.mx,.string T.nm,.slice T.ia T.n T.ic,.slice T.ca T.cn T.cc,.slice T.la T.ln T.lc,.slice T.wa T.wn T.wc,.slice none 0 0] 43)).heap.size=w.heap.size+1:=by simp
 have R0:=Rw.new 31 (w.alloc (.cells #[.bool T.mx,.string T.nm,.slice T.ia T.n T.ic,.slice T.ca T.cn T.cc,.slice T.la T.ln T.lc,.slice T.wa T.wn T.wc,.slice none 0 0] 43)) #[.bool false,.string ⟨#[]⟩,.bool false,.slice none 0 0,.slice none 0 0,.slice none 0 0,.slice none 0 0]
 rw [es] at R0
 have hb1:=bel_tr hb0 (bel_d0 (w.alloc (.cells #[.bool T.mx,.string T.nm,.slice T.ia T.n T.ic,.slice T.ca T.cn T.cc,.slice T.la T.ln T.lc,.slice T.wa T.wn T.wc,.slice none 0 0] 43)) (.cells #[.bool false,.string ⟨#[]⟩,.bool false,.slice none 0 0,.slice none 0 0,.slice none 0 0,.slice none 0 0] 31))
 replace X0:=X0.below (bel_d0 (w.alloc (.cells #[.bool T.mx,.string T.nm,.slice T.ia T.n T.ic,.slice T.ca T.cn T.cc,.slice T.la T.ln T.lc,.slice T.wa T.wn T.wc,.slice none 0 0] 43)) (.cells #[.bool false,.string ⟨#[]⟩,.bool false,.slice none 0 0,.slice none 0 0,.slice none 0 0,.slice none 0 0] 31))
 have y0:=(X0.cell 0).trans (show _=some (.bool T.mx) from rfl)
 have y1:=(X0.cell 1).trans (show _=some (.string T.nm) from rfl)
 have y2:=(X0.cell 2).trans (show _=some (.slice T.ia T.n T.ic) from rfl)
 have y3:=(X0.cell 3).trans (show _=some (.slice T.ca T.cn T.cc) from rfl)
 have y4:=(X0.cell 4).trans (show _=some (.slice T.la T.ln T.lc) from rfl)
 have y5:=(X0.cell 5).trans (show _=some (.slice T.wa T.wn T.wc) from rfl)
 have y6:=(X0.cell 6).trans (show _=some (.slice none 0 0) from rfl)
 unfold Txt.val
 go_enter Tryz.func7,Tryz.ntmps7
 go_wp2_with fail
 clear es hb0
 generalize (w.alloc (.cells #[.bool T.mx,.string T.nm,.slice T.ia T.n T.ic,.slice T.ca T.cn T.cc,.slice T.la T.ln T.lc,.slice T.wa T.wn T.wc,.slice none 0 0] 43)).alloc (.cells #[.bool false,.string ⟨#[]⟩,.bool false,.slice none 0 0,.slice none 0 0,.slice none 0 0,.slice none 0 0] 31)=W at *
 refine (takenQ T W (hT.below hb1) (by omega) hk1).mono ?_
 rintro e w2 ⟨b2,D2,rfl,ho2,hb2,hH2,hV2,hB2⟩
 have X2:=X0.below hB2
 replace y0:=kept_c hB2 y0
 replace y1:=kept_c hB2 y1
 replace y2:=kept_c hB2 y2
 replace y3:=kept_c hB2 y3
 replace y4:=kept_c hB2 y4
 replace y5:=kept_c hB2 y5
 replace y6:=kept_c hB2 y6
 have hbw2:=bel_tr hb1 hB2
 go_wp2_with fail
 refine (placesQ T w2 (hT.below hbw2) (by omega)).mono ?_
 rintro e w3 ⟨p,q,b,D,nv,rfl,hPl,hqv,hB3⟩
 have X3:=X2.below hB3
 have hbw3:=bel_tr hbw2 hB3
 rw [hA.all] at hPl
 obtain ⟨v',E',hq',hS',_⟩:=hPl.nm
 obtain ⟨na,nc,rfl,_⟩:=hS'.form
 have env:nv = .slice na 1 nc:=by
  unfold Rw at hq' hqv
  rw [hqv] at hq'
  simpa using hq'
 subst env
 clear hS' hq'
 have HA:Hid (Awk T nm):=hA
 have R3:=(R0.below hB2).below hB3
 have ho3:=own_below ho2 hB3
 have h22:Maps.has D2 (kS ⟨#[82,50]⟩)=true:=(hH2 _).2 hk2
 have h23:Maps.has D2 (kS ⟨#[82,51]⟩)=false:=by
  cases e:Maps.has D2 (kS ⟨#[82,51]⟩)
  ·rfl
  ·exact absurd ((hH2 _).1 e) hk3
 have hs1:=hb1.size
 have hsw:=hB2.size
 have hsw3:=hB3.size
 have hl0:=R0.lt
 have hbs0:w.heap.size+2≤W.heap.size:=by omega
 clear hk1 hk2 hk3 hH2 y0 y1 y2 y3 y4 y5 y6 X0 R0 X2 ho2 hA
 go_wp2_with fail
 have NB:BoxC w3 w.heap.size (#[.bool T.mx,.string T.nm,.slice T.ia T.n T.ic,.slice T.ca T.cn T.cc,.slice T.la T.ln T.lc,.slice T.wa T.wn T.wc,.slice none 0 0]).toList:=fun i u hu=>(X3.cell i).trans (by simpa using hu)
 refine wp_region_noPanic (wp_region_guard (Till 20 20 (fun w'=>BoxC w' w.heap.size (#[.bool T.mx,.string T.nm,.slice T.ia T.n T.ic,.slice T.ca T.cn T.cc,.slice T.la T.ln T.lc,.slice T.wa T.wn T.wc,.slice none 0 0]).toList) (fun _=>True)) (by kernel_rfl) ?_)
 refine wpAnyG.take 0 (v:=.pointer (some ⟨w.heap.size,0,none⟩)) (by decide) (by kernel_rfl) (fun _ _ _ h=>h) 20 _ (by rfl) (till_ind (by decide) (by decide)) (fun L w' h1 h2=>h2.1 h1) (by kernel_rfl) (by kernel_rfl) (by kernel_rfl) (by rfl) ?y0 ⟨fun _=>NB,fun _=>trivial⟩ (by rfl) ?_
 case y0 =>
  rintro w' hB5
  skip
  simp only [lgA,lgZ]
  go_simp
 simp only [lgA,lgZ,Act.put,lsA,lsZ,lsS]
 refine wpAnyG.take 1 (v:=.bool T.mx) (by decide) (by kernel_rfl) (fun _ _ _ h=>h) 20 _ (by rfl) (till_ind (by decide) (by decide)) (fun L w' h1 h2=>h2.1 h1) (by kernel_rfl) (by kernel_rfl) (by kernel_rfl) (by rfl) ?y1 ⟨fun _=>NB,fun _=>trivial⟩ (by rfl) ?_
 case y1 =>
  rintro w' hB5
  have qhB50:=hB5 0 _ rfl
  simp only [lgA,lgZ,lgS]
  go_simp
 simp only [lgA,lgZ,lgS,Act.put,lsA,lsZ,lsS]
 refine wpAnyG.take 2 (v:=.pointer (some ⟨w.heap.size,1,none⟩)) (by decide) (by kernel_rfl) (fun _ _ _ h=>h) 20 _ (by rfl) (till_ind (by decide) (by decide)) (fun L w' h1 h2=>h2.1 h1) (by kernel_rfl) (by kernel_rfl) (by kernel_rfl) (by rfl) ?y2 ⟨fun _=>NB,fun _=>trivial⟩ (by rfl) ?_
 case y2 =>
  rintro w' hB5
  skip
  simp only [lgA,lgZ,lgS]
  go_simp
 simp only [lgA,lgZ,lgS,Act.put,lsA,lsZ,lsS]
 refine wpAnyG.take 3 (v:=.string T.nm) (by decide) (by kernel_rfl) (fun _ _ _ h=>h) 20 _ (by rfl) (till_ind (by decide) (by decide)) (fun L w' h1 h2=>h2.1 h1) (by kernel_rfl) (by kernel_rfl) (by kernel_rfl) (by rfl) ?y3 ⟨fun _=>NB,fun _=>trivial⟩ (by rfl) ?_
 case y3 =>
  rintro w' hB5
  have qhB51:=hB5 1 _ rfl
  simp only [lgA,lgZ,lgS]
  go_simp
 simp only [lgA,lgZ,lgS,Act.put,lsA,lsZ,lsS]
 refine wpAnyG.take 4 (v:=.pointer (some ⟨w.heap.size,2,none⟩)) (by decide) (by kernel_rfl) (fun _ _ _ h=>h) 20 _ (by rfl) (till_ind (by decide) (by decide)) (fun L w' h1 h2=>h2.1 h1) (by kernel_rfl) (by kernel_rfl) (by kernel_rfl) (by rfl) ?y4 ⟨fun _=>NB,fun _=>trivial⟩ (by rfl) ?_
 case y4 =>
  rintro w' hB5
  skip
  simp only [lgA,lgZ,lgS]
  go_simp
 simp only [lgA,lgZ,lgS,Act.put,lsA,lsZ,lsS]
 refine wpAnyG.take 5 (v:=.slice T.ia T.n T.ic) (by decide) (by kernel_rfl) (fun _ _ _ h=>h) 20 _ (by rfl) (till_ind (by decide) (by decide)) (fun L w' h1 h2=>h2.1 h1) (by kernel_rfl) (by kernel_rfl) (by kernel_rfl) (by rfl) ?y5 ⟨fun _=>NB,fun _=>trivial⟩ (by rfl) ?_
 case y5 =>
  rintro w' hB5
  have qhB52:=hB5 2 _ rfl
  simp only [lgA,lgZ,lgS]
  go_simp
 simp only [lgA,lgZ,lgS,Act.put,lsA,lsZ,lsS]
 refine wpAnyG.take 7 (v:=.agg #[.bool T.mx,.string T.nm,.slice T.ia T.n T.ic,.slice T.ca T.cn T.cc,.slice T.la T.ln T.lc,.slice T.wa T.wn T.wc,.slice none 0 0]) (by decide) (by kernel_rfl) (fun _ _ _ h=>h) 20 _ (by rfl) (till_ind (by decide) (by decide)) (fun L w' h1 h2=>h2.1 h1) (by kernel_rfl) (by kernel_rfl) (by kernel_rfl) (by rfl) ?y7 ⟨fun _=>NB,fun _=>trivial⟩ (by rfl) ?_
 case y7 =>
  rintro w' hB5
  have qhB50:=hB5 0 _ rfl;have qhB51:=hB5 1 _ rfl;have qhB52:=hB5 2 _ rfl;have qhB53:=hB5 3 _ rfl;have qhB54:=hB5 4 _ rfl;have qhB55:=hB5 5 _ rfl;have qhB56:=hB5 6 _ rfl
  simp only [lgA,lgZ,lgS]
  go_simp
 simp only [lgA,lgZ,lgS,Act.put,lsA,lsZ,lsS]
 refine wpAnyG.take 8 (v:=.map (some b)) (by decide) (by kernel_rfl) (fun _ _ _ h=>h) 20 _ (by rfl) (till_ind (by decide) (by decide)) (fun L w' h1 h2=>h2.1 h1) (by kernel_rfl) (by kernel_rfl) (by kernel_rfl) (by rfl) ?y8 ⟨fun _=>NB,fun _=>trivial⟩ (by rfl) ?_
 case y8 =>
  rintro w' hB5
  skip
  simp only [lgA,lgZ,lgS]
  go_simp
 simp only [lgA,lgZ,lgS,Act.put,lsA,lsZ,lsS]
 refine wpAnyG.take 9 (v:=.slice na 1 nc) (by decide) (by kernel_rfl) (fun _ _ _ h=>h) 20 _ (by rfl) (till_ind (by decide) (by decide)) (fun L w' h1 h2=>h2.1 h1) (by kernel_rfl) (by kernel_rfl) (by kernel_rfl) (by rfl) ?y9 ⟨fun _=>NB,fun _=>trivial⟩ (by rfl) ?_
 case y9 =>
  rintro w' hB5
  skip
  simp only [lgA,lgZ,lgS]
  go_simp
 simp only [lgA,lgZ,lgS,Act.put,lsA,lsZ,lsS]
 refine wpAnyG.take 11 (v:=.pointer (some ⟨w.heap.size,3,none⟩)) (by decide) (by kernel_rfl) (fun _ _ _ h=>h) 20 _ (by rfl) (till_ind (by decide) (by decide)) (fun L w' h1 h2=>h2.1 h1) (by kernel_rfl) (by kernel_rfl) (by kernel_rfl) (by rfl) ?y11 ⟨fun _=>NB,fun _=>trivial⟩ (by rfl) ?_
 case y11 =>
  rintro w' hB5
  skip
  simp only [lgA,lgZ,lgS]
  go_simp
 simp only [lgA,lgZ,lgS,Act.put,lsA,lsZ,lsS]
 refine wpAnyG.take 12 (v:=.slice T.ca T.cn T.cc) (by decide) (by kernel_rfl) (fun _ _ _ h=>h) 20 _ (by rfl) (till_ind (by decide) (by decide)) (fun L w' h1 h2=>h2.1 h1) (by kernel_rfl) (by kernel_rfl) (by kernel_rfl) (by rfl) ?y12 ⟨fun _=>NB,fun _=>trivial⟩ (by rfl) ?_
 case y12 =>
  rintro w' hB5
  have qhB53:=hB5 3 _ rfl
  simp only [lgA,lgZ,lgS]
  go_simp
 simp only [lgA,lgZ,lgS,Act.put,lsA,lsZ,lsS]
 refine wpAnyG.take 13 (v:=.map (some b)) (by decide) (by kernel_rfl) (fun _ _ _ h=>h) 20 _ (by rfl) (till_ind (by decide) (by decide)) (fun L w' h1 h2=>h2.1 h1) (by kernel_rfl) (by kernel_rfl) (by kernel_rfl) (by rfl) ?y13 ⟨fun _=>NB,fun _=>trivial⟩ (by rfl) ?_
 case y13 =>
  rintro w' hB5
  skip
  simp only [lgA,lgZ,lgS]
  go_simp
 simp only [lgA,lgZ,lgS,Act.put,lsA,lsZ,lsS]
 refine wpAnyG.take 14 (v:=.map (some b2)) (by decide) (by kernel_rfl) (fun _ _ _ h=>h) 20 _ (by rfl) (till_ind (by decide) (by decide)) (fun L w' h1 h2=>h2.1 h1) (by kernel_rfl) (by kernel_rfl) (by kernel_rfl) (by rfl) ?y14 ⟨fun _=>NB,fun _=>trivial⟩ (by rfl) ?_
 case y14 =>
  rintro w' hB5
  skip
  simp only [lgA,lgZ,lgS]
  go_simp
 simp only [lgA,lgZ,lgS,Act.put,lsA,lsZ,lsS]
 refine wpAnyG.one 6 (by kernel_rfl) (by decide) (by rfl) (fun K hK=>?_)
 simp only [lgA,lgZ,lgS]
 go_simp
 refine (constantA (hT.i.below (bel_tr hbw3 (bel_d1 _))) (by have:=hT.all;have:=tot_len T.ZI T.n;omega) (fun i hi=>by rw [HA.out.I i hi];exact HA.out.ne) (hTB.below (bel_tr hbw3 (bel_d1 _)))).mono ?_
 rintro e v1 ⟨fk,ck,nk,kk,dk,mk,lk,rfl,GK,hk1⟩
 have hc1:Below w3.heap.size w3 v1:=bel_tr (bel_d1 _) hk1
 have hm1:=hc1.size
 dsimp only
 refine hK _ _ ⟨fun _=>NB.below hc1,fun _=>trivial⟩ ?_
 clear hK K
 refine wpAnyG.one 10 (by kernel_rfl) (by decide) (by rfl) (fun K hK=>?_)
 simp only [lgA,lgZ,lgS]
 go_simp
 refine (variablesA T (hT.below (bel_tr hbw3 hc1)) HA.out.nl hTK (hPl.below hc1) (hqv.below hc1) (by have:=HA.out.sz;omega) HA.out.I HA.out.g (hTB.below (bel_tr hbw3 hc1))).mono ?_
 rintro e v2 ⟨RV,f1,c1,n1,k1,d1,m1,l1,f,c,n,k,c',n',k',rfl,RVr,G1,G2,hk2⟩
 have hc2:Below w3.heap.size w3 v2:=bel_tr hc1 hk2
 have hm2:=hc2.size
 dsimp only
 refine hK _ _ ⟨fun _=>NB.below hc2,fun _=>trivial⟩ ?_
 clear hK K
 refine wpAnyG.one 15 (by kernel_rfl) (by decide) (by rfl) (fun K hK=>?_)
 simp only [lgA,lgZ,lgS]
 go_simp
 refine (namerQ b2 v2).mono ?_
 rintro e v3 ⟨rfl,RY,RX,hk3⟩
 have hc3:Below w3.heap.size w3 v3:=bel_tr hc2 hk3
 have hm3:=hk3.size
 have hlX:=RX.lt
 dsimp only
 refine hK _ _ ⟨fun _=>NB.below hc3,fun _=>trivial⟩ ?_
 clear hK K
 refine wpAnyG.one 16 (by kernel_rfl) (by decide) (by rfl) (fun K hK=>?_)
 simp only [lgA,lgZ,lgS]
 go_simp
 have HBX:∀ w',Below (v2.heap.size+1) v3 w'→Below w3.heap.size w3 w':=fun w' h=>hc3.trans (h.mono (by omega))
 refine (rowsA T (X:=v2.heap.size+1) (Y:=v2.heap.size) HA.out.cn hTK (w0:=w) hT (bel_tr hbw3 hc3) (by omega) (fun w' h=>hPl.below (HBX w' h)) (fun w' h=>hTB.below (bel_tr hbw3 (HBX w' h))) HA.out.C HA.out.ne (by have:=HA.out.sz;omega) HA.out.n0 HA.out.n1 RX (fun w' h=>(h.block v2.heap.size (by omega)).trans RY) (fun w' h=>own_below ho3 (HBX w' h)) h22 h23 hV2).mono ?_
 rintro e v4 ⟨ra,rc,F,rfl,hSR,hFR,hN4⟩
 have hb34:Below (v2.heap.size+1) v3 v4:=hN4.below (Nat.le_refl _) (by omega)
 have hc4:Below w3.heap.size w3 v4:=HBX v4 hb34
 have hm4:=hN4.size
 dsimp only
 refine hK _ _ ⟨fun _=>NB.below hc4,fun _=>trivial⟩ ?_
 clear hK K
 refine wpAnyG.one 17 (by kernel_rfl) (by decide) (by rfl) (fun K hK=>?_)
 simp only [lgA,lgZ,lgS]
 go_simp
 refine hK _ _ ⟨fun _=>NB.below hc4,fun _=>trivial⟩ ?_
 clear hK K
 refine wpAnyG.one 18 (by kernel_rfl) (by decide) (by rfl) (fun K hK=>?_)
 simp only [lgA,lgZ,lgS]
 go_simp
 have hnX:=RX.noW (by decide)
 have GK4:=((GK.mono (show w.heap.size≤_ by have:=hbw3.size;show w.heap.size≤w3.heap.size;omega)).below (bel_tr hk2 hk3)).keep hnX hN4.grow
 have hRV:=RVr.lt
 have RV4:=hN4.rw (RVr.below hk3) (by omega)
 have hsv1:w.heap.size≤v1.heap.size:=by have:=hbw3.size;omega
 have G14:=((G1.mono hsv1).below hk3).keep hnX hN4.grow
 have G24:=((G2.mono hsv1).below hk3).keep hnX hN4.grow
 have hbw4:=bel_tr hbw3 hc4
 have hPQ:=prA_pq (nm:=nm) HA.out.sz hbw4 GK4 RV4 G14 G24 hSR hFR
 have hZ:T.ZC 0+T.ZC 1≤T.K:=by
  have h1:=hT.all
  have h2:tot T.ZC T.cn=1+T.ZC 0+1+T.ZC 1+1:=by rw [HA.out.cn];rfl
  omega
 have hKP:1+(1+(T.K+1000)+1)+(1+(T.ZC 0+2)+1+(T.ZC 1+2)+1)+T.nm.size≤1048576:=by
  have h1:=HA.out.K
  have h2:T.nm.size=0:=by rw [HA.out.e];rfl
  omega
 have HTD:=tidyQ (prA T nm fk ck nk kk dk mk lk RV ra rc) v4 hPQ hKP (hTB.below hbw4)
 refine HTD.mono ?_
 rintro e v5 ⟨tv,rfl,hTO,hk5⟩
 have hc5:Below w3.heap.size w3 v5:=bel_tr hc4 hk5
 have hsv4:w.heap.size≤v4.heap.size:=hbw4.size
 have hTO5:=hTO.mono hsv4
 obtain ⟨tf,tc,tn,tk,tc',tn',tk',tva,tvc,tra,trc,tE,tF,rfl,_⟩:=id hTO5
 have R5:=R3.below hc5
 have y0:=(R5.cell 0).trans (show _=some (.bool false) from rfl)
 have z0:=R5.frozen 0
 have y1:=(R5.cell 1).trans (show _=some (.string ⟨#[]⟩) from rfl)
 have z1:=R5.frozen 1
 have y2:=(R5.cell 2).trans (show _=some (.bool false) from rfl)
 have z2:=R5.frozen 2
 have y3:=(R5.cell 3).trans (show _=some (.slice none 0 0) from rfl)
 have z3:=R5.frozen 3
 have y4:=(R5.cell 4).trans (show _=some (.slice none 0 0) from rfl)
 have z4:=R5.frozen 4
 have y5:=(R5.cell 5).trans (show _=some (.slice none 0 0) from rfl)
 have z5:=R5.frozen 5
 have y6:=(R5.cell 6).trans (show _=some (.slice none 0 0) from rfl)
 have z6:=R5.frozen 6
 clear HTD hPQ GK4 RV4 G14 G24 hnX hTO
 dsimp only
 refine hK _ _ ⟨fun _=>NB.below hc5,fun _=>trivial⟩ ?_
 clear hK K
 refine wpAnyG.one 19 (by kernel_rfl) (by decide) (by rfl) (fun K hK=>?_)
 simp only [lgA,lgZ,lgS]
 go_simp
 obtain ⟨R6,O6⟩:=R5.set7 (.bool T.mx) (.string T.nm) (.bool tf) (.slice tc tn tk) (.slice tc' tn' tk') (.slice tva 1 tvc) (.slice tra 2 trc)
 refine hK _ _ ⟨fun _=>fun a u hu=>(O6.cell (by show w.heap.size≠w.heap.size+1;omega)).trans (NB.below hc5 a u hu),fun _=>trivial⟩ ?_
 clear hK K
 refine wpAnyG.one 20 (by kernel_rfl) (by decide) (by rfl) (fun K hK=>?_)
 simp only [lgA,lgZ,lgS]
 go_simp
 refine hK _ _ ⟨fun h=>absurd h (by decide),fun _=>trivial⟩ ?_
 clear hK K
 refine wpAnyG.done (by kernel_rfl) (NoPanic.normal ?_)
 have hTO6:=hTO5.off R5 O6
 have hbw6:=(bel_tr hbw3 hc5).trans (O6.below (Nat.le_succ w.heap.size))
 clear hTO5 R5 O6 NB
 go_wp2
 exact bodyPost_ret (R6.ret2 Tryz.results7 _ rfl Tryz.underlying31 bldI) rfl ⟨_,_,rfl,hTO6,rfl,rfl,rfl,rfl,hbw6⟩
end Go.Proofs.YtceigfafmalfgaaGreatDoor

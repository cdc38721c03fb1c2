import Derived.Test.YtceigfafmalfgaaGreatDoorPrCAll
import Derived.Test.YtceigfafmalfgaaGreatDoorRwAAll
import Derived.Deep.RegionWith
namespace Go.Proofs.YtceigfafmalfgaaGreatDoor
open Go.RowKit Go.Maps
def TC (w:World) (B:Nat) (cs:List Value) (t:PT) (Y:Nat):Prop:=∃ p a na ca d nd cd,cs=[.int .i64 t.var,.bool p,.slice a na ca,.slice d nd cd]∧GR w B p a na ca d nd cd t.coef Y
theorem TC.below {w w':World} {B:Nat} {cs:List Value} {t:PT} {Y:Nat} (h:TC w B cs t Y) (hb:Below w.heap.size w w'):TC w' B cs t Y:=by
 obtain ⟨p,a,na,ca,d,nd,cd,e,g⟩:=h
 exact ⟨p,a,na,ca,d,nd,cd,e,g.below hb⟩
theorem TC.mono {w:World} {B B':Nat} {cs:List Value} {t:PT} {Y:Nat} (h:TC w B cs t Y) (hB:B'≤B):TC w B' cs t Y:=by
 obtain ⟨p,a,na,ca,d,nd,cd,e,g⟩:=h
 exact ⟨p,a,na,ca,d,nd,cd,e,g.mono hB⟩
def TL (w:World) (B:Nat) (v:Value) (m:Nat) (u:Nat→PT) (Y:Nat→Nat):Prop:=∃ E,SL w B 56 4 v m E∧∀ i,i<m→TC w B (E i) (u i) (Y i)
theorem TLA.tl {w:World} {a b:Nat} {v:Value} {m:Nat} {u:Nat→PT} {Yf:Int→Nat} (h:TLA w a b v m u Yf):TL w a v m u (fun i=>Yf (u i).var):=by
 obtain ⟨E,h1,⟨lo,h2,h3,_⟩,_⟩:=h
 refine ⟨E,h1,fun i hi=>?_⟩
 obtain ⟨l,e,p,a',na,ca,d,nd,cd,e2,g,_⟩:=(h2 i hi).2
 have L0:=RA.le0 (fun i hi=>(h2 i hi).1) i (by omega) 0 (Nat.zero_le _)
 exact ⟨p,a',na,ca,d,nd,cd,by rw [e,e2],g.mono (by omega)⟩
theorem LT.get {w:World} {a:Option Addr} {n:Nat} {t:Nat→PT} {Z:Nat→Nat} (h:LT w a n t Z):∀ q,q<n→SzR (t q).coef (Z q)∧1≤Z q:=by
 intro q hq
 rcases h with h|⟨b,o,_,h⟩
 ·omega
 ·exact ⟨(h q hq).2.2.2.1,(h q hq).2.2.1⟩
theorem tot_two {Z:Nat→Nat} {n:Nat} (h:∀ q,q<n→1≤Z q):2*n+1≤tot Z n:=by
 induction n with
 | zero=>exact Nat.le_refl _
 | succ n ih=>have:=ih (fun q hq=>h q (by omega));have:=h n (by omega);show 2*(n+1)+1≤tot Z n+Z n+1;omega
theorem GMap.look' {w:World} {B b:Nat} {t:Nat→PT} {Z:Nat→Nat} {n k S:Nat} {D:DataW Value} {V:Int→Value} (h:GMap w B b t Z n k S D V) {j:Nat} (hj:j≤9223372036854775807) {v:Value} (hv:V (j:Int)=v) :
  ∀ w',Below w.heap.size w w'→(Instr.lookup 108 (.map (some b)) (.int .i64 (j:Int)) false).run Tryz.prog w' = .ok v w':=by
 intro w' hb
 rw [← hv]
 exact (h.below hb).look (by omega) (by omega)
set_option maxRecDepth 100000 in
set_option maxHeartbeats 8000000 in
theorem gatherQA (a:Option Addr) (nt cap:Nat) (t:Nat→PT) (Z:Nat→Nat) (n:Nat) (w:World) (hL:LT w a nt t Z) (hK:tot Z nt≤2200000) (hn:n≤1048576) (hT:TB w) :
  Calls Tryz.prog 24 #[.slice a nt cap,.int .i64 (n:Int)] w fun e w'=>∃ v m u,e = .returned v∧Gath t nt n u m∧TLA w' w.heap.size w'.heap.size v m u (fun x=>zs t Z x nt-1)∧Below w.heap.size w w':=by
 have hnt:nt≤1100000:=by have:=tot_two (fun q hq=>(hL.get q hq).2);omega
 have hZ:∀ q,q<nt→Z q≤2200000:=fun q hq=>by have:=tot_le (Z:=Z) hq;omega
 have HZ:Hid (∀ q,q<nt→Z q≤2200000):=hZ
 clear hZ
 have G0:=GMap.start w t Z n 2200000
 have hb0:=bel_d0 w (.map #[] 0)
 have hmm:=@run_makeMap Tryz.prog
 go_enter Tryz.func24,Tryz.ntmps24
 go_wp2
 go_loopw [15] (fun s15 wr=>∃ (k:Nat) (D:DataW Value) (V:Int→Value),k≤nt∧s15 = .int .i64 k∧GMap wr w.heap.size w.heap.size t Z n k 2200000 D V∧Below w.heap.size w wr) (fun s15 _=>nt-(intOf s15).toNat)
 case atStart=>exact ⟨0,_,_,Nat.zero_le _,rfl,G0,hb0⟩
 case round =>
  clear G0 hb0
  obtain ⟨k,D,V,hk,rfl,G,hbel⟩:=hrel
  clear hmm
  by_cases hlt:k<nt
  ·have hkI:(k:Int)<(nt:Int):=by omega
   have hkI2:(k:Int)*4=((k*4:Nat):Int):=by omega
   rcases hL with h0|⟨tb,to,rfl,hel⟩
   ·omega
   have hTm:=hel k hlt
   obtain ⟨v,ev⟩:∃ v,v=(t k).var:=⟨_,rfl⟩
   obtain ⟨t0,⟨pC,aC,nC,cC,dC,mC,lC,t1,t2,t3,hC⟩,hsC,hszC,hv1,hv2⟩:=hTm
   rw [← ev] at t0 hv1 hv2
   have EV:Hid (v=(t k).var):=ev
   have HC:Hid (TR w pC aC nC cC dC mC lC (t k).coef (Z k)):=hC
   replace t0:=kept_c hbel t0
   replace t1:=kept_c hbel t1
   replace t2:=kept_c hbel t2
   replace t3:=kept_c hbel t3
   clear hel ev hC
   have hz:=bel_d0 wr (.cells #[.int .i64 v,.bool pC,.slice aC nC cC,.slice dC mC lC] 56)
   by_cases hv:0≤v∧v<(n:Int)
   ·obtain ⟨hv0,hvn⟩:=hv
    obtain ⟨j,rfl⟩:=Int.eq_ofNat_of_zero_le hv0
    have N:=box_new wr #[.int .i64 (j:Int),.bool pC,.slice aC nC cC,.slice dC mC lC] 56
    have hsz3:(wr.alloc (.cells #[.int .i64 (j:Int),.bool pC,.slice aC nC cC,.slice dC mC lC] 56)).heap.size=wr.heap.size+1:=by simp
    obtain ⟨o2,k2,eV⟩:=(G.ml (j:Int)).form
    obtain ⟨c,ec⟩:∃ c,c=(pn t Z n (j:Int) k).length:=⟨_,rfl⟩
    rw [← ec] at eV
    have EC:Hid (c=(pn t Z n (j:Int) k).length):=ec
    clear ec
    have hrow:∀ g,(Value.slice o2 c k2).ownBlock=some g→g<wr.heap.size:=fun g hg=>((G.ml (j:Int)).lt g (by rw [eV];exact hg)).2
    have hbw:w.heap.size<wr.heap.size:=G.own.lt
    have hck:c≤1100000:=by have:=pn_len t Z n (j:Int) k;have:=EC.out;omega
    go_wp2_with fail
    have G3:=G.below hz
    have hbel3:=bel_tr hbel hz
    have n0:=N 0 _ rfl
    have n1:=N 1 _ rfl
    have n2:=N 2 _ rfl
    have n3:=N 3 _ rfl
    clear t0 t1 t2 t3 hz N G hbel
    generalize wr.alloc (.cells #[.int .i64 (j:Int),.bool pC,.slice aC nC cC,.slice dC mC lC] 56)=W3 at *
    have LK:=G3.look' (by omega) eV
    have MK:∀ w',Below W3.heap.size W3 w'→ML w' w.heap.size (.slice o2 c k2) c (lX (pn t Z n (j:Int) k)) 2200000:=fun w' hb=>by
     have h:=(G3.below hb).ml (j:Int)
     rw [eV,← EC.out] at h
     exact h
    have OK:∀ V' w',Below W3.heap.size W3 V'→V'.grownBy w' (Value.slice o2 c k2).ownBlock→w'.ownsMap Tryz.prog 3 rawR w.heap.size k D:=fun V' w' hb hg=>by
     refine (G3.below hb).own.kept hg fun e=>?_
     obtain ⟨vs,r,_⟩:=MK V' hb
     rcases row_map r (G3.below hb).isMap with e3|e3
     ·rw [e3] at e;cases e
     ·exact e3 e.symm
    have HB:∀ w',Below W3.heap.size W3 w'→(w'.cell? ⟨wr.heap.size,0,none⟩=some (.int .i64 (j:Int))∧w'.cell? ⟨wr.heap.size,1,none⟩=some (.bool pC)∧w'.cell? ⟨wr.heap.size,2,none⟩=some (.slice aC nC cC)∧w'.cell? ⟨wr.heap.size,3,none⟩=some (.slice dC mC lC)):=fun w' h=>⟨kept_c h n0,kept_c h n1,kept_c h n2,kept_c h n3⟩
    have HG:∀ V w':World,(V.cell? ⟨wr.heap.size,0,none⟩=some (.int .i64 (j:Int))∧V.cell? ⟨wr.heap.size,1,none⟩=some (.bool pC)∧V.cell? ⟨wr.heap.size,2,none⟩=some (.slice aC nC cC)∧V.cell? ⟨wr.heap.size,3,none⟩=some (.slice dC mC lC))→V.grownBy w' (Value.slice o2 c k2).ownBlock→(w'.cell? ⟨wr.heap.size,0,none⟩=some (.int .i64 (j:Int))∧w'.cell? ⟨wr.heap.size,1,none⟩=some (.bool pC)∧w'.cell? ⟨wr.heap.size,2,none⟩=some (.slice aC nC cC)∧w'.cell? ⟨wr.heap.size,3,none⟩=some (.slice dC mC lC)) :=
     fun V w' h hg=>⟨keep_ne hg h.1 (fun e=>by have:=hrow _ e;simp at this),keep_ne hg h.2.1 (fun e=>by have:=hrow _ e;simp at this),keep_ne hg h.2.2.1 (fun e=>by have:=hrow _ e;simp at this),keep_ne hg h.2.2.2 (fun e=>by have:=hrow _ e;simp at this)⟩
    have HM:∀ V w':World,(V.cell? ⟨wr.heap.size,0,none⟩=some (.int .i64 (j:Int))∧V.cell? ⟨wr.heap.size,1,none⟩=some (.bool pC)∧V.cell? ⟨wr.heap.size,2,none⟩=some (.slice aC nC cC)∧V.cell? ⟨wr.heap.size,3,none⟩=some (.slice dC mC lC))→V.grownBy w' (some w.heap.size)→(w'.cell? ⟨wr.heap.size,0,none⟩=some (.int .i64 (j:Int))∧w'.cell? ⟨wr.heap.size,1,none⟩=some (.bool pC)∧w'.cell? ⟨wr.heap.size,2,none⟩=some (.slice aC nC cC)∧w'.cell? ⟨wr.heap.size,3,none⟩=some (.slice dC mC lC)) :=
     fun V w' h hg=>⟨keep_ne hg h.1 (fun e=>by simp at e;omega),keep_ne hg h.2.1 (fun e=>by simp at e;omega),keep_ne hg h.2.2.1 (fun e=>by simp at e;omega),keep_ne hg h.2.2.2 (fun e=>by simp at e;omega)⟩
    have hsC2:Z k≤2200000:=HZ.out k hlt
    have HEL:∀ w',Below W3.heap.size W3 w'→EL w' w.heap.size pC aC nC cC dC mC lC (t k).coef 2200000:=fun w' hb=>.inr fun w2 h2=>(HC.out.below ((bel_tr hbel3 hb).trans h2)).up hsC2
    have HBN:∀ V' w3 w4,Below W3.heap.size W3 V'→V'.grownBy w3 (Value.slice o2 c k2).ownBlock→w3.grownBy w4 (some w.heap.size)→Below w.heap.size w w4:=fun V' w3 w4 hb hg hg2=>by
     have h1:=hb.size
     have h2:=hg.size
     exact ((bel_tr hbel3 hb).trans (grown_below hg (by omega) (fun g e=>((MK V' hb).lt g e).1))).trans (grown_below hg2 (by omega) (fun g e=>by cases e;exact Nat.le_refl _))
    have LK1:=LK W3.drew (bel_d1 _)
    have LK2:=fun o=>LK (W3.drew.alloc o) (bel_d2 _ _)
    have LK3:=fun o=>LK (W3.alloc o).drew (bel_dr (bel_d0 _ _))
    clear LK
    have hBw:w.heap.size≤W3.heap.size:=by omega
    have HS3:Hid (W3.heap.size=wr.heap.size+1):=hsz3
    clear hsz3
    go_region_held3 (fun w'=>w'.cell? ⟨wr.heap.size,0,none⟩=some (.int .i64 (j:Int))∧w'.cell? ⟨wr.heap.size,1,none⟩=some (.bool pC)∧w'.cell? ⟨wr.heap.size,2,none⟩=some (.slice aC nC cC)∧w'.cell? ⟨wr.heap.size,3,none⟩=some (.slice dC mC lC))
     (first|(with_reducible refine HM _ _ (HG _ _ (HB _ ?_) hgrow) hgr2;repeat' (first|with_reducible exact Below.refl _ _|with_reducible refine bel_dr ?_|with_reducible refine bel_a ?_))|(with_reducible refine HG _ _ (HB _ ?_) hgrow;repeat' (first|with_reducible exact Below.refl _ _|with_reducible refine bel_dr ?_|with_reducible refine bel_a ?_))|(with_reducible refine HB _ ?_;repeat' (first|with_reducible exact Below.refl _ _|with_reducible refine bel_dr ?_|with_reducible refine bel_a ?_)))
     ((first
      | (refine step_appendM _ (by rfl) _ _ (by rfl) w.heap.size (.slice o2 c k2) c (lX (pn t Z n (j:Int) k)) 2200000 (by rfl) (MK _ (by first|exact bel_d2 _ _|exact bel_dr (bel_d0 _ _))) W3.heap.size _ (by rfl) pC aC nC cC dC mC lC _ (by first|exact cell_new3 (by rfl)|exact cell_new3 (w:=W3) (by rfl)) (HEL _ (by first|exact bel_d2 _ _|exact bel_dr (bel_d0 _ _))) (by omega) (by simp;omega) (W3.heap.size+1) (by simp) ?_;intro g cap1 w3 LN hgrow hat hlt1;obtain ⟨w4,hrun,ho,hgr2⟩:=(OK _ _ (by first|exact bel_d2 _ _|exact bel_dr (bel_d0 _ _)) hgrow).update (int_keyed Tryz.underlying3) Tryz.underlying108 (show k<maxLen by unfold maxLen;omega) (keyOf_int_mk Tryz.underlying3 (wf_i64 (x:=(j:Int)) (by omega) (by omega))) (val:=.slice (some ⟨g,0,none⟩) (c+1) cap1) (d:=.held (.slice (some ⟨g,0,none⟩) (c+1) cap1)) (ps:=[]) rfl;have GN:=GMap.step' EV.out (G3.below (by first|exact bel_d2 _ _|exact bel_dr (bel_d0 _ _))) ⟨hv0,hvn⟩ EC.out eV LN hgrow hat (by simp) ho hgr2;have BN:Below w.heap.size w w4:=HBN _ _ _ (by first|exact bel_d2 _ _|exact bel_dr (bel_d0 _ _)) hgrow hgr2)))
    all_goals
     clear LK1 LK2 LK3 hrun
     go_wp2
     go_roundw
     case rel=>first|exact ⟨k+1,_,_,by omega,by go_num,GN,BN⟩|((repeat apply Exists.intro);refine ⟨?_,rfl⟩;exact ⟨k+1,_,_,by omega,by go_num,GN,BN⟩)
     case measure=>simp [intOf];omega
   ·have G':=(G.below hz).skip (k:=k) (by rw [← EV.out];exact hv)
    have hbel':=bel_tr hbel hz
    clear hz G
    by_cases hv0:0≤v
    ·have hvn:¬ v<(n:Int):=fun h=>hv ⟨hv0,h⟩
     go_wp2
     go_roundw
     case rel=>first|exact ⟨k+1,_,_,by omega,by go_num,G',hbel'⟩|((repeat apply Exists.intro);refine ⟨?_,rfl⟩;exact ⟨k+1,_,_,by omega,by go_num,G',hbel'⟩)
     case measure=>simp [intOf];omega
    ·go_wp2
     go_roundw
     case rel=>first|exact ⟨k+1,_,_,by omega,by go_num,G',hbel'⟩|((repeat apply Exists.intro);refine ⟨?_,rfl⟩;exact ⟨k+1,_,_,by omega,by go_num,G',hbel'⟩)
     case measure=>simp [intOf];omega
  ·have hkI:¬ (k:Int)<(nt:Int):=by omega
   obtain rfl:k=nt:=by omega
   have hown:=G.own
   go_wp2_with (first
    | (go_at_call 44;refine (keysK _ _).mono ?_;rintro e w1 ⟨rfl,rfl⟩)
    | (go_at_call 43;refine (sortedQ w.heap.size k D wr hown (by omega)).mono ?_;rintro e w9 ⟨sa,sc,ks,rfl,hkys,hcells,hkn,hb9⟩))
   have G9:=G.below hb9
   have hbel9:=bel_tr hbel hb9
   have hT9:=hT.below hbel9
   have hgz:=hL.get
   clear hown G hb9 hbel hT hL hlt hk hkI
   have hkl:ks.length≤1100000:=by omega
   clear hkn
   go_loopw [8,44] (fun s8 s44 wq=>∃ (i m:Nat) (u:Nat→PT) (E:Nat→List Value),i≤ks.length∧m≤i∧s44 = .int .i64 i∧SL wq w9.heap.size 56 4 s8 m E∧CTm wq w9.heap.size wq.heap.size m E u (fun x=>zs t Z x k-1)∧Gi t k ks i u m∧Below w9.heap.size w9 wq) (fun _ s44 _=>ks.length-(intOf s44).toNat)
   case atStart=>exact ⟨0,0,fun _=>⟨0,0⟩,fun _=>[],Nat.zero_le _,Nat.le_refl _,rfl,SL.nil _ _ _ _ _,CTm.nil (Nat.le_refl _) _ _ _,Gi.start _ _ _ _,Below.refl _ _⟩
   case round =>
    obtain ⟨i,m,u,E,hi,hmi,rfl,hS,hTC,hGi,hbq⟩:=hrel
    obtain ⟨ga,gc,rfl,hgc⟩:=hS.form
    by_cases hlt:i<ks.length
    ·have hkI:(i:Int)<(ks.length:Int):=by omega
     obtain ⟨x,hx⟩:∃ x,ks[i]? = some x:=⟨ks[i],List.getElem?_eq_getElem hlt⟩
     rcases hcells with h0|⟨sg,rfl,hcells⟩
     ·omega
     have hxc:=kept_c hbq (hcells i x hx)
     have hpn:pn t Z n x k≠[]:=(G9.has x).1 ((hkys.1 x).1 (List.mem_of_getElem? hx))
     have hin:0≤x∧x<(n:Int):=by
      by_cases h:0≤x∧x<(n:Int)
      ·exact h
      ·unfold pn at hpn;rw [if_neg h] at hpn;exact absurd rfl hpn
     have Gq:=G9.below hbq
     obtain ⟨o2,k2,eV⟩:=(Gq.ml x).form
     have Mq:=Gq.ml x
     rw [eV] at Mq
     have hlook:=Gq.look (x:=x) (by omega) (by omega)
     rw [eV] at hlook
     rw [pn_in hin] at Mq hlook hpn
     clear Gq eV
     have hlq:=Mq.lq
     have hpz:=ps_sz x k hgz
     have hgs:=gsum_sz x hgz hpn
     have hzt:=zs_tot t Z x k
     have hzl:=zs_le t Z x k
     have hpl:=ps_len t Z x k
     have hgp:=gsum_ps t Z x k
     have hsz:∀ q,q≤(ps t Z x k).length→SzR (rsum (lX (ps t Z x k)) q) 2200001:=fun q hq=>(rsum_sz (fun i hi=>(hpz i hi).1) q hq).le (by have:=tot_mono (lZ (ps t Z x k)) hq;omega)
     have HH:=sumQ o2 (ps t Z x k).length k2 (lX (ps t Z x k)) (fun _=>2200000) 2200001 wr hlq (fun _ _=>⟨by decide,by decide⟩) (by decide) hsz (by omega) (hT9.below hbq)
     obtain ⟨sgn,esgn⟩:∃ sgn,sgn=(gsum t k x).num.sign:=⟨_,rfl⟩
     have ESG:Hid (sgn=(gsum t k x).num.sign):=esgn
     have HGP:Hid (rsum (lX (ps t Z x k)) (ps t Z x k).length=gsum t k x):=hgp
     have HX:Hid (ks[i]? = some x):=hx
     have HGS:Hid (SzR (gsum t k x) (zs t Z x k-1)∧2≤zs t Z x k):=hgs
     have hzs:zs t Z x k≤2200000:=by omega
     have hz2:2≤zs t Z x k:=hgs.2
     clear hcells hpn hlq hpz hgs hzt hzl hpl hgp hsz Mq hx esgn
     have hnb:∀ g,(Value.slice ga m gc).ownBlock=some g→w9.heap.size≤g∧g<wr.heap.size:=fun g hg=>hS.lt g hg
     have hsq:=Below.size hbq
     by_cases hz0:gsum t k x=0
     ·obtain rfl:sgn=0:=by rw [ESG.out,hz0];rfl
      go_wp2_with (first
       | (go_at_call 31;refine HH.mono ?_;rintro e w2 ⟨f,c1,n1,l1,d1,m1,l2,rfl,G,hx2⟩)
       | (go_at_call 45;refine (rsignB 0 _ (G.tr.below (bel_d0 _ _)) (by omega) (by omega) (by rw [HGP.out];exact ESG.out)).mono ?_;rintro e w5 ⟨rfl,hb5⟩))
      have hb6:=bel_tr (bel_tr hx2 (bel_d0 _ _)) hb5
      have hS6:=hS.below hb6
      have hTC6:=(hTC.below hb6).up hb6.size
      have hGi6:=hGi.skip HX.out hz0
      have hbq6:=bel_tr hbq hb6
      clear hS hTC hGi hbq hb6 hb5 G hx2 hlook HH
      go_wp2
      go_roundw
      case rel=>first|exact ⟨i+1,m,u,E,by omega,by omega,by go_num,hS6,hTC6,hGi6,hbq6⟩|((repeat apply Exists.intro);refine ⟨?_,rfl⟩;exact ⟨i+1,m,u,E,by omega,by omega,by go_num,hS6,hTC6,hGi6,hbq6⟩)
      case measure=>simp [intOf];omega
     ·have hsn:¬ sgn=0:=fun e=>hz0 (by
       have h1:=ESG.out
       rw [e] at h1
       have h2:=Int.sign_eq_zero_iff_zero.1 h1.symm
       exact Rat.num_eq_zero.1 h2)
      have hsn2:(sgn == 0)=false:=by simpa using hsn
      go_wp2_with (first
       | (go_at_call 31;refine HH.mono ?_;rintro e w2 ⟨f,c1,n1,l1,d1,m1,l2,rfl,G,hx2⟩)
       | (go_at_call 45;refine (rsignB sgn _ (G.tr.below (bel_d0 _ _)) (by omega) (by omega) (by rw [HGP.out];exact ESG.out)).mono ?_;rintro e w5 ⟨rfl,hb5⟩;have V5:=(var3_new w2 (.bool f) (.slice c1 n1 l1) (.slice d1 m1 l2) 27).below hb5;obtain ⟨y0,y1,y2,_,_,_⟩:=id V5;have hb6:=bel_tr (bel_tr hx2 (bel_d0 _ _)) hb5;have hs6:=Below.size hb6;have hS6:=hS.below (bel_tr hb6 (bel_d0 w5 (.cells #[.int .i64 x,.bool f,.slice c1 n1 l1,.slice d1 m1 l2] 56))))
       | (at_builtin;refine wpList_appendS _ rfl _ _ 52 56 4 64 rfl Tryz.underlying52 infTerm (by decide) (by decide) w9.heap.size (.slice ga m gc) m E rfl hS6 w5.heap.size _ rfl [.int .i64 x,.bool f,.slice c1 n1 l1,.slice d1 m1 l2] rfl (fun u hu=>by simp at hu;rcases hu with rfl|rfl|rfl|rfl <;> rfl) (box_new w5 #[.int .i64 x,.bool f,.slice c1 n1 l1,.slice d1 m1 l2] 56) (by omega) (by simp;omega) (w5.heap.size+1) (by simp) ?_;intro g1 cap1 w6 SN hgrow hat _)
       | fail)
      have hb7:=bel_tr hb6 (bel_d0 w5 (.cells #[.int .i64 x,.bool f,.slice c1 n1 l1,.slice d1 m1 l2] 56))
      have hnwS:=hS6.noW (by decide)
      have hGN:=((((G.val HGP.out).fit HGS.out.1)).below (bel_tr (bel_tr (bel_d0 _ _) hb5) (bel_d0 w5 (.cells #[.int .i64 x,.bool f,.slice c1 n1 l1,.slice d1 m1 l2] 56)))).keep hnwS hgrow
      have hs66:=hgrow.size
      have hs77:=hb7.size
      have hTCN:CTm w6 w9.heap.size w6.heap.size (m+1) (fun i=>if i<m then E i else [.int .i64 x,.bool f,.slice c1 n1 l1,.slice d1 m1 l2]) (fun q=>if q<m then u q else ⟨x,gsum t k x⟩) (fun x=>zs t Z x k-1) :=
       ((hTC.below hb7).keep hnwS hgrow).snoc (Nat.le_refl _) (by omega) ⟨_,rfl,hGN.ng⟩
      have hGiN:=hGi.step hkys.2 HX.out hz0
      have hbN:Below w9.heap.size w9 w6:=(bel_tr hbq hb7).trans (grown_below hgrow (by simp;omega) (fun g hg=>(hnb g hg).1))
      clear hS hS6 hTC hGi hbq hb6 hb5 hb7 hGN G hx2 hlook HH hgrow hat V5 y0 y1 y2 hnwS
      go_wp2
      go_roundw
      case rel=>first|exact ⟨i+1,m+1,_,_,by omega,by omega,by go_num,SN,hTCN,hGiN,hbN⟩|((repeat apply Exists.intro);refine ⟨?_,rfl⟩;exact ⟨i+1,m+1,_,_,by omega,by omega,by go_num,SN,hTCN,hGiN,hbN⟩)
      case measure=>simp [intOf];omega
    ·have hkI:¬ (i:Int)<(ks.length:Int):=by omega
     obtain rfl:i=ks.length:=by omega
     have hg:=hGi.gath (n:=n) (fun x hx=>by
      have hpn:pn t Z n x k≠[]:=(G9.has x).1 ((hkys.1 x).1 hx)
      by_cases h:0≤x∧x<(n:Int)
      ·exact h
      ·unfold pn at hpn;rw [if_neg h] at hpn;exact absurd rfl hpn) (fun x h0 h1 h2=>(hkys.1 x).2 ((G9.has x).2 (by rw [pn_in ⟨h0,h1⟩];exact gsum_ne h2)))
     have hs9:=Below.size hbel9
     go_wp2
     go_ret
     have hbl:∀ g,(Value.slice ga m gc).ownBlock=some g→g<wr.heap.size:=fun g hg=>(hS.lt g hg).2
     exact ⟨_,rfl,m,u,hg,⟨E,hS.mono hs9,hTC.down hs9,hbl⟩,bel_tr hbel9 hbq⟩
theorem gatherQ (a:Option Addr) (nt cap:Nat) (t:Nat→PT) (Z:Nat→Nat) (n:Nat) (w:World) (hL:LT w a nt t Z) (hK:tot Z nt≤2200000) (hn:n≤1048576) (hT:TB w) :
  Calls Tryz.prog 24 #[.slice a nt cap,.int .i64 (n:Int)] w fun e w'=>∃ v m u,e = .returned v∧Gath t nt n u m∧TL w' w.heap.size v m u (fun i=>zs t Z (u i).var nt-1)∧Below w.heap.size w w' :=
 (gatherQA a nt cap t Z n w hL hK hn hT).mono fun _ _ h=>by
  obtain ⟨v,m,u,e,h1,h2,h3⟩:=h
  exact ⟨v,m,u,e,h1,h2.tl,h3⟩
end Go.Proofs.YtceigfafmalfgaaGreatDoor

import Derived.Test.YtmeimjakdheidaaGreatDoorPrCAll
import Derived.Deep.RegionWith
import Derived.Shelf.Strconv.Clone
import Derived.Test.YtmeimjakdheidaaGreatDoorRatAll
import Derived.Test.YtmeimjakdheidaaGreatDoorWhEAll
set_option maxRecDepth 100000
set_option maxHeartbeats 8000000
namespace Go.Proofs.YtmeimjakdheidaaGreatDoor
open Go.RowKit Go.Maps
def TC (w:World) (B:Nat) (cs:List Value) (t:PT) (Y:Nat):Prop:=∃ p a na ca d nd cd,cs=[.int .i64 t.var,.bool p,.slice a na ca,.slice d nd cd]∧GR w B p a na ca d nd cd t.coef Y
theorem TC.below {w w':World} {B:Nat} {cs:List Value} {t:PT} {Y:Nat} (h:TC w B cs t Y) (hb:Below w.heap.size w w'):TC w' B cs t Y:=by
 obtain ⟨p,a,na,ca,d,nd,cd,e,g⟩:=h
 exact ⟨p,a,na,ca,d,nd,cd,e,g.below hb⟩
theorem TC.mono {w:World} {B B':Nat} {cs:List Value} {t:PT} {Y:Nat} (h:TC w B cs t Y) (hB:B'≤B):TC w B' cs t Y:=by
 obtain ⟨p,a,na,ca,d,nd,cd,e,g⟩:=h
 exact ⟨p,a,na,ca,d,nd,cd,e,g.mono hB⟩
def TL (w:World) (B:Nat) (v:Value) (m:Nat) (u:Nat→PT) (Y:Nat→Nat):Prop:=∃ E,SL w B 52 4 v m E∧∀ i,i<m→TC w B (E i) (u i) (Y i)
theorem TLA.tl {w:World} {a b:Nat} {v:Value} {m:Nat} {u:Nat→PT} {Yf:Int→Nat} (h:TLA w a b v m u Yf):TL w a v m u (fun i=>Yf (u i).var):=by
 obtain ⟨E,h1,⟨lo,h2,h3,_⟩,_⟩:=h
 refine ⟨E,h1,fun i hi=>?_⟩
 obtain ⟨l,e,p,a',na,ca,d,nd,cd,e2,g,_⟩:=(h2 i hi).2
 have L0:=RA.le0 (fun i hi=>(h2 i hi).1) i (by omega) 0 (Nat.zero_le _)
 exact ⟨p,a',na,ca,d,nd,cd,by rw [e,e2],g.mono (by omega)⟩
theorem LT.get {w:World} {a:Option Addr} {n:Nat} {t:Nat→PT} {Z:Nat→Nat} (h:LT w a n t Z):∀ q,q<n→SzR (t q).coef (Z q)∧1≤Z q:=by
 intro q hq
 rcases h with h|⟨b,o,_,h⟩
 ·omega
 ·exact ⟨(h q hq).2.2.2.1,(h q hq).2.2.1⟩
theorem tot_two {Z:Nat→Nat} {n:Nat} (h:∀ q,q<n→1≤Z q):2*n+1≤tot Z n:=by
 induction n with
 | zero=>exact Nat.le_refl _
 | succ n ih=>have:=ih (fun q hq=>h q (by omega));have:=h n (by omega);show 2*(n+1)+1≤tot Z n+Z n+1;omega
theorem GMap.look' {w:World} {B b:Nat} {t:Nat→PT} {Z:Nat→Nat} {n k S:Nat} {D:DataW Value} {V:Int→Value} (h:GMap w B b t Z n k S D V) {j:Nat} (hj:j≤9223372036854775807) {v:Value} (hv:V (j:Int)=v) :
 ∀ w',Below w.heap.size w w'→(Instr.lookup 112 (.map (some b)) (.int .i64 (j:Int)) false).run Tryz.prog w' = .ok v w':=by
 intro w' hb
 rw [← hv]
 exact (h.below hb).look (by omega) (by omega)
theorem gatherQA (a:Option Addr) (nt cap:Nat) (t:Nat→PT) (Z:Nat→Nat) (n:Nat) (w:World) (hL:LT w a nt t Z) (hK:tot Z nt≤2200000) (hn:n≤1048576) (hT:TB w) :
 Calls Tryz.prog 44 #[.slice a nt cap,.int .i64 (n:Int)] w fun e w'=>∃ v m u,e = .returned v∧Gath t nt n u m∧TLA w' w.heap.size w'.heap.size v m u (fun x=>zs t Z x nt-1)∧Below w.heap.size w w':=by
 have hnt:nt≤1100000:=by have:=tot_two (fun q hq=>(hL.get q hq).2);omega
 have hZ:∀ q,q<nt→Z q≤2200000:=fun q hq=>by have:=bY (Z:=Z) hq;omega
 have HZ:Hid (∀ q,q<nt→Z q≤2200000):=hZ
 clear hZ
 have G0:=GMap.start w t Z n 2200000
 have hb0:=aI w (.map #[] 0)
 have hmm:=@run_makeMap Tryz.prog
 go_enter Tryz.func44,Tryz.ntmps44
 go_wp2
 go_loopw [15] (fun s15 wr=>∃ (k:Nat) (D:DataW Value) (V:Int→Value),k≤nt∧s15 = .int .i64 k∧GMap wr w.heap.size w.heap.size t Z n k 2200000 D V∧Below w.heap.size w wr) (fun s15 _=>nt-(intOf s15).toNat)
 case atStart=>exact ⟨0,_,_,Nat.zero_le _,rfl,G0,hb0⟩
 case round =>
  clear G0 hb0
  obtain ⟨k,D,V,hk,rfl,G,hbel⟩:=hrel
  clear hmm
  by_cases hlt:k<nt
  ·have hkI:(k:Int)<(nt:Int):=by omega
   have hkI2:(k:Int)*4=((k*4:Nat):Int):=by omega
   rcases hL with h0|⟨tb,to,rfl,hel⟩
   ·omega
   have hTm:=hel k hlt
   obtain ⟨v,ev⟩:∃ v,v=(t k).var:=⟨_,rfl⟩
   obtain ⟨t0,⟨pC,aC,nC,cC,dC,mC,lC,t1,t2,t3,hC⟩,hsC,hszC,hv1,hv2⟩:=hTm
   rw [← ev] at t0 hv1 hv2
   have EV:Hid (v=(t k).var):=ev
   have HC:Hid (TR w pC aC nC cC dC mC lC (t k).coef (Z k)):=hC
   replace t0:=aG hbel t0
   replace t1:=aG hbel t1
   replace t2:=aG hbel t2
   replace t3:=aG hbel t3
   clear hel ev hC
   have hz:=aI wr (.cells #[.int .i64 v,.bool pC,.slice aC nC cC,.slice dC mC lC] 52)
   by_cases hv:0≤v∧v<(n:Int)
   ·obtain ⟨hv0,hvn⟩:=hv
    obtain ⟨j,rfl⟩:=Int.eq_ofNat_of_zero_le hv0
    have N:=aQ wr #[.int .i64 (j:Int),.bool pC,.slice aC nC cC,.slice dC mC lC] 52
    have hsz3:(wr.alloc (.cells #[.int .i64 (j:Int),.bool pC,.slice aC nC cC,.slice dC mC lC] 52)).heap.size=wr.heap.size+1:=by simp
    obtain ⟨o2,k2,eV⟩:=(G.ml (j:Int)).form
    obtain ⟨c,ec⟩:∃ c,c=(pn t Z n (j:Int) k).length:=⟨_,rfl⟩
    rw [← ec] at eV
    have EC:Hid (c=(pn t Z n (j:Int) k).length):=ec
    clear ec
    have hrow:∀ g,(Value.slice o2 c k2).ownBlock=some g→g<wr.heap.size:=fun g hg=>((G.ml (j:Int)).lt g (by rw [eV];exact hg)).2
    have hbw:w.heap.size<wr.heap.size:=G.own.lt
    have hck:c≤1100000:=by have:=pn_len t Z n (j:Int) k;have:=EC.out;omega
    go_wp2_with fail
    have G3:=G.below hz
    have hbel3:=aF hbel hz
    have n0:=N 0 _ rfl
    have n1:=N 1 _ rfl
    have n2:=N 2 _ rfl
    have n3:=N 3 _ rfl
    clear t0 t1 t2 t3 hz N G hbel
    generalize wr.alloc (.cells #[.int .i64 (j:Int),.bool pC,.slice aC nC cC,.slice dC mC lC] 52)=W3 at *
    have LK:=G3.look' (by omega) eV
    have MK:∀ w',Below W3.heap.size W3 w'→ML w' w.heap.size (.slice o2 c k2) c (lX (pn t Z n (j:Int) k)) 2200000:=fun w' hb=>by
     have h:=(G3.below hb).ml (j:Int)
     rw [eV,← EC.out] at h
     exact h
    have OK:∀ V' w',Below W3.heap.size W3 V'→V'.grownBy w' (Value.slice o2 c k2).ownBlock→w'.ownsMap Tryz.prog 3 yX w.heap.size k D:=fun V' w' hb hg=>by
     refine (G3.below hb).own.kept hg fun e=>?_
     obtain ⟨vs,r,_⟩:=MK V' hb
     rcases rF r (G3.below hb).isMap with e3|e3
     ·rw [e3] at e;cases e
     ·exact e3 e.symm
    have HB:∀ w',Below W3.heap.size W3 w'→(w'.cell? ⟨wr.heap.size,0,none⟩=some (.int .i64 (j:Int))∧w'.cell? ⟨wr.heap.size,1,none⟩=some (.bool pC)∧w'.cell? ⟨wr.heap.size,2,none⟩=some (.slice aC nC cC)∧w'.cell? ⟨wr.heap.size,3,none⟩=some (.slice dC mC lC)):=fun w' h=>⟨aG h n0,aG h n1,aG h n2,aG h n3⟩
    have HG:∀ V w':World,(V.cell? ⟨wr.heap.size,0,none⟩=some (.int .i64 (j:Int))∧V.cell? ⟨wr.heap.size,1,none⟩=some (.bool pC)∧V.cell? ⟨wr.heap.size,2,none⟩=some (.slice aC nC cC)∧V.cell? ⟨wr.heap.size,3,none⟩=some (.slice dC mC lC))→V.grownBy w' (Value.slice o2 c k2).ownBlock→(w'.cell? ⟨wr.heap.size,0,none⟩=some (.int .i64 (j:Int))∧w'.cell? ⟨wr.heap.size,1,none⟩=some (.bool pC)∧w'.cell? ⟨wr.heap.size,2,none⟩=some (.slice aC nC cC)∧w'.cell? ⟨wr.heap.size,3,none⟩=some (.slice dC mC lC)) :=
     fun V w' h hg=>⟨bK hg h.1 (fun e=>by have:=hrow _ e;simp at this),bK hg h.2.1 (fun e=>by have:=hrow _ e;simp at this),bK hg h.2.2.1 (fun e=>by have:=hrow _ e;simp at this),bK hg h.2.2.2 (fun e=>by have:=hrow _ e;simp at this)⟩
    have HM:∀ V w':World,(V.cell? ⟨wr.heap.size,0,none⟩=some (.int .i64 (j:Int))∧V.cell? ⟨wr.heap.size,1,none⟩=some (.bool pC)∧V.cell? ⟨wr.heap.size,2,none⟩=some (.slice aC nC cC)∧V.cell? ⟨wr.heap.size,3,none⟩=some (.slice dC mC lC))→V.grownBy w' (some w.heap.size)→(w'.cell? ⟨wr.heap.size,0,none⟩=some (.int .i64 (j:Int))∧w'.cell? ⟨wr.heap.size,1,none⟩=some (.bool pC)∧w'.cell? ⟨wr.heap.size,2,none⟩=some (.slice aC nC cC)∧w'.cell? ⟨wr.heap.size,3,none⟩=some (.slice dC mC lC)) :=
     fun V w' h hg=>⟨bK hg h.1 (fun e=>by simp at e;omega),bK hg h.2.1 (fun e=>by simp at e;omega),bK hg h.2.2.1 (fun e=>by simp at e;omega),bK hg h.2.2.2 (fun e=>by simp at e;omega)⟩
    have hsC2:Z k≤2200000:=HZ.out k hlt
    have HEL:∀ w',Below W3.heap.size W3 w'→EL w' w.heap.size pC aC nC cC dC mC lC (t k).coef 2200000:=fun w' hb=>.inr fun w2 h2=>(HC.out.below ((aF hbel3 hb).trans h2)).up hsC2
    have HBN:∀ V' w3 w4,Below W3.heap.size W3 V'→V'.grownBy w3 (Value.slice o2 c k2).ownBlock→w3.grownBy w4 (some w.heap.size)→Below w.heap.size w w4:=fun V' w3 w4 hb hg hg2=>by
     have h1:=hb.size
     have h2:=hg.size
     exact ((aF hbel3 hb).trans (grown_below hg (by omega) (fun g e=>((MK V' hb).lt g e).1))).trans (grown_below hg2 (by omega) (fun g e=>by cases e;exact Nat.le_refl _))
    have LK1:=LK W3.drew (aK _)
    have LK2:=fun o=>LK (W3.drew.alloc o) (dB _ _)
    have LK3:=fun o=>LK (W3.alloc o).drew (fZ (aI _ _))
    clear LK
    have hBw:w.heap.size≤W3.heap.size:=by omega
    have HS3:Hid (W3.heap.size=wr.heap.size+1):=hsz3
    clear hsz3
    go_region_held3 (fun w'=>w'.cell? ⟨wr.heap.size,0,none⟩=some (.int .i64 (j:Int))∧w'.cell? ⟨wr.heap.size,1,none⟩=some (.bool pC)∧w'.cell? ⟨wr.heap.size,2,none⟩=some (.slice aC nC cC)∧w'.cell? ⟨wr.heap.size,3,none⟩=some (.slice dC mC lC))
     (first|(with_reducible refine HM _ _ (HG _ _ (HB _ ?_) hgrow) hgr2;repeat' (first|with_reducible exact Below.refl _ _|with_reducible refine fZ ?_|with_reducible refine fB ?_))|(with_reducible refine HG _ _ (HB _ ?_) hgrow;repeat' (first|with_reducible exact Below.refl _ _|with_reducible refine fZ ?_|with_reducible refine fB ?_))|(with_reducible refine HB _ ?_;repeat' (first|with_reducible exact Below.refl _ _|with_reducible refine fZ ?_|with_reducible refine fB ?_)))
     ((first
      | (refine kG _ (by rfl) _ _ (by rfl) w.heap.size (.slice o2 c k2) c (lX (pn t Z n (j:Int) k)) 2200000 (by rfl) (MK _ (by first|exact dB _ _|exact fZ (aI _ _))) W3.heap.size _ (by rfl) pC aC nC cC dC mC lC _ (by first|exact iW (by rfl)|exact iW (w:=W3) (by rfl)) (HEL _ (by first|exact dB _ _|exact fZ (aI _ _))) (by omega) (by simp;omega) (W3.heap.size+1) (by simp) ?_;intro g cap1 w3 LN hgrow hat hlt1;obtain ⟨w4,hrun,ho,hgr2⟩:=(OK _ _ (by first|exact dB _ _|exact fZ (aI _ _)) hgrow).update (int_keyed Tryz.underlying3) Tryz.underlying112 (show k<maxLen by unfold maxLen;omega) (keyOf_int_mk Tryz.underlying3 (wf_i64 (x:=(j:Int)) (by omega) (by omega))) (val:=.slice (some ⟨g,0,none⟩) (c+1) cap1) (d:=.held (.slice (some ⟨g,0,none⟩) (c+1) cap1)) (ps:=[]) rfl;have GN:=GMap.step' EV.out (G3.below (by first|exact dB _ _|exact fZ (aI _ _))) ⟨hv0,hvn⟩ EC.out eV LN hgrow hat (by simp) ho hgr2;have BN:Below w.heap.size w w4:=HBN _ _ _ (by first|exact dB _ _|exact fZ (aI _ _)) hgrow hgr2)))
    all_goals
     clear LK1 LK2 LK3 hrun
     go_wp2
     go_roundw
     case rel=>first|exact ⟨k+1,_,_,by omega,by go_num,GN,BN⟩|((repeat apply Exists.intro);refine ⟨?_,rfl⟩;exact ⟨k+1,_,_,by omega,by go_num,GN,BN⟩)
     case measure=>simp [intOf];omega
   ·have G':=(G.below hz).skip (k:=k) (by rw [← EV.out];exact hv)
    have hbel':=aF hbel hz
    clear hz G
    by_cases hv0:0≤v
    ·have hvn:¬ v<(n:Int):=fun h=>hv ⟨hv0,h⟩
     go_wp2
     go_roundw
     case rel=>first|exact ⟨k+1,_,_,by omega,by go_num,G',hbel'⟩|((repeat apply Exists.intro);refine ⟨?_,rfl⟩;exact ⟨k+1,_,_,by omega,by go_num,G',hbel'⟩)
     case measure=>simp [intOf];omega
    ·go_wp2
     go_roundw
     case rel=>first|exact ⟨k+1,_,_,by omega,by go_num,G',hbel'⟩|((repeat apply Exists.intro);refine ⟨?_,rfl⟩;exact ⟨k+1,_,_,by omega,by go_num,G',hbel'⟩)
     case measure=>simp [intOf];omega
  ·have hkI:¬ (k:Int)<(nt:Int):=by omega
   obtain rfl:k=nt:=by omega
   have hown:=G.own
   go_wp2_with (first
    | (go_at_call 77;refine (keysK _ _).mono ?_;rintro e w1 ⟨rfl,rfl⟩)
    | (go_at_call 76;refine (sortedQ w.heap.size k D wr hown (by omega)).mono ?_;rintro e w9 ⟨sa,sc,ks,rfl,hkys,hcells,hkn,hb9⟩))
   have G9:=G.below hb9
   have hbel9:=aF hbel hb9
   have hT9:=hT.below hbel9
   have hgz:=hL.get
   clear hown G hb9 hbel hT hL hlt hk hkI
   have hkl:ks.length≤1100000:=by omega
   clear hkn
   go_loopw [8,44] (fun s8 s44 wq=>∃ (i m:Nat) (u:Nat→PT) (E:Nat→List Value),i≤ks.length∧m≤i∧s44 = .int .i64 i∧SL wq w9.heap.size 52 4 s8 m E∧CTm wq w9.heap.size wq.heap.size m E u (fun x=>zs t Z x k-1)∧Gi t k ks i u m∧Below w9.heap.size w9 wq) (fun _ s44 _=>ks.length-(intOf s44).toNat)
   case atStart=>exact ⟨0,0,fun _=>⟨0,0⟩,fun _=>[],Nat.zero_le _,Nat.le_refl _,rfl,SL.nil _ _ _ _ _,CTm.nil (Nat.le_refl _) _ _ _,Gi.start _ _ _ _,Below.refl _ _⟩
   case round =>
    obtain ⟨i,m,u,E,hi,hmi,rfl,hS,hTC,hGi,hbq⟩:=hrel
    obtain ⟨ga,gc,rfl,hgc⟩:=hS.form
    by_cases hlt:i<ks.length
    ·have hkI:(i:Int)<(ks.length:Int):=by omega
     obtain ⟨x,hx⟩:∃ x,ks[i]? = some x:=⟨ks[i],List.getElem?_eq_getElem hlt⟩
     rcases hcells with h0|⟨sg,rfl,hcells⟩
     ·omega
     have hxc:=aG hbq (hcells i x hx)
     have hpn:pn t Z n x k≠[]:=(G9.has x).1 ((hkys.1 x).1 (List.mem_of_getElem? hx))
     have hin:0≤x∧x<(n:Int):=by
      by_cases h:0≤x∧x<(n:Int)
      ·exact h
      ·unfold pn at hpn;rw [if_neg h] at hpn;exact absurd rfl hpn
     have Gq:=G9.below hbq
     obtain ⟨o2,k2,eV⟩:=(Gq.ml x).form
     have Mq:=Gq.ml x
     rw [eV] at Mq
     have hlook:=Gq.look (x:=x) (by omega) (by omega)
     rw [eV] at hlook
     rw [pn_in hin] at Mq hlook hpn
     clear Gq eV
     have hlq:=Mq.lq
     have hpz:=ps_sz x k hgz
     have hgs:=gsum_sz x hgz hpn
     have hzt:=wS t Z x k
     have hzl:=zs_le t Z x k
     have hpl:=ps_len t Z x k
     have hgp:=rE t Z x k
     have hsz:∀ q,q≤(ps t Z x k).length→SzR (bJ (lX (ps t Z x k)) q) 2200001:=fun q hq=>(rsum_sz (fun i hi=>(hpz i hi).1) q hq).le (by have:=sH (lZ (ps t Z x k)) hq;omega)
     have HH:=sumQ o2 (ps t Z x k).length k2 (lX (ps t Z x k)) (fun _=>2200000) 2200001 wr hlq (fun _ _=>⟨by decide,by decide⟩) (by decide) hsz (by omega) (hT9.below hbq)
     obtain ⟨sgn,esgn⟩:∃ sgn,sgn=(dW t k x).num.sign:=⟨_,rfl⟩
     have ESG:Hid (sgn=(dW t k x).num.sign):=esgn
     have HGP:Hid (bJ (lX (ps t Z x k)) (ps t Z x k).length=dW t k x):=hgp
     have HX:Hid (ks[i]? = some x):=hx
     have HGS:Hid (SzR (dW t k x) (zs t Z x k-1)∧2≤zs t Z x k):=hgs
     have hzs:zs t Z x k≤2200000:=by omega
     have hz2:2≤zs t Z x k:=hgs.2
     clear hcells hpn hlq hpz hgs hzt hzl hpl hgp hsz Mq hx esgn
     have hnb:∀ g,(Value.slice ga m gc).ownBlock=some g→w9.heap.size≤g∧g<wr.heap.size:=fun g hg=>hS.lt g hg
     have hsq:=Below.size hbq
     by_cases hz0:dW t k x=0
     ·obtain rfl:sgn=0:=by rw [ESG.out,hz0];rfl
      go_wp2_with (first
       | (go_at_call 51;refine HH.mono ?_;rintro e w2 ⟨f,c1,n1,l1,d1,m1,l2,rfl,G,hx2⟩)
       | (go_at_call 25;refine (wQ 0 _ (G.tr.below (aI _ _)) (by omega) (by omega) (by rw [HGP.out];exact ESG.out)).mono ?_;rintro e w5 ⟨rfl,hb5⟩))
      have hb6:=aF (aF hx2 (aI _ _)) hb5
      have hS6:=hS.below hb6
      have hTC6:=(hTC.below hb6).up hb6.size
      have hGi6:=hGi.skip HX.out hz0
      have hbq6:=aF hbq hb6
      clear hS hTC hGi hbq hb6 hb5 G hx2 hlook HH
      go_wp2
      go_roundw
      case rel=>first|exact ⟨i+1,m,u,E,by omega,by omega,by go_num,hS6,hTC6,hGi6,hbq6⟩|((repeat apply Exists.intro);refine ⟨?_,rfl⟩;exact ⟨i+1,m,u,E,by omega,by omega,by go_num,hS6,hTC6,hGi6,hbq6⟩)
      case measure=>simp [intOf];omega
     ·have hsn:¬ sgn=0:=fun e=>hz0 (by
       have h1:=ESG.out
       rw [e] at h1
       have h2:=Int.sign_eq_zero_iff_zero.1 h1.symm
       exact Rat.num_eq_zero.1 h2)
      have hsn2:(sgn == 0)=false:=by simpa using hsn
      go_wp2_with (first
       | (go_at_call 51;refine HH.mono ?_;rintro e w2 ⟨f,c1,n1,l1,d1,m1,l2,rfl,G,hx2⟩)
       | (go_at_call 25;refine (wQ sgn _ (G.tr.below (aI _ _)) (by omega) (by omega) (by rw [HGP.out];exact ESG.out)).mono ?_;rintro e w5 ⟨rfl,hb5⟩;have V5:=(aU w2 (.bool f) (.slice c1 n1 l1) (.slice d1 m1 l2) 27).below hb5;obtain ⟨y0,y1,y2,_,_,_⟩:=id V5;have hb6:=aF (aF hx2 (aI _ _)) hb5;have hs6:=Below.size hb6;have hS6:=hS.below (aF hb6 (aI w5 (.cells #[.int .i64 x,.bool f,.slice c1 n1 l1,.slice d1 m1 l2] 52))))
       | (at_builtin;refine lJ _ rfl _ _ 53 52 4 64 rfl Tryz.underlying53 kJ (by decide) (by decide) w9.heap.size (.slice ga m gc) m E rfl hS6 w5.heap.size _ rfl [.int .i64 x,.bool f,.slice c1 n1 l1,.slice d1 m1 l2] rfl (fun u hu=>by simp at hu;rcases hu with rfl|rfl|rfl|rfl <;> rfl) (aQ w5 #[.int .i64 x,.bool f,.slice c1 n1 l1,.slice d1 m1 l2] 52) (by omega) (by simp;omega) (w5.heap.size+1) (by simp) ?_;intro g1 cap1 w6 SN hgrow hat _)
       | fail)
      have hb7:=aF hb6 (aI w5 (.cells #[.int .i64 x,.bool f,.slice c1 n1 l1,.slice d1 m1 l2] 52))
      have hnwS:=hS6.noW (by decide)
      have hGN:=((((G.val HGP.out).fit HGS.out.1)).below (aF (aF (aI _ _) hb5) (aI w5 (.cells #[.int .i64 x,.bool f,.slice c1 n1 l1,.slice d1 m1 l2] 52)))).keep hnwS hgrow
      have hs66:=hgrow.size
      have hs77:=hb7.size
      have hTCN:CTm w6 w9.heap.size w6.heap.size (m+1) (fun i=>if i<m then E i else [.int .i64 x,.bool f,.slice c1 n1 l1,.slice d1 m1 l2]) (fun q=>if q<m then u q else ⟨x,dW t k x⟩) (fun x=>zs t Z x k-1) :=
       ((hTC.below hb7).keep hnwS hgrow).snoc (Nat.le_refl _) (by omega) ⟨_,rfl,hGN.ng⟩
      have hGiN:=hGi.step hkys.2 HX.out hz0
      have hbN:Below w9.heap.size w9 w6:=(aF hbq hb7).trans (grown_below hgrow (by simp;omega) (fun g hg=>(hnb g hg).1))
      clear hS hS6 hTC hGi hbq hb6 hb5 hb7 hGN G hx2 hlook HH hgrow hat V5 y0 y1 y2 hnwS
      go_wp2
      go_roundw
      case rel=>first|exact ⟨i+1,m+1,_,_,by omega,by omega,by go_num,SN,hTCN,hGiN,hbN⟩|((repeat apply Exists.intro);refine ⟨?_,rfl⟩;exact ⟨i+1,m+1,_,_,by omega,by omega,by go_num,SN,hTCN,hGiN,hbN⟩)
      case measure=>simp [intOf];omega
    ·have hkI:¬ (i:Int)<(ks.length:Int):=by omega
     obtain rfl:i=ks.length:=by omega
     have hg:=hGi.gath (n:=n) (fun x hx=>by
      have hpn:pn t Z n x k≠[]:=(G9.has x).1 ((hkys.1 x).1 hx)
      by_cases h:0≤x∧x<(n:Int)
      ·exact h
      ·unfold pn at hpn;rw [if_neg h] at hpn;exact absurd rfl hpn) (fun x h0 h1 h2=>(hkys.1 x).2 ((G9.has x).2 (by rw [pn_in ⟨h0,h1⟩];exact gsum_ne h2)))
     have hs9:=Below.size hbel9
     go_wp2
     go_ret
     have hbl:∀ g,(Value.slice ga m gc).ownBlock=some g→g<wr.heap.size:=fun g hg=>(hS.lt g hg).2
     exact ⟨_,rfl,m,u,hg,⟨E,hS.mono hs9,hTC.down hs9,hbl⟩,aF hbel9 hbq⟩
end Go.Proofs.YtmeimjakdheidaaGreatDoor
namespace Go.Proofs.YtmeimjakdheidaaGreatDoor
open Go.RowKit Go.Shelf
def cloneRen:Ren:=⟨fun|316=>75|n=>n,fun|5=>5|9=>9|3=>3|4=>4|37=>132|127=>133|n=>n,fun n=>n⟩
theorem lays316:LaysM.n316 Tryz.prog cloneRen:={
 mixed:=by kernel_rfl
 f316:=Tryz.func75.trans (congrArg some (by kernel_rfl))
 t0:=Tryz.underlying0
 a0:=Tryz.isAgg0
 z0:=Tryz.sizeOf0
 v0:=Tryz.zeroValue0
 t3:=Tryz.underlying3
 a3:=Tryz.isAgg3
 z3:=Tryz.sizeOf3
 v3:=Tryz.zeroValue3
 t4:=Tryz.underlying4
 a4:=Tryz.isAgg4
 z4:=Tryz.sizeOf4
 v4:=Tryz.zeroValue4
 t5:=Tryz.underlying5
 a5:=Tryz.isAgg5
 z5:=Tryz.sizeOf5
 v5:=Tryz.zeroValue5
 t9:=Tryz.underlying9
 a9:=Tryz.isAgg9
 z9:=Tryz.sizeOf9
 v9:=Tryz.zeroValue9
 t37:=Tryz.underlying132
 a37:=Tryz.isAgg132
 z37:=Tryz.sizeOf132
 v37:=Tryz.zeroValue132
 t127:=Tryz.underlying133
 a127:=Tryz.isAgg133
 z127:=Tryz.sizeOf133
 v127:=Tryz.zeroValue133
 i0:=by kernel_rfl
 i3:=by kernel_rfl
 i4:=by kernel_rfl
 i5:=by kernel_rfl
 i9:=by kernel_rfl
 i37:=by kernel_rfl
 i127:=by kernel_rfl }
theorem cloneQ (s:ByteArray) (w:World) (hs:s.size≤1000000000):Calls Tryz.prog 42 #[.string s] w fun e w'=>e = .returned (.string s)∧Below w.heap.size w w':=by
 have HC:=fun u=>Any.stringslite_Clone lays316 s u (by omega)
 change ∀ u,Calls Tryz.prog 75 _ u _ at HC
 go_enter Tryz.func42,Tryz.ntmps42
 go_wp2_with fail
 refine (HC _).mono ?_
 rintro e w1 ⟨rfl,hb⟩
 go_wp2
 go_ret
 exact ⟨rfl,hb⟩
end Go.Proofs.YtmeimjakdheidaaGreatDoor
namespace Go.Proofs.YtmeimjakdheidaaGreatDoor
open Go.RowKit
theorem Rw.set {t:TypeId} {w:World} {R:Nat} {cs:Array Value} (h:Rw t w R cs) (i:Nat) (v:Value):Rw t (w.setCell ⟨R,i,none⟩ v) R (cs.setIfInBounds i v)∧Off R w (w.setCell ⟨R,i,none⟩ v):=by
 refine ⟨?_,(Off.refl _ _).set i v⟩
 unfold Rw at *
 simp [World.setCell,Array.getElem?_modify,h]
def bat (h:Bool) (r:Rat):Rat:=if h then r else 0
theorem bndI:(Tryz.prog.info? 48).map (·.size)=some 4:=by kernel_rfl
theorem kL {h p:Bool} {a:Option Addr} {na ca:Nat} {d:Option Addr} {nd cd:Nat} {r:Rat} {S:Nat} (w:World) (hr:TR w p a na ca d nd cd r S) (hS:S≤7000000) (hS1:1≤S) (hT:TB w) :
 Calls Tryz.prog 43 #[.agg #[.bool h,.bool p,.slice a na ca,.slice d nd cd]] w fun e w'=>∃ f c n k c' n' k',e = .returned (.agg #[.bool h,.bool f,.slice c n k,.slice c' n' k'])∧GR w' w.heap.size f c n k c' n' k' (bat h r) S∧Below w.heap.size w w':=by
 have N:=aQ w #[.bool h,.bool p,.slice a na ca,.slice d nd cd] 48
 have hz:=aI w (.cells #[.bool h,.bool p,.slice a na ca,.slice d nd cd] 48)
 have hs:(w.alloc (.cells #[.bool h,.bool p,.slice a na ca,.slice d nd cd] 48)).heap.size=w.heap.size+1:=by simp
 have R0:=Rw.new 48 (w.alloc (.cells #[.bool h,.bool p,.slice a na ca,.slice d nd cd] 48)) #[.bool false,.bool false,.slice none 0 0,.slice none 0 0]
 rw [hs] at R0
 replace N:=N.below (aI (w.alloc (.cells #[.bool h,.bool p,.slice a na ca,.slice d nd cd] 48)) (.cells #[.bool false,.bool false,.slice none 0 0,.slice none 0 0] 48))
 replace hz:=aF hz (aI (w.alloc (.cells #[.bool h,.bool p,.slice a na ca,.slice d nd cd] 48)) (.cells #[.bool false,.bool false,.slice none 0 0,.slice none 0 0] 48))
 clear hs
 have n0:=N 0 _ rfl
 have n1:=N 1 _ rfl
 have n2:=N 2 _ rfl
 have n3:=N 3 _ rfl
 clear N
 have hr1:=hr.below hz
 have hT1:=hT.below hz
 go_enter Tryz.func43,Tryz.ntmps43
 cases h with
 | false =>
  go_wp2_with fail
  refine (ofQ 0 _ (by decide) (by decide)).mono ?_
  rintro e w2 ⟨f,c,n,k,c',n',k',rfl,G,hb⟩
  have R1:=R0.below hb
  go_wp2_with (refine R1.put #[.bool false,.bool f,.slice c n k,.slice c' n' k'] rfl _ _ rfl rfl rfl bndI rfl (by simp [Value.oneCell']) ?_)
  intro w3 R2 O2
  go_wp2
  have hs1:=hz.size
  have hs2:=hb.size
  have hs3:=R0.lt
  have G2:=G.off O2 (by omega)
  have hb3:Below w.heap.size w w3:=(aF hz hb).trans (O2.below (by omega))
  have e0:((0:Int):Rat)=bat false r:=rfl
  exact bodyPost_ret (R2.ret1 Tryz.results43 _ rfl Tryz.underlying48 bndI) rfl ⟨f,c,n,k,c',n',k',rfl,((G2.mono (by omega)).le hS1).val e0,hb3⟩
 | true =>
  go_wp2_with fail
  refine (lF _ hr1 hS hS1 hT1).mono ?_
  rintro e w2 ⟨f,c,n,k,c',n',k',rfl,G,hb⟩
  have R1:=R0.below hb
  go_wp2_with (refine R1.put #[.bool true,.bool f,.slice c n k,.slice c' n' k'] rfl _ _ rfl rfl rfl bndI rfl (by simp [Value.oneCell']) ?_)
  intro w3 R2 O2
  go_wp2
  have hs1:=hz.size
  have hs2:=hb.size
  have hs3:=R0.lt
  have G2:=G.off O2 (by omega)
  have hb3:Below w.heap.size w w3:=(aF hz hb).trans (O2.below (by omega))
  exact bodyPost_ret (R2.ret1 Tryz.results43 _ rfl Tryz.underlying48 bndI) rfl ⟨f,c,n,k,c',n',k',rfl,G2.mono (by omega),hb3⟩
theorem Rw.set7 {t:TypeId} {w:World} {R:Nat} {a0 a1 a2 a3 a4 a5 a6:Value} (h:Rw t w R #[a0,a1,a2,a3,a4,a5,a6]) (b0 b1 b2 b3 b4 b5 b6:Value) :
 Rw t (((((((w.setCell ⟨R,0,none⟩ b0).setCell ⟨R,1,none⟩ b1).setCell ⟨R,2,none⟩ b2).setCell ⟨R,3,none⟩ b3).setCell ⟨R,4,none⟩ b4).setCell ⟨R,5,none⟩ b5).setCell ⟨R,6,none⟩ b6) R #[b0,b1,b2,b3,b4,b5,b6] ∧
 Off R w (((((((w.setCell ⟨R,0,none⟩ b0).setCell ⟨R,1,none⟩ b1).setCell ⟨R,2,none⟩ b2).setCell ⟨R,3,none⟩ b3).setCell ⟨R,4,none⟩ b4).setCell ⟨R,5,none⟩ b5).setCell ⟨R,6,none⟩ b6):=by
 refine ⟨?_,((((((Off.refl _ _).set 0 b0).set 1 b1).set 2 b2).set 3 b3).set 4 b4).set 5 b5 |>.set 6 b6⟩
 have:=(((((((h.set 0 b0).1.set 1 b1).1.set 2 b2).1.set 3 b3).1.set 4 b4).1.set 5 b5).1.set 6 b6).1
 simpa using this
theorem prbI:(Tryz.prog.info? 31).map (·.size)=some 7:=by kernel_rfl
def VC (w:World) (B:Nat) (cs:List Value) (v:PV) (Y:Nat):Prop :=
 ∃ p1 a1 n1 k1 d1 m1 l1 p2 a2 n2 k2 d2 m2 l2 p3 a3 n3 k3 d3 m3 l3,cs=[.string v.nm,.bool p1,.slice a1 n1 k1,.slice d1 m1 l1,.bool v.hlo,.bool p2,.slice a2 n2 k2,.slice d2 m2 l2,.bool v.hhi,.bool p3,.slice a3 n3 k3,.slice d3 m3 l3,.bool v.whole] ∧
  GR w B p1 a1 n1 k1 d1 m1 l1 v.obj Y∧GR w B p2 a2 n2 k2 d2 m2 l2 (bat v.hlo v.lo) Y∧GR w B p3 a3 n3 k3 d3 m3 l3 (bat v.hhi v.hi) Y
theorem VC.keep {w w':World} {B:Nat} {cs:List Value} {v:PV} {Y:Nat} (h:VC w B cs v Y) {row:Option Nat} (hn:NoW w row) (hg:w.grownBy w' row):VC w' B cs v Y:=by
 obtain ⟨p1,a1,n1,k1,d1,m1,l1,p2,a2,n2,k2,d2,m2,l2,p3,a3,n3,k3,d3,m3,l3,e,g1,g2,g3⟩:=h
 exact ⟨p1,a1,n1,k1,d1,m1,l1,p2,a2,n2,k2,d2,m2,l2,p3,a3,n3,k3,d3,m3,l3,e,g1.keep hn hg,g2.keep hn hg,g3.keep hn hg⟩
theorem TC.keep {w w':World} {B:Nat} {cs:List Value} {t:PT} {Y:Nat} (h:TC w B cs t Y) {row:Option Nat} (hn:NoW w row) (hg:w.grownBy w' row):TC w' B cs t Y:=by
 obtain ⟨p,a,na,ca,d,nd,cd,e,g⟩:=h
 exact ⟨p,a,na,ca,d,nd,cd,e,g.keep hn hg⟩
theorem TL.keep {w w':World} {B:Nat} {v:Value} {m:Nat} {u:Nat→PT} {Y:Nat→Nat} (h:TL w B v m u Y) {row:Option Nat} (hn:NoW w row) (hne:∀ g,v.ownBlock=some g→row≠some g) (hg:w.grownBy w' row):TL w' B v m u Y:=by
 obtain ⟨E,h1,h2⟩:=h
 exact ⟨E,h1.kept hg hne,fun i hi=>(h2 i hi).keep hn hg⟩
theorem TL.mono {w:World} {B B':Nat} {v:Value} {m:Nat} {u:Nat→PT} {Y:Nat→Nat} (h:TL w B v m u Y) (hB:B'≤B):TL w B' v m u Y:=by
 obtain ⟨E,h1,h2⟩:=h
 exact ⟨E,h1.mono hB,fun i hi=>(h2 i hi).mono hB⟩
theorem TL.form {w:World} {B:Nat} {v:Value} {m:Nat} {u:Nat→PT} {Y:Nat→Nat} (h:TL w B v m u Y):∃ a cap,v = .slice a m cap∧m≤cap:=by
 obtain ⟨E,h1,h2⟩:=h
 exact h1.form
def RC (w:World) (B:Nat) (cs:List Value) (r:PW) (n:Nat) (Y:Nat):Prop :=
 ∃ v m u Z p2 a2 n2 k2 d2 m2 l2 p3 a3 n3 k3 d3 m3 l3,cs=[.string r.nm,v,.bool r.hlo,.bool p2,.slice a2 n2 k2,.slice d2 m2 l2,.bool r.hhi,.bool p3,.slice a3 n3 k3,.slice d3 m3 l3] ∧
  Gath r.t r.nt n u m∧(∀ q,q<r.nt→SzR (r.t q).coef (Z q)∧1≤Z q)∧tot Z r.nt≤Y∧TL w B v m u (fun i=>zs r.t Z (u i).var r.nt-1)∧GR w B p2 a2 n2 k2 d2 m2 l2 (bat r.hlo r.lo) Y∧GR w B p3 a3 n3 k3 d3 m3 l3 (bat r.hhi r.hi) Y
theorem RC.keep {w w':World} {B:Nat} {cs:List Value} {r:PW} {n Y:Nat} (h:RC w B cs r n Y) {row:Option Nat} (hn:NoW w row) (hne:∀ g,row=some g→∃ cur T,w.heap[g]? = some (.cells cur T (0,0))∧T≠52) (hg:w.grownBy w' row):RC w' B cs r n Y:=by
 obtain ⟨v,m,u,Z,p2,a2,n2,k2,d2,m2,l2,p3,a3,n3,k3,d3,m3,l3,e,g1,z1,z2,t1,g2,g3⟩:=h
 refine ⟨v,m,u,Z,p2,a2,n2,k2,d2,m2,l2,p3,a3,n3,k3,d3,m3,l3,e,g1,z1,z2,t1.keep hn ?_ hg,g2.keep hn hg,g3.keep hn hg⟩
 intro g e1 e2
 obtain ⟨cur,T,f2,hT⟩:=hne g e2
 obtain ⟨E,⟨vs,h1,_⟩,_⟩:=t1
 rcases h1.2 with ⟨rfl,_⟩|⟨g',cap,cur',e3,_,f1,_⟩
 ·cases e1
 ·subst e3
  simp [Value.ownBlock] at e1
  subst e1
  rw [f1] at f2
  simp only [Option.some.injEq,Obj.cells.injEq] at f2
  exact hT f2.2.1.symm
theorem VC.mono {w:World} {B B':Nat} {cs:List Value} {v:PV} {Y:Nat} (h:VC w B cs v Y) (hB:B'≤B):VC w B' cs v Y:=by
 obtain ⟨p1,a1,n1,k1,d1,m1,l1,p2,a2,n2,k2,d2,m2,l2,p3,a3,n3,k3,d3,m3,l3,e,g1,g2,g3⟩:=h
 exact ⟨p1,a1,n1,k1,d1,m1,l1,p2,a2,n2,k2,d2,m2,l2,p3,a3,n3,k3,d3,m3,l3,e,g1.mono hB,g2.mono hB,g3.mono hB⟩
theorem RC.mono {w:World} {B B':Nat} {cs:List Value} {r:PW} {n Y:Nat} (h:RC w B cs r n Y) (hB:B'≤B):RC w B' cs r n Y:=by
 obtain ⟨v,m,u,Z,p2,a2,n2,k2,d2,m2,l2,p3,a3,n3,k3,d3,m3,l3,e,g1,z1,z2,t1,g2,g3⟩:=h
 exact ⟨v,m,u,Z,p2,a2,n2,k2,d2,m2,l2,p3,a3,n3,k3,d3,m3,l3,e,g1,z1,z2,t1.mono hB,g2.mono hB,g3.mono hB⟩
def NoT (w:World) (row:Option Nat):Prop:=∀ g,row=some g→∃ cur T,w.heap[g]? = some (.cells cur T (0,0))∧T≠52
theorem Rw.noT {t:TypeId} {w:World} {R:Nat} {cs:Array Value} (h:Rw t w R cs) (ht:t≠52):NoT w (some R):=fun g e=>by cases e;exact ⟨cs,t,h,ht⟩
theorem SL.noT {w:World} {B:Nat} {T:TypeId} {c:Nat} {v:Value} {n:Nat} {E:Nat→List Value} (h:SL w B T c v n E) (ht:T≠52):NoT w v.ownBlock:=by
 intro g e
 obtain ⟨vs,h1,_⟩:=h
 rcases h1.2 with ⟨rfl,_⟩|⟨g',cap,cur,e1,_,f1,_⟩
 ·cases e
 ·subst e1
  simp [Value.ownBlock] at e
  subst e
  exact ⟨cur,T,f1,ht⟩
theorem pV {w:World} {B:Nat} {v:Value} {m:Nat} {u:Nat→PT} {Y:Nat→Nat} (h:TL w B v m u Y) {row:Option Nat} (hn:NoT w row):∀ g,v.ownBlock=some g→row≠some g:=by
 intro g e1 e2
 obtain ⟨cur,T,f2,hT⟩:=hn g e2
 obtain ⟨E,⟨vs,h1,_⟩,_⟩:=h
 rcases h1.2 with ⟨rfl,_⟩|⟨g',cap,cur',e3,_,f1,_⟩
 ·cases e1
 ·subst e3
  simp [Value.ownBlock] at e1
  subst e1
  rw [f1] at f2
  simp only [Option.some.injEq,Obj.cells.injEq] at f2
  exact hT f2.2.1.symm
def TO (w:World) (B:Nat) (P:Prob) (v:Value):Prop :=
 ∃ f c n k c' n' k' va vc ra rc E F,v = .agg #[.bool P.mx,.string P.nm,.bool f,.slice c n k,.slice c' n' k',.slice va P.vn vc,.slice ra P.rn rc]∧GR w B f c n k c' n' k' P.k P.S ∧
  SL w B 50 13 (.slice va P.vn vc) P.vn E∧(∀ q,q<P.vn→VC w B (E q) (P.V q) (P.ZV q))∧SL w B 55 10 (.slice ra P.rn rc) P.rn F∧(∀ q,q<P.rn→RC w B (F q) (P.R q) P.vn (P.ZR q))
def Ch (B C n:Nat) (Pd:Nat→Nat→Nat→Prop):Prop:=∃ lo:Nat→Nat,(∀ q,q<n→lo q≤lo (q+1)∧Pd q (lo q) (lo (q+1)))∧B≤lo 0∧lo n≤C
theorem Ch.nil {B C:Nat} (h:B≤C) (Pd:Nat→Nat→Nat→Prop):Ch B C 0 Pd:=⟨fun _=>B,fun q hq=>by omega,Nat.le_refl _,h⟩
theorem Ch.imp {B C n:Nat} {Pd Pe:Nat→Nat→Nat→Prop} (h:Ch B C n Pd) (hi:∀ q,q<n→∀ l r,Pd q l r→Pe q l r):Ch B C n Pe:=by
 obtain ⟨lo,h1,h2⟩:=h
 exact ⟨lo,fun q hq=>⟨(h1 q hq).1,hi q hq _ _ (h1 q hq).2⟩,h2⟩
theorem Ch.up {B C C' n:Nat} {Pd:Nat→Nat→Nat→Prop} (h:Ch B C n Pd) (hC:C≤C'):Ch B C' n Pd:=by
 obtain ⟨lo,h1,h2,h3⟩:=h
 exact ⟨lo,h1,h2,Nat.le_trans h3 hC⟩
theorem Ch.at {B C n:Nat} {Pd:Nat→Nat→Nat→Prop} (h:Ch B C n Pd) {q:Nat} (hq:q<n):∃ l r,B≤l∧l≤r∧r≤C∧Pd q l r:=by
 obtain ⟨lo,h1,h2,h3⟩:=h
 have L0:=RA.le0 (fun i hi=>(h1 i hi).1)
 have:=L0 q (by omega) 0 (Nat.zero_le _)
 have:=L0 n (Nat.le_refl _) (q+1) (by omega)
 exact ⟨_,_,by omega,(h1 q hq).1,by omega,(h1 q hq).2⟩
theorem Ch.snoc {B C C' D n:Nat} {Pd:Nat→Nat→Nat→Prop} (h:Ch B C n Pd) (hC:C≤C') (hD:C'≤D) (hu:∀ q,q<n→∀ l r r',r≤r'→Pd q l r→Pd q l r') (hn:Pd n C' D):Ch B D (n+1) Pd:=by
 obtain ⟨lo,h1,h2,h3⟩:=h
 have L0:=RA.le0 (fun i hi=>(h1 i hi).1)
 refine ⟨fun i=>if i<n then lo i else if i=n then C' else D,fun q hq=>?_,?_,?_⟩
 ·rcases (by omega:q<n∨q=n) with hq'|rfl
  ·obtain ⟨k0,k1⟩:=h1 q hq'
   simp only [hq',if_true]
   have hle:lo (q+1)≤(if q+1<n then lo (q+1) else if q+1=n then C' else D):=by
    by_cases h7:q+1<n
    ·rw [if_pos h7];exact Nat.le_refl _
    ·have h8:q+1=n:=by omega
     rw [if_neg h7,if_pos h8,h8];omega
   exact ⟨Nat.le_trans k0 hle,hu q hq' _ _ _ hle k1⟩
  ·have e1:¬ q+1<q:=by omega
   have e2:¬ q+1=q:=by omega
   simp only [Nat.lt_irrefl,if_false,if_true,e1,e2]
   exact ⟨hD,hn⟩
 ·by_cases h7:0<n
  ·simp only [h7,if_true];exact h2
  ·obtain rfl:n=0:=by omega
   simp only [Nat.lt_irrefl,if_false,if_true];omega
 ·have e1:¬ n+1<n:=by omega
  have e2:¬ n+1=n:=by omega
  simp only [e1,e2,if_false];exact Nat.le_refl _
def VCA (w:World) (a b:Nat) (cs:List Value) (v:PV) (Y:Nat):Prop :=
 ∃ s1 s2 l1 l2 l3,cs = .string v.nm::(l1 ++ .bool v.hlo::(l2 ++ .bool v.hhi::(l3++[.bool v.whole])))∧NG w a s1 l1 v.obj Y∧NG w s1 s2 l2 (bat v.hlo v.lo) Y∧NG w s2 b l3 (bat v.hhi v.hi) Y∧a≤s1∧s1≤s2∧s2≤b
theorem VCA.below {w w':World} {a b:Nat} {cs:List Value} {v:PV} {Y:Nat} (h:VCA w a b cs v Y) (hb:Below w.heap.size w w'):VCA w' a b cs v Y:=by
 obtain ⟨s1,s2,l1,l2,l3,e,g1,g2,g3,h⟩:=h
 exact ⟨s1,s2,l1,l2,l3,e,g1.below hb,g2.below hb,g3.below hb,h⟩
theorem VCA.keep {w w':World} {a b:Nat} {cs:List Value} {v:PV} {Y:Nat} (h:VCA w a b cs v Y) {row:Option Nat} (hn:NoW w row) (hg:w.grownBy w' row):VCA w' a b cs v Y:=by
 obtain ⟨s1,s2,l1,l2,l3,e,g1,g2,g3,h⟩:=h
 exact ⟨s1,s2,l1,l2,l3,e,g1.keep hn hg,g2.keep hn hg,g3.keep hn hg,h⟩
theorem VCA.up {w:World} {a b b':Nat} {cs:List Value} {v:PV} {Y:Nat} (h:VCA w a b cs v Y) (hb:b≤b'):VCA w a b' cs v Y:=by
 obtain ⟨s1,s2,l1,l2,l3,e,g1,g2,g3,h1,h2,h3⟩:=h
 exact ⟨s1,s2,l1,l2,l3,e,g1,g2,g3.up hb,h1,h2,by omega⟩
theorem VCA.vc {w:World} {a b:Nat} {cs:List Value} {v:PV} {Y:Nat} (h:VCA w a b cs v Y):VC w a cs v Y:=by
 obtain ⟨s1,s2,l1,l2,l3,e,⟨p1,a1,n1,k1,d1,m1,q1,rfl,g1,_⟩,⟨p2,a2,n2,k2,d2,m2,q2,rfl,g2,_⟩,⟨p3,a3,n3,k3,d3,m3,q3,rfl,g3,_⟩,h1,h2,h3⟩:=h
 exact ⟨p1,a1,n1,k1,d1,m1,q1,p2,a2,n2,k2,d2,m2,q2,p3,a3,n3,k3,d3,m3,q3,e,g1,g2.mono h1,g3.mono (by omega)⟩
def RCA (w:World) (a b:Nat) (cs:List Value) (r:PW) (n:Nat) (Y:Nat):Prop :=
 ∃ s1 s2 v m u Z l2 l3,cs = .string r.nm::v :: .bool r.hlo::(l2 ++ .bool r.hhi::l3)∧Gath r.t r.nt n u m∧(∀ q,q<r.nt→SzR (r.t q).coef (Z q)∧1≤Z q)∧tot Z r.nt≤Y∧TLA w a s1 v m u (fun x=>zs r.t Z x r.nt-1)∧NG w s1 s2 l2 (bat r.hlo r.lo) Y∧NG w s2 b l3 (bat r.hhi r.hi) Y∧a≤s1∧s1≤s2∧s2≤b
theorem RCA.below {w w':World} {a b:Nat} {cs:List Value} {r:PW} {n Y:Nat} (h:RCA w a b cs r n Y) (hb:Below w.heap.size w w'):RCA w' a b cs r n Y:=by
 obtain ⟨s1,s2,v,m,u,Z,l2,l3,e,g1,z1,z2,t1,g2,g3,h⟩:=h
 exact ⟨s1,s2,v,m,u,Z,l2,l3,e,g1,z1,z2,t1.below hb,g2.below hb,g3.below hb,h⟩
theorem RCA.keep {w w':World} {a b:Nat} {cs:List Value} {r:PW} {n Y:Nat} (h:RCA w a b cs r n Y) {row:Option Nat} (hn:NoW w row) (ht:NoT w row) (hg:w.grownBy w' row):RCA w' a b cs r n Y:=by
 obtain ⟨s1,s2,v,m,u,Z,l2,l3,e,g1,z1,z2,t1,g2,g3,h⟩:=h
 exact ⟨s1,s2,v,m,u,Z,l2,l3,e,g1,z1,z2,t1.keep hn (pV t1.tl ht) hg,g2.keep hn hg,g3.keep hn hg,h⟩
theorem RCA.up {w:World} {a b b':Nat} {cs:List Value} {r:PW} {n Y:Nat} (h:RCA w a b cs r n Y) (hb:b≤b'):RCA w a b' cs r n Y:=by
 obtain ⟨s1,s2,v,m,u,Z,l2,l3,e,g1,z1,z2,t1,g2,g3,h1,h2,h3⟩:=h
 exact ⟨s1,s2,v,m,u,Z,l2,l3,e,g1,z1,z2,t1,g2,g3.up hb,h1,h2,by omega⟩
theorem RCA.rc {w:World} {a b:Nat} {cs:List Value} {r:PW} {n Y:Nat} (h:RCA w a b cs r n Y):RC w a cs r n Y:=by
 obtain ⟨s1,s2,v,m,u,Z,l2,l3,e,g1,z1,z2,t1,⟨p2,a2,n2,k2,d2,m2,q2,rfl,g2,_⟩,⟨p3,a3,n3,k3,d3,m3,q3,rfl,g3,_⟩,h1,h2,h3⟩:=h
 exact ⟨v,m,u,Z,p2,a2,n2,k2,d2,m2,q2,p3,a3,n3,k3,d3,m3,q3,e,g1,z1,z2,t1.tl,g2.mono h1,g3.mono (by omega)⟩
def TOA (w:World) (B C:Nat) (P:Prob) (v:Value):Prop :=
 ∃ f c n k c' n' k' va vc ra rc E F s1 s2,v = .agg #[.bool P.mx,.string P.nm,.bool f,.slice c n k,.slice c' n' k',.slice va P.vn vc,.slice ra P.rn rc]∧NG w B s1 [.bool f,.slice c n k,.slice c' n' k'] P.k P.S ∧
  SL w B 50 13 (.slice va P.vn vc) P.vn E∧Ch s1 s2 P.vn (fun q l r=>VCA w l r (E q) (P.V q) (P.ZV q))∧SL w B 55 10 (.slice ra P.rn rc) P.rn F∧Ch s2 C P.rn (fun q l r=>RCA w l r (F q) (P.R q) P.vn (P.ZR q))∧B≤s1∧s1≤s2∧s2≤C ∧
  (∀ g,(Value.slice va P.vn vc).ownBlock=some g→g<C)∧(∀ g,(Value.slice ra P.rn rc).ownBlock=some g→g<C)
theorem TOA.to {w:World} {B C:Nat} {P:Prob} {v:Value} (h:TOA w B C P v):TO w B P v:=by
 obtain ⟨f,c,n,k,c',n',k',va,vc,ra,rc,E,F,s1,s2,e,g,S1,C1,S2,C2,h1,h2,h3,_⟩:=h
 refine ⟨f,c,n,k,c',n',k',va,vc,ra,rc,E,F,e,g.gr,S1,fun q hq=>?_,S2,fun q hq=>?_⟩
 ·obtain ⟨l,r,a1,a2,a3,a4⟩:=C1.at hq
  exact a4.vc.mono (by omega)
 ·obtain ⟨l,r,a1,a2,a3,a4⟩:=C2.at hq
  exact a4.rc.mono (by omega)
end Go.Proofs.YtmeimjakdheidaaGreatDoor

import Derived.Test.YtklhilnobgieaaaGreatDoorPrAAll
import Derived.Deep.RegionWith
import Derived.Test.YtklhilnobgieaaaGreatDoorRatAll
import Derived.Test.YtklhilnobgieaaaGreatDoorNumAll
import Derived.Shelf.Strconv.Clone
import Derived.Test.YtklhilnobgieaaaGreatDoorWhEAll
import Derived.Test.YtklhilnobgieaaaGreatDoorDivAll
namespace Go.Proofs.YtklhilnobgieaaaGreatDoor
open Go.RowKit Go.Maps
def TC (w:World) (B:Nat) (cs:List Value) (t:PT) (Y:Nat):Prop:=∃ p a na ca d nd cd,cs = [.int .i64 t.var,.bool p,.slice a na ca,.slice d nd cd]∧GR w B p a na ca d nd cd t.coef Y
theorem TC.below {w w':World} {B:Nat} {cs:List Value} {t:PT} {Y:Nat} (h:TC w B cs t Y) (hb:Below w.heap.size w w'):TC w' B cs t Y:=by
 obtain ⟨p,a,na,ca,d,nd,cd,e,g⟩:=h
 exact ⟨p,a,na,ca,d,nd,cd,e,g.below hb⟩
theorem TC.growS {w w':World} {B:Nat} {cs:List Value} {t:PT} {Y:Nat} (h:TC w B cs t Y) {B':Nat} {T:TypeId} {c:Nat} {lv:Value} {n:Nat} {E:Nat→List Value} (k:SL w B' T c lv n E) (hT:59 ≠ T) (hg:w.grownBy w' lv.ownBlock):TC w' B cs t Y:=by
 obtain ⟨p,a,na,ca,d,nd,cd,e,g⟩:=h
 exact ⟨p,a,na,ca,d,nd,cd,e,g.growS k hT hg⟩
theorem TC.mono {w:World} {B B':Nat} {cs:List Value} {t:PT} {Y:Nat} (h:TC w B cs t Y) (hB:B'≤B):TC w B' cs t Y:=by
 obtain ⟨p,a,na,ca,d,nd,cd,e,g⟩:=h
 exact ⟨p,a,na,ca,d,nd,cd,e,g.mono hB⟩
def TL (w:World) (B:Nat) (v:Value) (m:Nat) (u:Nat→PT) (Y:Nat→Nat):Prop:=∃ E,SL w B 58 4 v m E∧∀ i,i < m→TC w B (E i) (u i) (Y i)
theorem LT.get {w:World} {a:Option Addr} {n:Nat} {t:Nat→PT} {Z:Nat→Nat} (h:LT w a n t Z):∀ q,q < n→SzR (t q).coef (Z q)∧1≤Z q:=by
 intro q hq
 rcases h with h | ⟨b,o,_,h⟩
 ·omega
 ·exact ⟨(h q hq).2.2.2.1,(h q hq).2.2.1⟩
theorem GMap.look' {w:World} {B b:Nat} {t:Nat→PT} {Z:Nat→Nat} {n k S:Nat} {D:DataW Value} {V:Int→Value} (h:GMap w B b t Z n k S D V) {j:Nat} (hj:j≤9223372036854775807) {v:Value} (hv:V (j:Int) = v) :
  ∀ w',Below w.heap.size w w'→(Instr.lookup 167 (.map (some b)) (.int .i64 (j:Int)) false).run Tryz.prog w' = .ok v w':=by
 intro w' hb
 rw [← hv]
 exact (h.below hb).look (by omega) (by omega)
set_option maxRecDepth 100000 in
set_option maxHeartbeats 8000000 in
theorem gatherQ (a:Option Addr) (nt cap:Nat) (t:Nat→PT) (Z:Nat→Nat) (n:Nat) (w:World) (hL:LT w a nt t Z) (hK:tot Z nt≤1048576) (hn:n≤1048576) (hT:TB w) :
  Calls Tryz.prog 81 #[.slice a nt cap,.int .i64 (n:Int)] w fun e w'=>∃ v m u,e = .returned v∧Gath t nt n u m∧TL w' w.heap.size v m u (fun i=>zs t Z (u i).var nt - 1)∧Below w.heap.size w w':=by
 have hnt:nt≤1048576:=by have:=tot_len Z nt;omega
 have hZ:∀ q,q < nt→Z q≤1048576:=fun q hq=>by have:=tot_le (Z:=Z) hq;omega
 have HZ:Hid (∀ q,q < nt→Z q≤1048576):=hZ
 clear hZ
 have G0:=GMap.start w t Z n 1048576
 have hb0:=bel_d0 w (.map #[] 0)
 have hmm:=@run_makeMap Tryz.prog
 go_enter Tryz.func81,Tryz.ntmps81
 go_wp2
 go_loopw [15] (fun s15 wr=>∃ (k:Nat) (D:DataW Value) (V:Int→Value),k≤nt∧s15 = .int .i64 k∧GMap wr w.heap.size w.heap.size t Z n k 1048576 D V∧Below w.heap.size w wr) (fun s15 _=>nt - (intOf s15).toNat)
 case atStart=>exact ⟨0,_,_,Nat.zero_le _,rfl,G0,hb0⟩
 case round =>
  clear G0 hb0
  obtain ⟨k,D,V,hk,rfl,G,hbel⟩:=hrel
  clear hmm
  by_cases hlt:k < nt
  ·have hkI:(k:Int) < (nt:Int):=by omega
   have hkI2:(k:Int) * 4 = ((k * 4:Nat):Int):=by omega
   rcases hL with h0 | ⟨tb,to,rfl,hel⟩
   ·omega
   have hTm:=hel k hlt
   obtain ⟨v,ev⟩:∃ v,v = (t k).var:=⟨_,rfl⟩
   obtain ⟨t0,⟨pC,aC,nC,cC,dC,mC,lC,t1,t2,t3,hC⟩,hsC,hszC,hv1,hv2⟩:=hTm
   rw [← ev] at t0 hv1 hv2
   have EV:Hid (v = (t k).var):=ev
   have HC:Hid (TR w pC aC nC cC dC mC lC (t k).coef (Z k)):=hC
   replace t0:=kept_c hbel t0
   replace t1:=kept_c hbel t1
   replace t2:=kept_c hbel t2
   replace t3:=kept_c hbel t3
   clear hel ev hC
   have hz:=bel_d0 wr (.cells #[.int .i64 v,.bool pC,.slice aC nC cC,.slice dC mC lC] 58)
   by_cases hv:0≤v∧v < (n:Int)
   ·obtain ⟨hv0,hvn⟩:=hv
    obtain ⟨j,rfl⟩:=Int.eq_ofNat_of_zero_le hv0
    have N:=box_new wr #[.int .i64 (j:Int),.bool pC,.slice aC nC cC,.slice dC mC lC] 58
    have hsz3:(wr.alloc (.cells #[.int .i64 (j:Int),.bool pC,.slice aC nC cC,.slice dC mC lC] 58)).heap.size = wr.heap.size + 1:=by simp
    obtain ⟨o2,k2,eV⟩:=(G.ml (j:Int)).form
    obtain ⟨c,ec⟩:∃ c,c = (pn t Z n (j:Int) k).length:=⟨_,rfl⟩
    rw [← ec] at eV
    have EC:Hid (c = (pn t Z n (j:Int) k).length):=ec
    clear ec
    have hrow:∀ g,(Value.slice o2 c k2).ownBlock = some g→g < wr.heap.size:=fun g hg=>((G.ml (j:Int)).lt g (by rw [eV];exact hg)).2
    have hbw:w.heap.size < wr.heap.size:=G.own.lt
    have hck:c≤1048576:=by have:=pn_len t Z n (j:Int) k;have:=EC.out;omega
    go_wp2_with fail
    have G3:=G.below hz
    have hbel3:=bel_tr hbel hz
    have n0:=N 0 _ rfl
    have n1:=N 1 _ rfl
    have n2:=N 2 _ rfl
    have n3:=N 3 _ rfl
    clear t0 t1 t2 t3 hz N G hbel
    generalize wr.alloc (.cells #[.int .i64 (j:Int),.bool pC,.slice aC nC cC,.slice dC mC lC] 58) = W3 at *
    have LK:=G3.look' (by omega) eV
    have MK:∀ w',Below W3.heap.size W3 w'→ML w' w.heap.size (.slice o2 c k2) c (lX (pn t Z n (j:Int) k)) 1048576:=fun w' hb=>by
     have h:=(G3.below hb).ml (j:Int)
     rw [eV,← EC.out] at h
     exact h
    have OK:∀ V' w',Below W3.heap.size W3 V'→V'.grownBy w' (Value.slice o2 c k2).ownBlock→w'.ownsMap Tryz.prog 3 rawR w.heap.size k D:=fun V' w' hb hg=>by
     refine (G3.below hb).own.kept hg fun e=>?_
     obtain ⟨vs,r,_⟩:=MK V' hb
     rcases row_map r (G3.below hb).isMap with e3 | e3
     ·rw [e3] at e;cases e
     ·exact e3 e.symm
    have HB:∀ w',Below W3.heap.size W3 w'→(w'.cell? ⟨wr.heap.size,0,none⟩ = some (.int .i64 (j:Int))∧w'.cell? ⟨wr.heap.size,1,none⟩ = some (.bool pC)∧w'.cell? ⟨wr.heap.size,2,none⟩ = some (.slice aC nC cC)∧w'.cell? ⟨wr.heap.size,3,none⟩ = some (.slice dC mC lC)):=fun w' h=>⟨kept_c h n0,kept_c h n1,kept_c h n2,kept_c h n3⟩
    have HG:∀ V w':World,(V.cell? ⟨wr.heap.size,0,none⟩ = some (.int .i64 (j:Int))∧V.cell? ⟨wr.heap.size,1,none⟩ = some (.bool pC)∧V.cell? ⟨wr.heap.size,2,none⟩ = some (.slice aC nC cC)∧V.cell? ⟨wr.heap.size,3,none⟩ = some (.slice dC mC lC))→V.grownBy w' (Value.slice o2 c k2).ownBlock→(w'.cell? ⟨wr.heap.size,0,none⟩ = some (.int .i64 (j:Int))∧w'.cell? ⟨wr.heap.size,1,none⟩ = some (.bool pC)∧w'.cell? ⟨wr.heap.size,2,none⟩ = some (.slice aC nC cC)∧w'.cell? ⟨wr.heap.size,3,none⟩ = some (.slice dC mC lC)) :=
     fun V w' h hg=>⟨keep_ne hg h.1 (fun e=>by have:=hrow _ e;simp at this),keep_ne hg h.2.1 (fun e=>by have:=hrow _ e;simp at this),keep_ne hg h.2.2.1 (fun e=>by have:=hrow _ e;simp at this),keep_ne hg h.2.2.2 (fun e=>by have:=hrow _ e;simp at this)⟩
    have HM:∀ V w':World,(V.cell? ⟨wr.heap.size,0,none⟩ = some (.int .i64 (j:Int))∧V.cell? ⟨wr.heap.size,1,none⟩ = some (.bool pC)∧V.cell? ⟨wr.heap.size,2,none⟩ = some (.slice aC nC cC)∧V.cell? ⟨wr.heap.size,3,none⟩ = some (.slice dC mC lC))→V.grownBy w' (some w.heap.size)→(w'.cell? ⟨wr.heap.size,0,none⟩ = some (.int .i64 (j:Int))∧w'.cell? ⟨wr.heap.size,1,none⟩ = some (.bool pC)∧w'.cell? ⟨wr.heap.size,2,none⟩ = some (.slice aC nC cC)∧w'.cell? ⟨wr.heap.size,3,none⟩ = some (.slice dC mC lC)) :=
     fun V w' h hg=>⟨keep_ne hg h.1 (fun e=>by simp at e;omega),keep_ne hg h.2.1 (fun e=>by simp at e;omega),keep_ne hg h.2.2.1 (fun e=>by simp at e;omega),keep_ne hg h.2.2.2 (fun e=>by simp at e;omega)⟩
    have hsC2:Z k≤1048576:=HZ.out k hlt
    have HEL:∀ w',Below W3.heap.size W3 w'→EL w' w.heap.size pC aC nC cC dC mC lC (t k).coef 1048576:=fun w' hb=>.inr fun w2 h2=>(HC.out.below ((bel_tr hbel3 hb).trans h2)).up hsC2
    have HBN:∀ V' w3 w4,Below W3.heap.size W3 V'→V'.grownBy w3 (Value.slice o2 c k2).ownBlock→w3.grownBy w4 (some w.heap.size)→Below w.heap.size w w4:=fun V' w3 w4 hb hg hg2=>by
     have h1:=hb.size
     have h2:=hg.size
     exact ((bel_tr hbel3 hb).trans (grown_below hg (by omega) (fun g e=>((MK V' hb).lt g e).1))).trans (grown_below hg2 (by omega) (fun g e=>by cases e;exact Nat.le_refl _))
    have LK1:=LK W3.drew (bel_d1 _)
    have LK2:=fun o=>LK (W3.drew.alloc o) (bel_d2 _ _)
    have LK3:=fun o=>LK (W3.alloc o).drew (bel_dr (bel_d0 _ _))
    clear LK
    have hBw:w.heap.size≤W3.heap.size:=by omega
    have HS3:Hid (W3.heap.size = wr.heap.size + 1):=hsz3
    clear hsz3
    go_region_held3 (fun w'=>w'.cell? ⟨wr.heap.size,0,none⟩ = some (.int .i64 (j:Int))∧w'.cell? ⟨wr.heap.size,1,none⟩ = some (.bool pC)∧w'.cell? ⟨wr.heap.size,2,none⟩ = some (.slice aC nC cC)∧w'.cell? ⟨wr.heap.size,3,none⟩ = some (.slice dC mC lC))
     (first | (with_reducible refine HM _ _ (HG _ _ (HB _ ?_) hgrow) hgr2;repeat' (first | with_reducible exact Below.refl _ _ | with_reducible refine bel_dr ?_ | with_reducible refine bel_a ?_)) | (with_reducible refine HG _ _ (HB _ ?_) hgrow;repeat' (first | with_reducible exact Below.refl _ _ | with_reducible refine bel_dr ?_ | with_reducible refine bel_a ?_)) | (with_reducible refine HB _ ?_;repeat' (first | with_reducible exact Below.refl _ _ | with_reducible refine bel_dr ?_ | with_reducible refine bel_a ?_)))
     ((first
      | (refine step_appendM _ (by rfl) _ _ (by rfl) w.heap.size (.slice o2 c k2) c (lX (pn t Z n (j:Int) k)) 1048576 (by rfl) (MK _ (by first | exact bel_d2 _ _ | exact bel_dr (bel_d0 _ _))) W3.heap.size _ (by rfl) pC aC nC cC dC mC lC _ (by first | exact cell_new3 (by rfl) | exact cell_new3 (w:=W3) (by rfl)) (HEL _ (by first | exact bel_d2 _ _ | exact bel_dr (bel_d0 _ _))) (by omega) (by simp;omega) (W3.heap.size + 1) (by simp) ?_;intro g cap1 w3 LN hgrow hat hlt1;obtain ⟨w4,hrun,ho,hgr2⟩:=(OK _ _ (by first | exact bel_d2 _ _ | exact bel_dr (bel_d0 _ _)) hgrow).update (int_keyed Tryz.underlying3) Tryz.underlying167 (show k < maxLen by unfold maxLen;omega) (keyOf_int_mk Tryz.underlying3 (wf_i64 (x:=(j:Int)) (by omega) (by omega))) (val:=.slice (some ⟨g,0,none⟩) (c + 1) cap1) (d:=.held (.slice (some ⟨g,0,none⟩) (c + 1) cap1)) (ps:=[]) rfl;have GN:=GMap.step' EV.out (G3.below (by first | exact bel_d2 _ _ | exact bel_dr (bel_d0 _ _))) ⟨hv0,hvn⟩ EC.out eV LN hgrow hat (by simp) ho hgr2;have BN:Below w.heap.size w w4:=HBN _ _ _ (by first | exact bel_d2 _ _ | exact bel_dr (bel_d0 _ _)) hgrow hgr2)))
    all_goals
     clear LK1 LK2 LK3 hrun
     go_wp2
     go_roundw
     case rel=>first | exact ⟨k + 1,_,_,by omega,by go_num,GN,BN⟩ | ((repeat apply Exists.intro);refine ⟨?_,rfl⟩;exact ⟨k + 1,_,_,by omega,by go_num,GN,BN⟩)
     case measure=>simp [intOf];omega
   ·have G':=(G.below hz).skip (k:=k) (by rw [← EV.out];exact hv)
    have hbel':=bel_tr hbel hz
    clear hz G
    by_cases hv0:0≤v
    ·have hvn:¬ v < (n:Int):=fun h=>hv ⟨hv0,h⟩
     go_wp2
     go_roundw
     case rel=>first | exact ⟨k + 1,_,_,by omega,by go_num,G',hbel'⟩ | ((repeat apply Exists.intro);refine ⟨?_,rfl⟩;exact ⟨k + 1,_,_,by omega,by go_num,G',hbel'⟩)
     case measure=>simp [intOf];omega
    ·go_wp2
     go_roundw
     case rel=>first | exact ⟨k + 1,_,_,by omega,by go_num,G',hbel'⟩ | ((repeat apply Exists.intro);refine ⟨?_,rfl⟩;exact ⟨k + 1,_,_,by omega,by go_num,G',hbel'⟩)
     case measure=>simp [intOf];omega
  ·have hkI:¬ (k:Int) < (nt:Int):=by omega
   obtain rfl:k = nt:=by omega
   have hown:=G.own
   go_wp2_with (first
    | (go_at_call 115;refine (keysK _ _).mono ?_;rintro e w1 ⟨rfl,rfl⟩)
    | (go_at_call 114;refine (sortedQ w.heap.size k D wr hown (by omega)).mono ?_;rintro e w9 ⟨sa,sc,ks,rfl,hkys,hcells,hkn,hb9⟩))
   have G9:=G.below hb9
   have hbel9:=bel_tr hbel hb9
   have hT9:=hT.below hbel9
   have hgz:=hL.get
   clear hown G hb9 hbel hT hL hlt hk hkI
   have hkl:ks.length≤1048576:=by omega
   clear hkn
   go_loopw [8,44] (fun s8 s44 wq=>∃ (i m:Nat) (u:Nat→PT) (E:Nat→List Value),i≤ks.length∧m≤i∧s44 = .int .i64 i∧SL wq w9.heap.size 58 4 s8 m E∧(∀ q,q < m→TC wq w9.heap.size (E q) (u q) (zs t Z (u q).var k - 1))∧Gi t k ks i u m∧Below w9.heap.size w9 wq) (fun _ s44 _=>ks.length - (intOf s44).toNat)
   case atStart=>exact ⟨0,0,fun _=>⟨0,0⟩,fun _=>[],Nat.zero_le _,Nat.le_refl _,rfl,SL.nil _ _ _ _ _,fun q hq=>by omega,Gi.start _ _ _ _,Below.refl _ _⟩
   case round =>
    obtain ⟨i,m,u,E,hi,hmi,rfl,hS,hTC,hGi,hbq⟩:=hrel
    obtain ⟨ga,gc,rfl,hgc⟩:=hS.form
    by_cases hlt:i < ks.length
    ·have hkI:(i:Int) < (ks.length:Int):=by omega
     obtain ⟨x,hx⟩:∃ x,ks[i]? = some x:=⟨ks[i],List.getElem?_eq_getElem hlt⟩
     rcases hcells with h0 | ⟨sg,rfl,hcells⟩
     ·omega
     have hxc:=kept_c hbq (hcells i x hx)
     have hpn:pn t Z n x k ≠ []:=(G9.has x).1 ((hkys.1 x).1 (List.mem_of_getElem? hx))
     have hin:0≤x∧x < (n:Int):=by
      by_cases h:0≤x∧x < (n:Int)
      ·exact h
      ·unfold pn at hpn;rw [if_neg h] at hpn;exact absurd rfl hpn
     have Gq:=G9.below hbq
     obtain ⟨o2,k2,eV⟩:=(Gq.ml x).form
     have Mq:=Gq.ml x
     rw [eV] at Mq
     have hlook:=Gq.look (x:=x) (by omega) (by omega)
     rw [eV] at hlook
     rw [pn_in hin] at Mq hlook hpn
     clear Gq eV
     have hlq:=Mq.lq
     have hpz:=ps_sz x k hgz
     have hgs:=gsum_sz x hgz hpn
     have hzt:=zs_tot t Z x k
     have hzl:=zs_le t Z x k
     have hpl:=ps_len t Z x k
     have hgp:=gsum_ps t Z x k
     have hsz:∀ q,q≤(ps t Z x k).length→SzR (rsum (lX (ps t Z x k)) q) 1048577:=fun q hq=>(rsum_sz (fun i hi=>(hpz i hi).1) q hq).le (by have:=tot_mono (lZ (ps t Z x k)) hq;omega)
     have HH:=sumQ o2 (ps t Z x k).length k2 (lX (ps t Z x k)) (fun _=>1048576) 1048577 wr hlq (fun _ _=>⟨by decide,by decide⟩) (by decide) hsz (by omega) (hT9.below hbq)
     obtain ⟨sgn,esgn⟩:∃ sgn,sgn = (gsum t k x).num.sign:=⟨_,rfl⟩
     have ESG:Hid (sgn = (gsum t k x).num.sign):=esgn
     have HGP:Hid (rsum (lX (ps t Z x k)) (ps t Z x k).length = gsum t k x):=hgp
     have HX:Hid (ks[i]? = some x):=hx
     have HGS:Hid (SzR (gsum t k x) (zs t Z x k - 1)∧2≤zs t Z x k):=hgs
     have hzs:zs t Z x k≤1048576:=by omega
     have hz2:2≤zs t Z x k:=hgs.2
     clear hcells hpn hlq hpz hgs hzt hzl hpl hgp hsz Mq hx esgn
     have hnb:∀ g,(Value.slice ga m gc).ownBlock = some g→w9.heap.size≤g∧g < wr.heap.size:=fun g hg=>hS.lt g hg
     have hsq:=Below.size hbq
     by_cases hz0:gsum t k x = 0
     ·obtain rfl:sgn = 0:=by rw [ESG.out,hz0];rfl
      go_wp2_with (first
       | (go_at_call 33;refine HH.mono ?_;rintro e w2 ⟨f,c1,n1,l1,d1,m1,l2,rfl,G,hx2⟩)
       | (go_at_call 116;refine (rsignB 0 _ (G.tr.below (bel_d0 _ _)) (by omega) (by omega) (by rw [HGP.out];exact ESG.out)).mono ?_;rintro e w5 ⟨rfl,hb5⟩))
      have hb6:=bel_tr (bel_tr hx2 (bel_d0 _ _)) hb5
      have hS6:=hS.below hb6
      have hTC6:∀ q,q < m→TC w5 w9.heap.size (E q) (u q) (zs t Z (u q).var k - 1):=fun q hq=>(hTC q hq).below hb6
      have hGi6:=hGi.skip HX.out hz0
      have hbq6:=bel_tr hbq hb6
      clear hS hTC hGi hbq hb6 hb5 G hx2 hlook HH
      go_wp2
      go_roundw
      case rel=>first | exact ⟨i + 1,m,u,E,by omega,by omega,by go_num,hS6,hTC6,hGi6,hbq6⟩ | ((repeat apply Exists.intro);refine ⟨?_,rfl⟩;exact ⟨i + 1,m,u,E,by omega,by omega,by go_num,hS6,hTC6,hGi6,hbq6⟩)
      case measure=>simp [intOf];omega
     ·have hsn:¬ sgn = 0:=fun e=>hz0 (by
       have h1:=ESG.out
       rw [e] at h1
       have h2:=Int.sign_eq_zero_iff_zero.1 h1.symm
       exact Rat.num_eq_zero.1 h2)
      have hsn2:(sgn == 0) = false:=by simpa using hsn
      go_wp2_with (first
       | (go_at_call 33;refine HH.mono ?_;rintro e w2 ⟨f,c1,n1,l1,d1,m1,l2,rfl,G,hx2⟩)
       | (go_at_call 116;refine (rsignB sgn _ (G.tr.below (bel_d0 _ _)) (by omega) (by omega) (by rw [HGP.out];exact ESG.out)).mono ?_;rintro e w5 ⟨rfl,hb5⟩;have V5:=(var3_new w2 (.bool f) (.slice c1 n1 l1) (.slice d1 m1 l2) 27).below hb5;obtain ⟨y0,y1,y2,_,_,_⟩:=id V5;have hb6:=bel_tr (bel_tr hx2 (bel_d0 _ _)) hb5;have hs6:=Below.size hb6;have hS6:=hS.below (bel_tr hb6 (bel_d0 w5 (.cells #[.int .i64 x,.bool f,.slice c1 n1 l1,.slice d1 m1 l2] 58))))
       | (at_builtin;refine wpList_appendS _ rfl _ _ 54 58 4 64 rfl Tryz.underlying54 infTerm (by decide) (by decide) w9.heap.size (.slice ga m gc) m E rfl hS6 w5.heap.size _ rfl [.int .i64 x,.bool f,.slice c1 n1 l1,.slice d1 m1 l2] rfl (fun u hu=>by simp at hu;rcases hu with rfl | rfl | rfl | rfl <;> rfl) (box_new w5 #[.int .i64 x,.bool f,.slice c1 n1 l1,.slice d1 m1 l2] 58) (by omega) (by simp;omega) (w5.heap.size + 1) (by simp) ?_;intro g1 cap1 w6 SN hgrow hat _)
       | fail)
      have hb7:=bel_tr hb6 (bel_d0 w5 (.cells #[.int .i64 x,.bool f,.slice c1 n1 l1,.slice d1 m1 l2] 58))
      have hGN:=((((G.val HGP.out).fit HGS.out.1).mono (show w9.heap.size≤wr.heap.size by omega)).below (bel_tr (bel_tr (bel_d0 _ _) hb5) (bel_d0 w5 (.cells #[.int .i64 x,.bool f,.slice c1 n1 l1,.slice d1 m1 l2] 58)))).growS hS6 (by decide) hgrow
      have hTCN:∀ q,q < m + 1→TC w6 w9.heap.size ((fun i=>if i < m then E i else [.int .i64 x,.bool f,.slice c1 n1 l1,.slice d1 m1 l2]) q) ((fun q=>if q < m then u q else ⟨x,gsum t k x⟩) q) (zs t Z ((fun q=>if q < m then u q else ⟨x,gsum t k x⟩) q).var k - 1):=by
       intro q hq
       by_cases h:q < m
       ·simp only [h,if_true]
        exact ((hTC q h).below hb7).growS hS6 (by decide) hgrow
       ·simp only [h,if_false]
        exact ⟨f,c1,n1,l1,d1,m1,l2,rfl,hGN⟩
      have hGiN:=hGi.step hkys.2 HX.out hz0
      have hbN:Below w9.heap.size w9 w6:=(bel_tr hbq hb7).trans (grown_below hgrow (by simp;omega) (fun g hg=>(hnb g hg).1))
      clear hS hS6 hTC hGi hbq hb6 hb5 hb7 hGN G hx2 hlook HH hgrow hat V5 y0 y1 y2
      go_wp2
      go_roundw
      case rel=>first | exact ⟨i + 1,m + 1,_,_,by omega,by omega,by go_num,SN,hTCN,hGiN,hbN⟩ | ((repeat apply Exists.intro);refine ⟨?_,rfl⟩;exact ⟨i + 1,m + 1,_,_,by omega,by omega,by go_num,SN,hTCN,hGiN,hbN⟩)
      case measure=>simp [intOf];omega
    ·have hkI:¬ (i:Int) < (ks.length:Int):=by omega
     obtain rfl:i = ks.length:=by omega
     have hg:=hGi.gath (n:=n) (fun x hx=>by
      have hpn:pn t Z n x k ≠ []:=(G9.has x).1 ((hkys.1 x).1 hx)
      by_cases h:0≤x∧x < (n:Int)
      ·exact h
      ·unfold pn at hpn;rw [if_neg h] at hpn;exact absurd rfl hpn) (fun x h0 h1 h2=>(hkys.1 x).2 ((G9.has x).2 (by rw [pn_in ⟨h0,h1⟩];exact gsum_ne h2)))
     have hs9:=Below.size hbel9
     go_wp2
     go_ret
     exact ⟨_,rfl,m,u,hg,⟨E,hS.mono hs9,fun q hq=>(hTC q hq).mono hs9⟩,bel_tr hbel9 hbq⟩
end Go.Proofs.YtklhilnobgieaaaGreatDoor
namespace Go.Proofs.YtklhilnobgieaaaGreatDoor
open Go.RowKit
def Rw (t:TypeId) (w:World) (R:Nat) (cs:Array Value):Prop:=w.heap[R]? = some (.cells cs t (0,0))
theorem Rw.lt {t:TypeId} {w:World} {R:Nat} {cs:Array Value} (h:Rw t w R cs):R < w.heap.size:=(Array.getElem?_eq_some_iff.1 h).1
theorem Rw.new (t:TypeId) (w:World) (cs:Array Value):Rw t (w.alloc (.cells cs t)) w.heap.size cs:=heap_alloc_new _ _
theorem Rw.below {t:TypeId} {w w':World} {R:Nat} {cs:Array Value} (h:Rw t w R cs) (hb:Below w.heap.size w w'):Rw t w' R cs:=(hb.block R h.lt).trans h
theorem Rw.off {t:TypeId} {w w':World} {R g:Nat} {cs:Array Value} (h:Rw t w R cs) (o:Off g w w') (hg:R ≠ g):Rw t w' R cs:=(o.block R hg).trans h
theorem Rw.alloc {t:TypeId} {w:World} {R:Nat} {cs:Array Value} (h:Rw t w R cs) (o:Obj):Rw t (w.alloc o) R cs:=h.below ((Below.refl _ _).alloc (Nat.le_refl _) _)
theorem Rw.cell {t:TypeId} {w:World} {R:Nat} {cs:Array Value} (h:Rw t w R cs) (j:Nat):w.cell? ⟨R,j,none⟩ = cs[j]?:=cell_of_row w R j cs t _ h
theorem Rw.frozen {t:TypeId} {w:World} {R:Nat} {cs:Array Value} (h:Rw t w R cs) (j:Nat):w.frozen? ⟨R,j,none⟩ = false:=frozen_of_row w R j cs t h
theorem Rw.row {t:TypeId} {w:World} {R:Nat} {cs:Array Value} (h:Rw t w R cs) (cs':Array Value):Rw t (w.setRow R cs') R cs'∧Off R w (w.setRow R cs') :=
 ⟨setRow_heap w R cs cs' t _ h,⟨rfl,rfl,rfl,by simp,fun k hk=>setRow_other w R k cs' hk⟩⟩
theorem Rw.put {t:TypeId} {w:World} {R:Nat} {old:Array Value} (h:Rw t w R old) (cs:Array Value) {ops:Array Oper} {rest:List Oper} {o:Oper} {a:Act} {Q:Exit→Act→World→Prop} (hgd:o.guard = none) (x y:Operand) (ho:o.op = .store t x y)
  (hx:a.eval x = .pointer (some ⟨R,0,none⟩)) (hy:a.eval y = .agg cs) (hi:(Tryz.prog.info? t).map (·.size) = some cs.size) (hold:old.size = cs.size) (h1:cs.all (·.oneCell') = true)
  (hK:∀ w',Rw t w' R cs→Off R w w'→wpList Tryz.prog ops Q rest (a.put o.dst undef) w'):wpList Tryz.prog ops Q (o :: rest) a w :=
 wpList_store_row hgd t x y ho R cs hx hy t old h hi hold h1 (hK _ (h.row cs).1 (h.row cs).2)
theorem Rw.get {t:TypeId} {w:World} {R:Nat} {cs:Array Value} (h:Rw t w R cs) {ops:Array Oper} {rest:List Oper} {o:Oper} {a:Act} {Q:Exit→Act→World→Prop} (hgd:o.guard = none) (x:Operand) (ho:o.op = .load t x)
  (hx:a.eval x = .pointer (some ⟨R,0,none⟩)) {fs} (hu:Tryz.prog.underlying t = some (.struct fs)) (hi:(Tryz.prog.info? t).map (·.size) = some cs.size)
  (hK:wpList Tryz.prog ops Q rest (a.put o.dst (.agg cs)) w):wpList Tryz.prog ops Q (o :: rest) a w :=
 wpList_load_row hgd t x ho R hx t cs _ (.struct fs) h hu rfl hi hK
theorem Rw.ret2 {fn:Func} {p q:Tmp} {ty:TypeId} (h:fn.results = #[.cell p ty,.tmp q]) (tmps:Array Value) {w:World} {g:Nat} {cs:Array Value} (hr:Rw ty w g cs)
  (hp:tmps.getD p undef = .pointer (some ⟨g,0,none⟩)) {fs} (hu:Tryz.prog.underlying ty = some (.struct fs)) (hi:(Tryz.prog.info? ty).map (·.size) = some cs.size) :
  (results fn tmps).run Tryz.prog w = .ok (.tuple #[.agg cs,tmps.getD q undef]) w:=by
 have hp':tmps[p]?.getD undef = .pointer (some ⟨g,0,none⟩):=by simpa using hp
 simp [results,h,hp',asAddr,run_loadVar_row w g ty ty cs _ (.struct fs) hr hu rfl hi]
theorem Rw.ret1 {fn:Func} {p:Tmp} {ty:TypeId} (h:fn.results = #[.cell p ty]) (tmps:Array Value) {w:World} {g:Nat} {cs:Array Value} (hr:Rw ty w g cs)
  (hp:tmps.getD p undef = .pointer (some ⟨g,0,none⟩)) {fs} (hu:Tryz.prog.underlying ty = some (.struct fs)) (hi:(Tryz.prog.info? ty).map (·.size) = some cs.size) :
  (results fn tmps).run Tryz.prog w = .ok (.agg cs) w:=results_cell_row h tmps w g ty cs _ (.struct fs) hp hr hu rfl hi
end Go.Proofs.YtklhilnobgieaaaGreatDoor
namespace Go.Proofs.YtklhilnobgieaaaGreatDoor
open Go.RowKit Go.Shelf
def cloneRen:Ren:=⟨fun | 316=>113 | n=>n,fun | 5=>5 | 9=>9 | 3=>3 | 4=>4 | 37=>178 | 127=>179 | n=>n,fun n=>n⟩
theorem lays316:LaysM.n316 Tryz.prog cloneRen:={
 mixed:=by kernel_rfl
 f316:=Tryz.func113.trans (congrArg some (by kernel_rfl))
 t0:=Tryz.underlying0
 a0:=Tryz.isAgg0
 z0:=Tryz.sizeOf0
 v0:=Tryz.zeroValue0
 t3:=Tryz.underlying3
 a3:=Tryz.isAgg3
 z3:=Tryz.sizeOf3
 v3:=Tryz.zeroValue3
 t4:=Tryz.underlying4
 a4:=Tryz.isAgg4
 z4:=Tryz.sizeOf4
 v4:=Tryz.zeroValue4
 t5:=Tryz.underlying5
 a5:=Tryz.isAgg5
 z5:=Tryz.sizeOf5
 v5:=Tryz.zeroValue5
 t9:=Tryz.underlying9
 a9:=Tryz.isAgg9
 z9:=Tryz.sizeOf9
 v9:=Tryz.zeroValue9
 t37:=Tryz.underlying178
 a37:=Tryz.isAgg178
 z37:=Tryz.sizeOf178
 v37:=Tryz.zeroValue178
 t127:=Tryz.underlying179
 a127:=Tryz.isAgg179
 z127:=Tryz.sizeOf179
 v127:=Tryz.zeroValue179
 i0:=by kernel_rfl
 i3:=by kernel_rfl
 i4:=by kernel_rfl
 i5:=by kernel_rfl
 i9:=by kernel_rfl
 i37:=by kernel_rfl
 i127:=by kernel_rfl }
theorem cloneQ (s:ByteArray) (w:World) (hs:s.size≤1000000000):Calls Tryz.prog 78 #[.string s] w fun e w'=>e = .returned (.string s)∧Below w.heap.size w w':=by
 have HC:=fun u=>Any.stringslite_Clone lays316 s u (by omega)
 change ∀ u,Calls Tryz.prog 113 _ u _ at HC
 go_enter Tryz.func78,Tryz.ntmps78
 go_wp2_with fail
 refine (HC _).mono ?_
 rintro e w1 ⟨rfl,hb⟩
 go_wp2
 go_ret
 exact ⟨rfl,hb⟩
end Go.Proofs.YtklhilnobgieaaaGreatDoor
namespace Go.Proofs.YtklhilnobgieaaaGreatDoor
open Go.RowKit
theorem Rw.set {t:TypeId} {w:World} {R:Nat} {cs:Array Value} (h:Rw t w R cs) (i:Nat) (v:Value):Rw t (w.setCell ⟨R,i,none⟩ v) R (cs.setIfInBounds i v)∧Off R w (w.setCell ⟨R,i,none⟩ v):=by
 refine ⟨?_,(Off.refl _ _).set i v⟩
 unfold Rw at *
 simp [World.setCell,Array.getElem?_modify,h]
def bat (h:Bool) (r:Rat):Rat:=if h then r else 0
theorem bndI:(Tryz.prog.info? 51).map (·.size) = some 4:=by kernel_rfl
set_option maxRecDepth 100000 in
set_option maxHeartbeats 4000000 in
theorem tidyBoundQ {h p:Bool} {a:Option Addr} {na ca:Nat} {d:Option Addr} {nd cd:Nat} {r:Rat} {S:Nat} (w:World) (hr:TR w p a na ca d nd cd r S) (hS:S≤7000000) (hS1:1≤S) (hT:TB w) :
  Calls Tryz.prog 80 #[.agg #[.bool h,.bool p,.slice a na ca,.slice d nd cd]] w fun e w'=>∃ f c n k c' n' k',e = .returned (.agg #[.bool h,.bool f,.slice c n k,.slice c' n' k'])∧GR w' w.heap.size f c n k c' n' k' (bat h r) S∧Below w.heap.size w w':=by
 have N:=box_new w #[.bool h,.bool p,.slice a na ca,.slice d nd cd] 51
 have hz:=bel_d0 w (.cells #[.bool h,.bool p,.slice a na ca,.slice d nd cd] 51)
 have hs:(w.alloc (.cells #[.bool h,.bool p,.slice a na ca,.slice d nd cd] 51)).heap.size = w.heap.size + 1:=by simp
 have R0:=Rw.new 51 (w.alloc (.cells #[.bool h,.bool p,.slice a na ca,.slice d nd cd] 51)) #[.bool false,.bool false,.slice none 0 0,.slice none 0 0]
 rw [hs] at R0
 replace N:=N.below (bel_d0 (w.alloc (.cells #[.bool h,.bool p,.slice a na ca,.slice d nd cd] 51)) (.cells #[.bool false,.bool false,.slice none 0 0,.slice none 0 0] 51))
 replace hz:=bel_tr hz (bel_d0 (w.alloc (.cells #[.bool h,.bool p,.slice a na ca,.slice d nd cd] 51)) (.cells #[.bool false,.bool false,.slice none 0 0,.slice none 0 0] 51))
 clear hs
 have n0:=N 0 _ rfl
 have n1:=N 1 _ rfl
 have n2:=N 2 _ rfl
 have n3:=N 3 _ rfl
 clear N
 have hr1:=hr.below hz
 have hT1:=hT.below hz
 go_enter Tryz.func80,Tryz.ntmps80
 cases h with
 | false =>
  go_wp2_with fail
  refine (ofQ 0 _ (by decide) (by decide)).mono ?_
  rintro e w2 ⟨f,c,n,k,c',n',k',rfl,G,hb⟩
  have R1:=R0.below hb
  go_wp2_with (refine R1.put #[.bool false,.bool f,.slice c n k,.slice c' n' k'] rfl _ _ rfl rfl rfl bndI rfl (by simp [Value.oneCell']) ?_)
  intro w3 R2 O2
  go_wp2
  have hs1:=hz.size
  have hs2:=hb.size
  have hs3:=R0.lt
  have G2:=G.off O2 (by omega)
  have hb3:Below w.heap.size w w3:=(bel_tr hz hb).trans (O2.below (by omega))
  have e0:((0:Int):Rat) = bat false r:=rfl
  exact bodyPost_ret (R2.ret1 Tryz.results80 _ rfl Tryz.underlying51 bndI) rfl ⟨f,c,n,k,c',n',k',rfl,((G2.mono (by omega)).le hS1).val e0,hb3⟩
 | true =>
  go_wp2_with fail
  refine (normR _ hr1 hS hS1 hT1).mono ?_
  rintro e w2 ⟨f,c,n,k,c',n',k',rfl,G,hb⟩
  have R1:=R0.below hb
  go_wp2_with (refine R1.put #[.bool true,.bool f,.slice c n k,.slice c' n' k'] rfl _ _ rfl rfl rfl bndI rfl (by simp [Value.oneCell']) ?_)
  intro w3 R2 O2
  go_wp2
  have hs1:=hz.size
  have hs2:=hb.size
  have hs3:=R0.lt
  have G2:=G.off O2 (by omega)
  have hb3:Below w.heap.size w w3:=(bel_tr hz hb).trans (O2.below (by omega))
  exact bodyPost_ret (R2.ret1 Tryz.results80 _ rfl Tryz.underlying51 bndI) rfl ⟨f,c,n,k,c',n',k',rfl,G2.mono (by omega),hb3⟩
theorem Off.grown {R:Nat} {w w':World} (h:Off R w w'):w.grownBy w' (some R):=⟨h.os,h.tape,h.output,Nat.le_of_eq h.size.symm,fun k _ hk=>h.block k fun e=>hk (by rw [e])⟩
def NoW (w:World) (row:Option Nat):Prop:=∀ g,row = some g→∃ cur T,w.heap[g]? = some (.cells cur T (0,0))∧T ≠ 59
theorem Rw.noW {t:TypeId} {w:World} {R:Nat} {cs:Array Value} (h:Rw t w R cs) (ht:t ≠ 59):NoW w (some R):=fun g e=>by cases e;exact ⟨cs,t,h,ht⟩
theorem SL.noW {w:World} {B:Nat} {T:TypeId} {c:Nat} {v:Value} {n:Nat} {E:Nat→List Value} (h:SL w B T c v n E) (ht:T ≠ 59):NoW w v.ownBlock:=by
 intro g e
 obtain ⟨vs,h1,_⟩:=h
 rcases h1.2 with ⟨rfl,_⟩ | ⟨g',cap,cur,e1,_,f1,_⟩
 ·cases e
 ·subst e1
  simp [Value.ownBlock] at e
  subst e
  exact ⟨cur,T,f1,ht⟩
theorem Got.keep {w w':World} {B:Nat} {v:Value} {x:Int} {S:Nat} (h:Got w B v x S) {row:Option Nat} (hn:NoW w row) (hg:w.grownBy w' row):Got w' B v x S:=by
 obtain ⟨xs,h1,h2⟩:=h
 refine ⟨xs,World.ownsRow.kept h1 hg ?_,h2⟩
 rcases h1.2 with ⟨e1,_⟩ | ⟨g1,c1,cur1,e1,_,f1,_⟩
 ·subst e1;exact .inl rfl
 ·refine .inr fun e=>?_
  subst e1
  obtain ⟨cur,T,f2,hT⟩:=hn g1 (by rw [← e];rfl)
  rw [f1] at f2
  simp only [Option.some.injEq,Obj.cells.injEq] at f2
  exact hT f2.2.1.symm
theorem GR.keep {w w':World} {B:Nat} {f:Bool} {c:Option Addr} {n k:Nat} {c':Option Addr} {n' k':Nat} {r:Rat} {S:Nat} (h:GR w B f c n k c' n' k' r S) {row:Option Nat} (hn:NoW w row) (hg:w.grownBy w' row):GR w' B f c n k c' n' k' r S:=by
 refine ⟨?_,h.2.keep hn hg⟩
 obtain ⟨a,n2,c2,h1,h2⟩:=h.1
 exact ⟨a,n2,c2,h1,h2.keep hn hg⟩
theorem Rw.kept {t:TypeId} {w w':World} {R:Nat} {cs:Array Value} (h:Rw t w R cs) {row:Option Nat} (hg:w.grownBy w' row) (hne:row ≠ some R):Rw t w' R cs:=(hg.block R h.lt (fun e=>hne e.symm)).trans h
theorem SL.neR {w:World} {B:Nat} {T t:TypeId} {c:Nat} {v:Value} {n:Nat} {E:Nat→List Value} (h:SL w B T c v n E) {R:Nat} {cs:Array Value} (hr:Rw t w R cs) (ht:T ≠ t):v.ownBlock ≠ some R:=by
 intro e
 obtain ⟨vs,h1,_⟩:=h
 rcases h1.2 with ⟨rfl,_⟩ | ⟨g',cap,cur,e1,_,f1,_⟩
 ·cases e
 ·subst e1
  simp [Value.ownBlock] at e
  subst e
  unfold Rw at hr
  rw [f1] at hr
  simp only [Option.some.injEq,Obj.cells.injEq] at hr
  exact ht hr.2.1
theorem Rw.set7 {t:TypeId} {w:World} {R:Nat} {a0 a1 a2 a3 a4 a5 a6:Value} (h:Rw t w R #[a0,a1,a2,a3,a4,a5,a6]) (b0 b1 b2 b3 b4 b5 b6:Value) :
  Rw t (((((((w.setCell ⟨R,0,none⟩ b0).setCell ⟨R,1,none⟩ b1).setCell ⟨R,2,none⟩ b2).setCell ⟨R,3,none⟩ b3).setCell ⟨R,4,none⟩ b4).setCell ⟨R,5,none⟩ b5).setCell ⟨R,6,none⟩ b6) R #[b0,b1,b2,b3,b4,b5,b6] ∧
  Off R w (((((((w.setCell ⟨R,0,none⟩ b0).setCell ⟨R,1,none⟩ b1).setCell ⟨R,2,none⟩ b2).setCell ⟨R,3,none⟩ b3).setCell ⟨R,4,none⟩ b4).setCell ⟨R,5,none⟩ b5).setCell ⟨R,6,none⟩ b6):=by
 refine ⟨?_,((((((Off.refl _ _).set 0 b0).set 1 b1).set 2 b2).set 3 b3).set 4 b4).set 5 b5 |>.set 6 b6⟩
 have:=(((((((h.set 0 b0).1.set 1 b1).1.set 2 b2).1.set 3 b3).1.set 4 b4).1.set 5 b5).1.set 6 b6).1
 simpa using this
theorem Near.grown {g:Nat} {a b c:World} (h:Near g a b) {row:Option Nat} (hg:b.grownBy c row) (hr:∀ k,row = some k→a.heap.size≤k):Near g a c :=
 ⟨hg.os.trans h.os,hg.tape.trans h.tape,hg.output.trans h.output,Nat.le_trans h.size hg.size,fun k hk hne=>(hg.block k (Nat.lt_of_lt_of_le hk h.size) (fun e=>by have:=hr k e.symm;omega)).trans (h.block k hk hne)⟩
theorem Near.grow {g:Nat} {a b:World} (h:Near g a b):a.grownBy b (some g):=⟨h.os,h.tape,h.output,h.size,fun k hk hne=>h.block k hk (fun e=>hne (by rw [e]))⟩
theorem Near.box {g:Nat} {a b:World} (h:Near g a b) {R:Nat} {cs:List Value} (hB:BoxC a R cs) (hR:R < a.heap.size) (hne:R ≠ g):BoxC b R cs:=fun i u hu=>(World.cell?_of_block (w:=a) (h.block R hR hne)).trans (hB i u hu)
theorem Near.rw {g:Nat} {a b:World} (h:Near g a b) {t:TypeId} {R:Nat} {cs:Array Value} (hB:Rw t a R cs) (hne:R ≠ g):Rw t b R cs:=(h.block R hB.lt hne).trans hB
theorem wp_appendS (w:World) {o:Oper} {a:Act} {K:Act→World→Prop} {Q:Exit→Act→World→Prop} (s x:Operand) (L T:TypeId) (c y:Nat)
  (ho:o.op = .call { callee:=.builtin .append,args:=#[s,x],argTypes:=#[L,L] }) (hL:Tryz.prog.underlying L = some (.slice T)) (hI:Inf T c y) (hc0:0 < c) (hy:y≤1000)
  (B:Nat) (v:Value) (n:Nat) (E:Nat→List Value) (hs:a.eval s = v) (hown:SL w B T c v n E) (h k:Nat) (hx:a.eval x = .slice (some ⟨h,0,none⟩) 1 k)
  (cs:List Value) (hcs:cs.length = c) (h1:∀ u ∈ cs,u.oneCell' = true) (hbox:BoxC w h cs)
  (hlen:n≤1000000000) (hB:B≤w.heap.size) (H:Nat) (hH:w.heap.size = H)
  (hK:∀ g cap w',SL w' B T c (.slice (some ⟨g,0,none⟩) (n + 1) cap) (n + 1) (fun i=>if i < n then E i else cs)→w.grownBy w' v.ownBlock→(v.ownBlock = some g∨g = H)→g < w'.heap.size→K (a.put o.dst (.slice (some ⟨g,0,none⟩) (n + 1) cap)) w') :
  Oper.wp Tryz.prog o a w K Q:=by
 obtain ⟨vs,g1,g2⟩:=hown
 obtain ⟨i0,z,hi,hz,hs3,hb56,hz3⟩:=hI
 have hyn:(n + 1) * y≤1000000001 * 1000:=Nat.mul_le_mul (by omega) hy
 refine wp_append_lies w s x L ho B T i0 z c y hL hi hz hs3 hb56 hz3 hc0 v n vs hs g1 ⟨h,0,none⟩ 1 k cs hx (by omega) ?_ h1 (by decide) (by unfold maxLen;omega) (by omega) hB H hH ?_
 ·intro j u hj
  have:=hbox j u hj
  by_cases e:j = 0
  ·subst e;simpa [Addr.add] using this
  ·simpa [Addr.add,e] using this
 ·intro g cap w' r1 r2 r3 r4
  exact hK g cap w' ⟨_,r1,sl_app g1.1 hcs g2⟩ r2 r3 r4
theorem prbI:(Tryz.prog.info? 31).map (·.size) = some 7:=by kernel_rfl
def VC (w:World) (B:Nat) (cs:List Value) (v:PV) (Y:Nat):Prop :=
 ∃ p1 a1 n1 k1 d1 m1 l1 p2 a2 n2 k2 d2 m2 l2 p3 a3 n3 k3 d3 m3 l3,cs = [.string v.nm,.bool p1,.slice a1 n1 k1,.slice d1 m1 l1,.bool v.hlo,.bool p2,.slice a2 n2 k2,.slice d2 m2 l2,.bool v.hhi,.bool p3,.slice a3 n3 k3,.slice d3 m3 l3,.bool v.whole] ∧
  GR w B p1 a1 n1 k1 d1 m1 l1 v.obj Y∧GR w B p2 a2 n2 k2 d2 m2 l2 (bat v.hlo v.lo) Y∧GR w B p3 a3 n3 k3 d3 m3 l3 (bat v.hhi v.hi) Y
theorem VC.below {w w':World} {B:Nat} {cs:List Value} {v:PV} {Y:Nat} (h:VC w B cs v Y) (hb:Below w.heap.size w w'):VC w' B cs v Y:=by
 obtain ⟨p1,a1,n1,k1,d1,m1,l1,p2,a2,n2,k2,d2,m2,l2,p3,a3,n3,k3,d3,m3,l3,e,g1,g2,g3⟩:=h
 exact ⟨p1,a1,n1,k1,d1,m1,l1,p2,a2,n2,k2,d2,m2,l2,p3,a3,n3,k3,d3,m3,l3,e,g1.below hb,g2.below hb,g3.below hb⟩
theorem VC.keep {w w':World} {B:Nat} {cs:List Value} {v:PV} {Y:Nat} (h:VC w B cs v Y) {row:Option Nat} (hn:NoW w row) (hg:w.grownBy w' row):VC w' B cs v Y:=by
 obtain ⟨p1,a1,n1,k1,d1,m1,l1,p2,a2,n2,k2,d2,m2,l2,p3,a3,n3,k3,d3,m3,l3,e,g1,g2,g3⟩:=h
 exact ⟨p1,a1,n1,k1,d1,m1,l1,p2,a2,n2,k2,d2,m2,l2,p3,a3,n3,k3,d3,m3,l3,e,g1.keep hn hg,g2.keep hn hg,g3.keep hn hg⟩
theorem TC.keep {w w':World} {B:Nat} {cs:List Value} {t:PT} {Y:Nat} (h:TC w B cs t Y) {row:Option Nat} (hn:NoW w row) (hg:w.grownBy w' row):TC w' B cs t Y:=by
 obtain ⟨p,a,na,ca,d,nd,cd,e,g⟩:=h
 exact ⟨p,a,na,ca,d,nd,cd,e,g.keep hn hg⟩
theorem TL.below {w w':World} {B:Nat} {v:Value} {m:Nat} {u:Nat→PT} {Y:Nat→Nat} (h:TL w B v m u Y) (hb:Below w.heap.size w w'):TL w' B v m u Y:=by
 obtain ⟨E,h1,h2⟩:=h
 exact ⟨E,h1.below hb,fun i hi=>(h2 i hi).below hb⟩
theorem TL.keep {w w':World} {B:Nat} {v:Value} {m:Nat} {u:Nat→PT} {Y:Nat→Nat} (h:TL w B v m u Y) {row:Option Nat} (hn:NoW w row) (hne:∀ g,v.ownBlock = some g→row ≠ some g) (hg:w.grownBy w' row):TL w' B v m u Y:=by
 obtain ⟨E,h1,h2⟩:=h
 exact ⟨E,h1.kept hg hne,fun i hi=>(h2 i hi).keep hn hg⟩
theorem TL.mono {w:World} {B B':Nat} {v:Value} {m:Nat} {u:Nat→PT} {Y:Nat→Nat} (h:TL w B v m u Y) (hB:B'≤B):TL w B' v m u Y:=by
 obtain ⟨E,h1,h2⟩:=h
 exact ⟨E,h1.mono hB,fun i hi=>(h2 i hi).mono hB⟩
theorem TL.form {w:World} {B:Nat} {v:Value} {m:Nat} {u:Nat→PT} {Y:Nat→Nat} (h:TL w B v m u Y):∃ a cap,v = .slice a m cap∧m≤cap:=by
 obtain ⟨E,h1,h2⟩:=h
 exact h1.form
def RC (w:World) (B:Nat) (cs:List Value) (r:PW) (n:Nat) (Y:Nat):Prop :=
 ∃ v m u Z p2 a2 n2 k2 d2 m2 l2 p3 a3 n3 k3 d3 m3 l3,cs = [.string r.nm,v,.bool r.hlo,.bool p2,.slice a2 n2 k2,.slice d2 m2 l2,.bool r.hhi,.bool p3,.slice a3 n3 k3,.slice d3 m3 l3] ∧
  Gath r.t r.nt n u m∧(∀ q,q < r.nt→SzR (r.t q).coef (Z q)∧1≤Z q)∧tot Z r.nt≤Y∧TL w B v m u (fun i=>zs r.t Z (u i).var r.nt - 1)∧GR w B p2 a2 n2 k2 d2 m2 l2 (bat r.hlo r.lo) Y∧GR w B p3 a3 n3 k3 d3 m3 l3 (bat r.hhi r.hi) Y
theorem RC.below {w w':World} {B:Nat} {cs:List Value} {r:PW} {n Y:Nat} (h:RC w B cs r n Y) (hb:Below w.heap.size w w'):RC w' B cs r n Y:=by
 obtain ⟨v,m,u,Z,p2,a2,n2,k2,d2,m2,l2,p3,a3,n3,k3,d3,m3,l3,e,g1,z1,z2,t1,g2,g3⟩:=h
 exact ⟨v,m,u,Z,p2,a2,n2,k2,d2,m2,l2,p3,a3,n3,k3,d3,m3,l3,e,g1,z1,z2,t1.below hb,g2.below hb,g3.below hb⟩
theorem RC.keep {w w':World} {B:Nat} {cs:List Value} {r:PW} {n Y:Nat} (h:RC w B cs r n Y) {row:Option Nat} (hn:NoW w row) (hne:∀ g,row = some g→∃ cur T,w.heap[g]? = some (.cells cur T (0,0))∧T ≠ 58) (hg:w.grownBy w' row):RC w' B cs r n Y:=by
 obtain ⟨v,m,u,Z,p2,a2,n2,k2,d2,m2,l2,p3,a3,n3,k3,d3,m3,l3,e,g1,z1,z2,t1,g2,g3⟩:=h
 refine ⟨v,m,u,Z,p2,a2,n2,k2,d2,m2,l2,p3,a3,n3,k3,d3,m3,l3,e,g1,z1,z2,t1.keep hn ?_ hg,g2.keep hn hg,g3.keep hn hg⟩
 intro g e1 e2
 obtain ⟨cur,T,f2,hT⟩:=hne g e2
 obtain ⟨E,⟨vs,h1,_⟩,_⟩:=t1
 rcases h1.2 with ⟨rfl,_⟩ | ⟨g',cap,cur',e3,_,f1,_⟩
 ·cases e1
 ·subst e3
  simp [Value.ownBlock] at e1
  subst e1
  rw [f1] at f2
  simp only [Option.some.injEq,Obj.cells.injEq] at f2
  exact hT f2.2.1.symm
theorem VC.mono {w:World} {B B':Nat} {cs:List Value} {v:PV} {Y:Nat} (h:VC w B cs v Y) (hB:B'≤B):VC w B' cs v Y:=by
 obtain ⟨p1,a1,n1,k1,d1,m1,l1,p2,a2,n2,k2,d2,m2,l2,p3,a3,n3,k3,d3,m3,l3,e,g1,g2,g3⟩:=h
 exact ⟨p1,a1,n1,k1,d1,m1,l1,p2,a2,n2,k2,d2,m2,l2,p3,a3,n3,k3,d3,m3,l3,e,g1.mono hB,g2.mono hB,g3.mono hB⟩
theorem RC.mono {w:World} {B B':Nat} {cs:List Value} {r:PW} {n Y:Nat} (h:RC w B cs r n Y) (hB:B'≤B):RC w B' cs r n Y:=by
 obtain ⟨v,m,u,Z,p2,a2,n2,k2,d2,m2,l2,p3,a3,n3,k3,d3,m3,l3,e,g1,z1,z2,t1,g2,g3⟩:=h
 exact ⟨v,m,u,Z,p2,a2,n2,k2,d2,m2,l2,p3,a3,n3,k3,d3,m3,l3,e,g1,z1,z2,t1.mono hB,g2.mono hB,g3.mono hB⟩
def NoT (w:World) (row:Option Nat):Prop:=∀ g,row = some g→∃ cur T,w.heap[g]? = some (.cells cur T (0,0))∧T ≠ 58
theorem Rw.noT {t:TypeId} {w:World} {R:Nat} {cs:Array Value} (h:Rw t w R cs) (ht:t ≠ 58):NoT w (some R):=fun g e=>by cases e;exact ⟨cs,t,h,ht⟩
theorem SL.noT {w:World} {B:Nat} {T:TypeId} {c:Nat} {v:Value} {n:Nat} {E:Nat→List Value} (h:SL w B T c v n E) (ht:T ≠ 58):NoT w v.ownBlock:=by
 intro g e
 obtain ⟨vs,h1,_⟩:=h
 rcases h1.2 with ⟨rfl,_⟩ | ⟨g',cap,cur,e1,_,f1,_⟩
 ·cases e
 ·subst e1
  simp [Value.ownBlock] at e
  subst e
  exact ⟨cur,T,f1,ht⟩
theorem ne_of_noT {w:World} {B:Nat} {v:Value} {m:Nat} {u:Nat→PT} {Y:Nat→Nat} (h:TL w B v m u Y) {row:Option Nat} (hn:NoT w row):∀ g,v.ownBlock = some g→row ≠ some g:=by
 intro g e1 e2
 obtain ⟨cur,T,f2,hT⟩:=hn g e2
 obtain ⟨E,⟨vs,h1,_⟩,_⟩:=h
 rcases h1.2 with ⟨rfl,_⟩ | ⟨g',cap,cur',e3,_,f1,_⟩
 ·cases e1
 ·subst e3
  simp [Value.ownBlock] at e1
  subst e1
  rw [f1] at f2
  simp only [Option.some.injEq,Obj.cells.injEq] at f2
  exact hT f2.2.1.symm
def TO (w:World) (B:Nat) (P:Prob) (v:Value):Prop :=
 ∃ f c n k c' n' k' va vc ra rc E F,v = .agg #[.bool P.mx,.string P.nm,.bool f,.slice c n k,.slice c' n' k',.slice va P.vn vc,.slice ra P.rn rc]∧GR w B f c n k c' n' k' P.k P.S ∧
  SL w B 53 13 (.slice va P.vn vc) P.vn E∧(∀ q,q < P.vn→VC w B (E q) (P.V q) (P.ZV q))∧SL w B 56 10 (.slice ra P.rn rc) P.rn F∧(∀ q,q < P.rn→RC w B (F q) (P.R q) P.vn (P.ZR q))
end Go.Proofs.YtklhilnobgieaaaGreatDoor

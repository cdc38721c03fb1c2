import Derived.Test.YtgdilnljjgdinaaGreatDoorWhAll
import Derived.Test.YtgdilnljjgdinaaGreatDoorDigAll
import Derived.Test.YtgdilnljjgdinaaGreatDoorDivAll
import Derived.Test.YtgdilnljjgdinaaGreatDoorSumAll
import Derived.Deep.RegionHeld3
import Derived.Test.YtgdilnljjgdinaaGreatDoorNumAll
namespace Go.Proofs.YtgdilnljjgdinaaGreatDoor
open Go.RowKit
set_option maxHeartbeats 1000000 in
theorem quoI {a b:Option Addr} {na nb ca cb:Nat} {m k:Int} {S R:Nat} (p q:Bool) (w:World) (ha:Num w a na ca m S) (hb:Num w b nb cb k R) (hS:S≤10000000) (hR:R≤10000000) (hk:0<k) :
  Calls Tryz.prog 150 #[.agg #[.bool p,.slice a na ca],.agg #[.bool q,.slice b nb cb]] w fun e w'=>∃ c n d c' n' d',e = .returned (.tuple #[.agg #[.bool (decide (ws (p != q) (m/k)<0)),.slice c n d],.agg #[.bool (decide (ws p (m%k)<0)),.slice c' n' d'],.nilIface]) ∧
   Got w' w.heap.size (.slice c n d) (m/k) (S+1)∧Got w' w.heap.size (.slice c' n' d') (m%k) (S+1)∧(∀ g,(Value.slice c n d).ownBlock=some g→(Value.slice c' n' d').ownBlock≠some g)∧Below w.heap.size w w':=by
 obtain ⟨P0,P1,R0,R1,hb0,hsz⟩:=box4 w (.bool p) (.slice a na ca) (.bool q) (.slice b nb cb) (.bool false) (.slice none 0 0) (.bool false) (.slice none 0 0) 42
 replace ha:=ha.below hb0
 replace hb:=hb.below hb0
 go_enter Tryz.func150,Tryz.ntmps150
 go_wp2_with fail
 generalize (((w.alloc (.cells #[.bool p,.slice a na ca] 42)).alloc (.cells #[.bool q,.slice b nb cb] 42)).alloc (.cells #[.bool false,.slice none 0 0] 42)).alloc (.cells #[.bool false,.slice none 0 0] 42)=W0 at *
 obtain ⟨p00,p01,p02,p03⟩:=id P0
 obtain ⟨p10,p11,p12,p13⟩:=id P1
 refine (divG _ ha hb hS hR hk).mono ?_
 rintro e w1 ⟨c,n,d,c',n',d',rfl,G1,G2,hdis,hb1⟩
 replace P0:=P0.below hb1
 replace P1:=P1.below hb1
 replace R0:=R0.below hb1
 replace R1:=R1.below hb1
 replace hb0:=bel_tr hb0 hb1
 have hs1:=hb1.size
 clear p00 p01 p02 p03 p10 p11 p12 p13 hb1 ha hb
 obtain ⟨p00,p01,p02,p03⟩:=id P0
 obtain ⟨p10,p11,p12,p13⟩:=id P1
 go_wp2_with fail
 go_region_held3 (fun w'=>w'.cell? ⟨w.heap.size,0,none⟩=some (.bool p)∧w'.cell? ⟨w.heap.size,1,none⟩=some (.slice a na ca)∧w'.cell? ⟨w.heap.size+1,0,none⟩=some (.bool q)∧w'.cell? ⟨w.heap.size+1,1,none⟩=some (.slice b nb cb))
  (first|(go_keep;done)|(refine ⟨?_,?_,?_,?_⟩ <;> first|exact kept_c hbB (by go_keep)|exact kept_c hbA (by go_keep))|(refine ⟨?_,?_,?_,?_⟩ <;> first|exact set2_far (by go_keep) (by simp <;> omega)|exact kept_c (by assumption) (by assumption)))
  ((first
   | (go_at_call 142;go_fit (signed_any (!(p == q)) _ _ _ _);rintro e wA ⟨rfl,hbA⟩;have hcA:Below w1.heap.size w1 wA:=(by first|exact hbA|exact bel_tr (belN (Below.refl _ w1) 1) hbA);have RA0:=R0.below hcA;have RA1:=R1.below hcA)
   | (go_at_call 142;go_fit (signed_any p _ _ _ _);rintro e wB ⟨rfl,hbB⟩;have hcB:Below wA.heap.size wA wB:=(by first|exact hbB|exact bel_tr (belN (Below.refl _ wA) 1) hbB);have RB0:=RA0.below hcB;have RB1:=RA1.below hcB;obtain ⟨r0,r1,r2,r3⟩:=id RB0;obtain ⟨t0,t1,t2,t3⟩:=id RB1)))
 obtain ⟨V,O⟩:=RB0.set (.bool (!(p == q) && decide (0<n))) (.slice c n d)
 have RB1':=RB1.off O (by omega)
 obtain ⟨V1,O1⟩:=RB1'.set (.bool (p && decide (0<n'))) (.slice c' n' d')
 have V0:=V.off O1 (by omega)
 have hw:=((bel_tr (bel_tr hb0 hcA) hcB).trans (O.below (by omega))).trans (O1.below (by omega))
 have K1:=(((G1.below hcA).below hcB).off O (by omega)).off O1 (by omega)
 have K2:=(((G2.below hcA).below hcB).off O (by omega)).off O1 (by omega)
 obtain ⟨g10,g11⟩:=G1.pos
 obtain ⟨g20,g21⟩:=G2.pos
 have e1:(!(p == q) && decide (0<n))=decide (ws (p != q) (m/k)<0):=by rw [← ws_lt g10];simp only [g11];rfl
 have e2:(p && decide (0<n'))=decide (ws p (m%k)<0):=by rw [← ws_lt g20];simp only [g21]
 have HE1:Hid ((!(p == q) && decide (0<n))=decide (ws (p != q) (m/k)<0)):=e1
 have HE2:Hid ((p && decide (0<n'))=decide (ws p (m%k)<0)):=e2
 clear hbA hbB hcA hcB P0 P1 R0 R1 RA0 RA1 p00 p01 p02 p03 p10 p11 p12 p13 hb0 RB0 RB1 RB1' r0 r1 r2 r3 t0 t1 t2 t3 G1 G2 g10 g11 g20 g21 O O1 e1 e2
 go_wp2
 refine bodyPost_ret (v:=.tuple #[.agg #[.bool (!(p == q) && decide (0<n)),.slice c n d],.agg #[.bool (p && decide (0<n')),.slice c' n' d'],.nilIface]) (by simp [results,Tryz.results150,go_sem,V0.c0,V0.c1,V1.c0,V1.c1]) rfl ⟨c,n,d,c',n',d',?_,K1.mono (by omega),K2.mono (by omega),hdis,hw⟩
 rw [HE1.out,HE2.out]
end Go.Proofs.YtgdilnljjgdinaaGreatDoor
namespace Go.Proofs.YtgdilnljjgdinaaGreatDoor
open Go Go.RowKit
section
variable {P:Program} {ops:Array Oper} {Q:Exit→Act→World→Prop} {md:Region.Mode} {S:World→Prop} {T:Array Bool→World→Prop} {s:Nat}
def wpAnyG (P:Program) (md:Region.Mode) (ops:Array Oper) (Q:Exit→Act→World→Prop) (T:Array Bool→World→Prop):Nat→Array Bool→Act→World→Prop
 | 0,L,a,w=>Region.ready md ops L=[]∧Q .normal a w
 | f+1,L,a,w=>(Region.ready md ops L=[]→Q .normal a w)∧∀ i,i ∈ Region.ready md ops L →
   wpOp P ops Q i (fun a' w'=>T (L.setIfInBounds i true) w'∧wpAnyG P md ops Q T f (L.setIfInBounds i true) a' w') a w
theorem wpAnyG.any:∀ (f:Nat) (L:Array Bool) (a:Act) (w:World),wpAnyG P md ops Q T f L a w→wpAny P md ops Q f L a w:=by
 intro f
 induction f with
 | zero=>exact fun _ _ _ h=>h
 | succ f ih=>exact fun L a w h=>⟨h.1,fun i hi=>wpOp_mono (fun a' w' k=>ih _ a' w' k.2) (h.2 i hi)⟩
theorem wpAnyG.load {i:Nat} {oi:Oper} {v:Value} (hi:ops[i]? = some oi) (hsel:Region.noSelect ops=true) (hQ:∀ c a w,Q (.panic c) (a.put oi.dst v) w→Q (.panic c) a w) (hsi:s≠i) (hind:∀ L w,T (L.setIfInBounds i true) w↔T L w) (hTS:∀ (L:Array Bool) (w:World),L.getD s true=false→T L w→S w)
  (hwait:∀ L:Array Bool,L.getD i true=false→s ∉ Region.ready md ops L) (f:Nat) :
  ∀ (L:Array Bool) (a:Act) (w:World),(∀ j oj,ops[j]? = some oj→j≠i→L.getD j true=false→(∀ e ∈ oj.after,Region.binds md e=true→e.on≠i)→oi.apart ops oj=true) →
   i ∈ Region.ready md ops L→YieldsIf P ops S oi v a→T L w→L.getD s true=false→wpAnyG P md ops Q T f (L.setIfInBounds i true) (a.put oi.dst v) w→wpAnyG P md ops Q T (f+1) L a w:=by
 have nosel:=Region.noSelect_spec hsel
 induction f with
 | zero =>
  intro L a w _ hr hy hT hs H
  refine ⟨fun h=>absurd hr (by rw [h];exact List.not_mem_nil),fun j hj=>?_⟩
  rcases Decidable.em (j=i) with e|e
  ·subst e;exact hy.wpOp hi (hTS L w hs hT) ⟨(hind L w).2 hT,H⟩
  ·exact absurd (ready_mono hj e) (by rw [H.1];exact List.not_mem_nil)
 | succ f ih =>
  intro L a w hfree hr hy hT hs H
  refine ⟨fun h=>absurd hr (by rw [h];exact List.not_mem_nil),fun j hj=>?_⟩
  rcases Decidable.em (j=i) with e|e
  ·subst e;exact hy.wpOp hi (hTS L w hs hT) ⟨(hind L w).2 hT,H⟩
  ·have hun:L.getD i true=false:=(mem_ready.1 hr).1
   have hjs:j≠s:=fun h=>hwait L hun (h ▸ hj)
   obtain ⟨hjun,oj,hoj,hall⟩:=mem_ready.1 hj
   have hno:∀ x ∈ oj.after,Region.binds md x=true→x.on≠i:=by
    intro x hx hb hxi
    have h1:=hall x hx hb
    rw [hxi] at h1
    have h2:i<L.size:=Nat.lt_of_not_le fun hle=>by simp [Array.getElem?_eq_none hle] at h1
    simp [h2] at hun h1
    rw [hun] at h1;cases h1
   have step:=wpOp_putIf hoj (hfree j oj hoj e hjun hno) (fun cs b=>nosel i oi cs b hi) (fun cs b=>nosel j oj cs b hoj) hQ hy (H.2 j (ready_mono hj e))
   refine wpOp_mono (fun a' w' k=>?_) step
   have hs':(L.setIfInBounds j true).getD s true=false:=by rw [getD_set_ne true hjs];exact hs
   have hTw:T (L.setIfInBounds j true) w':=by
    have h:=k.2.1
    rw [Array.setIfInBounds_comm _ _ (Ne.symm e)] at h
    exact (hind _ w').1 h
   refine ⟨hTw,ih (L.setIfInBounds j true) a' w' ?_ (ready_mono hr (Ne.symm e)) k.1 hTw hs' (by rw [Array.setIfInBounds_comm _ _ e];exact k.2.2)⟩
   intro x ox hx hxi hux hxn
   refine hfree x ox hx hxi ?_ hxn
   rcases Decidable.em (j=x) with e2|e2
   ·subst e2;exact hjun
   ·rw [getD_set_ne true e2] at hux;exact hux
theorem wpAnyG.take (i:Nat) {f:Nat} {L:Array Bool} {a:Act} {w:World} {v:Value} (hlt:i<ops.size) (hsel:Region.noSelect ops=true) (hQ:∀ c a w,Q (.panic c) (a.put ops[i].dst v) w→Q (.panic c) a w) (s:Nat) (S:World→Prop) (hsi:(s == i)=false) (hind:∀ L w,T (L.setIfInBounds i true) w↔T L w) (hTS:∀ (L:Array Bool) (w:World),L.getD s true=false→T L w→S w)
  (hwait:(match ops[s]? with|some o=>o.after.toList.any (fun e=>Region.binds md e && e.on == i)|none=>false)=true) (hf:Region.free md ops L i=true) (hr:(Region.ready md ops L).contains i=true)
  (hwd:Region.wanted ops[i] (yielded ops a.tmps)=true) (hy:∀ w,S w→(execOp a.eval ops[i]).run P w = .ok (.value v) w) (hT:T L w) (hs:L.getD s true=false)
  (h:wpAnyG P md ops Q T f (L.setIfInBounds i true) (a.put ops[i].dst v) w):wpAnyG P md ops Q T (f+1) L a w:=by
 have hi:ops[i]? = some ops[i]:=Array.getElem?_eq_getElem hlt
 refine wpAnyG.load hi hsel hQ (by simpa using hsi) hind hTS ?_ f L a w (Region.free_spec hi hf) (by simpa using hr) (.inl ⟨hwd,hy⟩) hT hs h
 intro L' hL' hm
 obtain ⟨_,o,ho,hall⟩:=mem_ready.1 hm
 rw [ho] at hwait
 obtain ⟨x,hx',hb⟩:=List.any_eq_true.1 hwait
 have hx:=Array.mem_toList_iff.1 hx'
 simp only [Bool.and_eq_true,beq_iff_eq] at hb
 have h1:=hall x hx hb.1
 rw [hb.2] at h1
 have h2:i<L'.size:=Nat.lt_of_not_le fun hle=>by simp [Array.getElem?_eq_none hle] at h1
 simp [h2] at hL' h1
 rw [hL'] at h1;cases h1
theorem wpAnyG.one (i:Nat) {f:Nat} {L:Array Bool} {a:Act} {w:World} (hr:Region.ready md ops L=[i]) (hlt:i<ops.size) (hwd:Region.wanted ops[i] (yielded ops a.tmps)=true)
  (h:∀ K:Act→World→Prop,(∀ a' w',T (L.setIfInBounds i true) w'→wpAnyG P md ops Q T f (L.setIfInBounds i true) a' w'→K a' w')→ops[i].wp P a w K Q):wpAnyG P md ops Q T (f+1) L a w:=by
 refine ⟨fun h0=>(by rw [hr] at h0;cases h0),fun j hj=>?_⟩
 rw [hr] at hj
 obtain rfl:j=i:=by simpa using hj
 unfold wpOp
 rw [Array.getElem?_eq_getElem hlt]
 simp only [hwd,if_true]
 exact .inl (h _ fun a' w' h1 h2=>⟨h1,h2⟩)
theorem wpAnyG.done {f:Nat} {L:Array Bool} {a:Act} {w:World} (hr:Region.ready md ops L=[]) (h:Q .normal a w):wpAnyG P md ops Q T f L a w:=by
 cases f with
 | zero=>exact ⟨hr,h⟩
 | succ f=>exact ⟨fun _=>h,fun i hi=>absurd hi (by rw [hr];exact List.not_mem_nil)⟩
def Till (s s':Nat) (S S':World→Prop) (L:Array Bool) (w:World):Prop:=(L.getD s true=false→S w)∧(L.getD s' true=false→S' w)
theorem till_ind {s s' i:Nat} {S S':World→Prop} (h:i≠s) (h':i≠s') (L:Array Bool) (w:World):Till s s' S S' (L.setIfInBounds i true) w↔Till s s' S S' L w:=by
 unfold Till
 rw [getD_set_ne true h,getD_set_ne true h']
theorem wp_region_guard {id:Nat} {a:Act} {w:World} (T:Array Bool→World→Prop) (hm:P.follows .mixedOrders=true) (h:wpAnyG P .any ops Q T ops.size (Array.replicate ops.size false) a w.drew):(Code.region id ops true).wp P Q a w :=
 wp_region_any hm (wpAnyG.any _ _ _ _ h)
def rfirst (md:Region.Mode) (ops:Array Oper) (L:Array Bool) (i s:Nat):Bool :=
 Region.noSelect ops && (!(s == i) && ((match ops[s]? with|some o=>o.after.toList.any (fun e=>Region.binds md e && e.on == i)|none=>false) && (Region.free md ops L i && ((Region.ready md ops L).contains i && !(L.getD s true)))))
theorem rfirst_spec {md:Region.Mode} {ops:Array Oper} {L:Array Bool} {i s:Nat} (h:rfirst md ops L i s=true) :
  Region.noSelect ops=true∧(s == i)=false∧(match ops[s]? with|some o=>o.after.toList.any (fun e=>Region.binds md e && e.on == i)|none=>false)=true∧Region.free md ops L i=true∧(Region.ready md ops L).contains i=true∧L.getD s true=false:=by
 unfold rfirst at h
 rw [Bool.and_eq_true,Bool.and_eq_true,Bool.and_eq_true,Bool.and_eq_true,Bool.and_eq_true,Bool.not_eq_true',Bool.not_eq_true'] at h
 exact ⟨h.1,h.2.1,h.2.2.1,h.2.2.2.1,h.2.2.2.2.1,h.2.2.2.2.2⟩
theorem wpAnyG.tA (i:Nat) {f:Nat} {L:Array Bool} {a:Act} {w:World} {v:Value} {Q0:Exit→Act→World→Prop} {F:World→Prop} (hlt:i<ops.size) (s:Nat) (hc:rfirst md ops L i s=true) (hwd:Region.wanted ops[i] (yielded ops a.tmps)=true) (hy:∀ w,F w→(execOp a.eval ops[i]).run P w = .ok (.value v) w) (hT:F w)
  (h:wpAnyG P md ops (NoPanic Q0) (fun _ w'=>F w') f (L.setIfInBounds i true) (a.put ops[i].dst v) w):wpAnyG P md ops (NoPanic Q0) (fun _ w'=>F w') (f+1) L a w:=by
 obtain ⟨h1,h2,h3,h4,h5,h6⟩:=rfirst_spec hc
 exact wpAnyG.take i hlt h1 (fun _ _ _ h=>h) s F h2 (fun _ _=>Iff.rfl) (fun _ _ _ h=>h) h3 h4 h5 hwd hy hT h6 h
theorem wpAnyG.tT (i:Nat) {f:Nat} {L:Array Bool} {a:Act} {w:World} {v:Value} {Q0:Exit→Act→World→Prop} {F:World→Prop} (hlt:i<ops.size) (s:Nat) (hc:rfirst md ops L i s=true) (hwd:Region.wanted ops[i] (yielded ops a.tmps)=true) (hy:∀ w,F w→(execOp a.eval ops[i]).run P w = .ok (.value v) w) (hT:F w)
  (h:wpAnyG P md ops (NoPanic Q0) (Till s s F (fun _=>True)) f (L.setIfInBounds i true) (a.put ops[i].dst v) w):wpAnyG P md ops (NoPanic Q0) (Till s s F (fun _=>True)) (f+1) L a w:=by
 obtain ⟨h1,h2,h3,h4,h5,h6⟩:=rfirst_spec hc
 have h7:i≠s:=fun e=>by subst e;simp at h2
 exact wpAnyG.take i hlt h1 (fun _ _ _ h=>h) s F h2 (till_ind h7 h7) (fun L w' h1 h2=>h2.1 h1) h3 h4 h5 hwd hy ⟨fun _=>hT,fun _=>trivial⟩ h6 h
theorem wp_region_guardB {id:Nat} {a:Act} {w U:World} {F:World→Prop} (_HB:∀ w',Below U.heap.size U w'→F w') (hm:P.follows .mixedOrders=true) (h:wpAnyG P .any ops Q (fun _ w'=>F w') ops.size (Array.replicate ops.size false) a w.drew):(Code.region id ops true).wp P Q a w :=
 wp_region_guard (fun _ w'=>F w') hm h
theorem wp_region_guardT {id:Nat} {a:Act} {w U:World} {F:World→Prop} (s:Nat) (_HB:∀ w',Below U.heap.size U w'→F w') (hm:P.follows .mixedOrders=true) (h:wpAnyG P .any ops Q (Till s s F (fun _=>True)) ops.size (Array.replicate ops.size false) a w.drew):(Code.region id ops true).wp P Q a w :=
 wp_region_guard (Till s s F (fun _=>True)) hm h
end
theorem lgA {α:Type _} {xs:List α} {i:Nat} (h:i<xs.toArray.size):xs.toArray[i]=xs[i]'(by simpa using h):=rfl
theorem lgZ {α:Type _} (a:α) (bs:List α) (h:0<(a::bs).length):(a::bs)[0]=a:=rfl
theorem lgS {α:Type _} (a:α) (bs:List α) (i:Nat) (h:i+1<(a::bs).length):(a::bs)[i+1]=bs[i]'(by simpa using h):=rfl
theorem lsA {α:Type _} (l:List α) (i:Nat) (a:α):l.toArray.setIfInBounds i a=(l.set i a).toArray:=List.setIfInBounds_toArray l i a
theorem lsZ {α:Type _} {x:α} {xs:List α} {a:α}:(x::xs).set 0 a=a::xs:=rfl
theorem lsS {α:Type _} {x:α} {xs:List α} {i:Nat} {a:α}:(x::xs).set (i+1) a=x::xs.set i a:=rfl
end Go.Proofs.YtgdilnljjgdinaaGreatDoor
namespace Go.Proofs.YtgdilnljjgdinaaGreatDoor
open Go.RowKit
def sclR (xs:List Int) (d c:Int):Nat→List Int × Int
 | 0=>(xs,c)
 | k+1=>((sclR xs d c k).1.set k ((lm (sclR xs d c k).1 k*d+(sclR xs d c k).2)%18446744073709551616),(lm (sclR xs d c k).1 k*d+(sclR xs d c k).2)/18446744073709551616)
theorem sclR_ok {xs:List Int} {d c:Int} (hx:AllW xs) (hd:Word d) (hc:Word c) (k:Nat):AllW (sclR xs d c k).1∧(sclR xs d c k).1.length=xs.length∧0≤(sclR xs d c k).2∧(sclR xs d c k).2<18446744073709551616:=by
 induction k with
 | zero=>exact ⟨hx,rfl,hc.1,hc.2⟩
 | succ k ih =>
  obtain ⟨h1,h2,h3,h4⟩:=ih
  have a:=h1.at k
  have b:=mul_bd a.1 a.2 hd.1 hd.2
  refine ⟨h1.set _ _ (word_mod _),by simp [sclR,h2],?_,?_⟩ <;> simp only [sclR] <;> omega
theorem sclR_far (xs:List Int) (d c:Int) (k i:Nat) (h:k≤i):lm (sclR xs d c k).1 i=lm xs i:=by
 induction k with
 | zero=>rfl
 | succ k ih=>simp only [sclR];rw [lm_set,if_neg (by omega),ih (by omega)]
theorem sclR_val {xs:List Int} {d c:Int} (hx:AllW xs) (hd:Word d) (hc:Word c) (k:Nat) (h:k≤xs.length):vS (sclR xs d c k).1 k+(sclR xs d c k).2*pw k=vS xs k*d+c:=by
 induction k with
 | zero=>simp [sclR,vS,pw]
 | succ k ih =>
  have ih:=ih (by omega)
  obtain ⟨h1,h2,h3,h4⟩:=sclR_ok hx hd hc k
  have hf:=sclR_far xs d c k k (Nat.le_refl _)
  simp only [sclR,vS]
  generalize (sclR xs d c k).1=U at *
  generalize (sclR xs d c k).2=C at *
  rw [vS_set_ge (Nat.le_refl _),lm_set,if_pos ⟨rfl,by omega⟩,hf,pw_succ]
  have e1:=mod_mul (lm xs k*d+C) (pw k)
  rw [Int.add_mul] at e1
  have e2:(vS xs k+lm xs k*pw k)*d=vS xs k*d+lm xs k*d*pw k:=by rw [Int.add_mul,Int.mul_right_comm]
  rw [e2]
  generalize (lm xs k*d+C)%18446744073709551616*pw k=A at *
  generalize (lm xs k*d+C)/18446744073709551616*(pw k*18446744073709551616)=D at *
  omega
def sclL (xs:List Int) (d c:Int):List Int:=if 0<(sclR xs d c xs.length).2 then (sclR xs d c xs.length).1++[(sclR xs d c xs.length).2] else (sclR xs d c xs.length).1
theorem val_snoc' (xs:List Int) (c:Int):val (xs++[c])=val xs+c*pw xs.length:=by
 unfold val
 rw [List.length_append]
 show vS (xs++[c]) (xs.length+1)=_
 simp only [vS]
 rw [lm_append_right (Nat.le_refl _)]
 have:vS (xs++[c]) xs.length=vS xs xs.length:=vS_congr fun i hi=>lm_append_left hi
 rw [this]
 simp [lm]
theorem sclL_val {xs:List Int} {d c:Int} (hx:AllW xs) (hd:Word d) (hc:Word c):AllW (sclL xs d c)∧val (sclL xs d c)=val xs*d+c∧(sclL xs d c).length≤xs.length+1:=by
 obtain ⟨h1,h2,h3,h4⟩:=sclR_ok hx hd hc xs.length
 have hv:=sclR_val hx hd hc xs.length (Nat.le_refl _)
 unfold sclL
 have e1:vS (sclR xs d c xs.length).1 xs.length=val (sclR xs d c xs.length).1:=vS_long (by omega)
 rw [e1] at hv
 show _∧_=val xs*d+c∧_
 have e2:vS xs xs.length=val xs:=rfl
 rw [e2] at hv
 split
 ·refine ⟨h1.append (fun x hx=>by simp at hx;subst hx;exact ⟨h3,h4⟩),?_,by simp [h2]⟩
  rw [val_snoc',h2];exact hv
 ·rename_i h0
  have:(sclR xs d c xs.length).2=0:=by omega
  rw [this] at hv
  exact ⟨h1,by omega,by omega⟩
theorem ms_hi (p c:Int):p/18446744073709551616+(p%18446744073709551616+c)/18446744073709551616=(p+c)/18446744073709551616:=by omega
set_option maxHeartbeats 1000000 in
theorem scale_any (a:Option Addr) (n cap:Nat) (xs:List Int) (d c:Int) (w:World) (B:Nat) (ho:OwnV w B (.slice a n cap) xs) (hB:B≤w.heap.size) (hm:n≤1000000000) (hx:AllW xs) (hd:Word d) (hc:Word c) :
  Calls Tryz.prog 144 #[.slice a n cap,.int .u64 d,.int .u64 c] w fun e w'=>∃ a' n' cap',e = .returned (.slice a' n' cap')∧OwnV w' B (.slice a' n' cap') (sclL xs d c)∧Below B w w':=by
 obtain ⟨hn,_,_⟩:=ho.reads
 have Hn:Hid (n=xs.length):=hn
 have HS:Hid (sclL xs d c=if 0<(sclR xs d c n).2 then (sclR xs d c n).1++[(sclR xs d c n).2] else (sclR xs d c n).1):=by show _=_;rw [hn];rfl
 obtain ⟨d0,d1⟩:=hd
 clear hn
 go_enter Tryz.func144,Tryz.ntmps144
 go_wp2
 go_loopw [7,16] (fun s i wr=>∃ k:Nat,k≤n∧i = .int .i64 k∧s = .int .u64 (sclR xs d c k).2∧OwnV wr B (.slice a n cap) (sclR xs d c k).1∧Below B w wr) (fun _ i _=>n-(intOf i).toNat)
 case atStart=>exact ⟨0,Nat.zero_le _,rfl,rfl,ho,Below.refl _ _⟩
 case round =>
  obtain ⟨k,hk,rfl,rfl,hor,hbel⟩:=hrel
  obtain ⟨ok1,ok2,ok3,ok4⟩:=sclR_ok hx ⟨d0,d1⟩ hc k
  by_cases hlt:k<n
  ·obtain ⟨g,rfl,hr⟩:=own_some hor (by omega)
   have hBg:B≤g:=(hor.lt g rfl).1
   have HN:Hid (sclR xs d c (k+1)=((sclR xs d c k).1.set k ((lm (sclR xs d c k).1 k*d+(sclR xs d c k).2)%18446744073709551616),(lm (sclR xs d c k).1 k*d+(sclR xs d c k).2)/18446744073709551616)):=rfl
   have hlen:(sclR xs d c k).1.length=n:=by rw [ok2];exact Hn.out.symm
   have HLEN:Hid ((sclR xs d c k).1.length=n):=hlen
   generalize hU:(sclR xs d c k).1=U at *
   generalize hC:(sclR xs d c k).2=C at *
   clear hU hC
   have hcg:=hr.cell (i:=k) (by omega)
   have hfg:=hr.frozen k
   obtain ⟨a10,a11⟩:=ok1.at k
   have hpb:=mul_bd a10 a11 d0 d1
   obtain ⟨p,hp⟩:∃ p,lm U k*d=p:=⟨_,rfl⟩
   rw [hp] at hpb HN
   have HP:Hid (lm U k*d=p):=hp
   obtain ⟨p0,p1⟩:=hpb
   have HB:=(hr.set k ((p+C)%18446744073709551616)).own hBg
   rw [List.length_set,HLEN.out] at HB
   have HO:=hbel.setCell (p:=⟨g,k,none⟩) hBg (.int .u64 ((p+C)%18446744073709551616))
   have hkn:(k:Int)<(n:Int):=by omega
   have q0:0≤p%18446744073709551616:=by omega
   clear hp hr hor hbel hlen
   go_wp2_with (first|(go_at_call 154;refine (mul64_any _ _ p HP a10 a11 d0 d1 _).mono ?_;rintro e w' ⟨rfl,rfl⟩)|simp only [add64_0 (p%18446744073709551616) C q0 ok3])
   go_roundw
   case rel=>exact ⟨k+1,by omega,by go_num,by rw [HN.out,ms_hi p C],by rw [HN.out];exact HB,HO⟩
   case measure=>simp [intOf];omega
  ·obtain rfl:k=n:=by omega
   have HK:Hid ((sclR xs d c k).1.length=k):=by show _=_;rw [ok2];exact Hn.out.symm
   have hsz:=hbel.size
   generalize hU:(sclR xs d c k).1=U at *
   generalize hC:(sclR xs d c k).2=C at *
   clear hU hC hlt
   by_cases hC0:0<C
   ·have HS2:Hid (sclL xs d c=U++[C]):=by show _=_;rw [HS.out,if_pos hC0]
    have hrow:∀ q,(Value.slice a k cap).ownBlock=some q→B≤q:=fun q hq=>(hor.lt q hq).1
    go_wp2_with (at_builtin;refine wpList_append1 40 Tryz.underlying40 _ rfl _ _ rfl B (.slice a k cap) U k HK rfl (hor.alloc _) wr.heap.size _ C rfl (cell_new1 rfl) (by omega) (by simp;omega) (wr.heap.size+1) (by simp) ?_)
    intro g cap1 w1 hown1 hgrow _ _
    have hbel1:Below B w w1:=hbel.trans (((Below.refl _ _).alloc (by omega) _).trans (grown_below hgrow (by simp;omega) hrow))
    rw [← HS2.out] at hown1
    clear hgrow hor
    go_wp2
    go_ret
    exact ⟨_,_,_,rfl,hown1,hbel1⟩
   ·have HS2:Hid (sclL xs d c=U):=by show _=_;rw [HS.out,if_neg hC0]
    have t1:decide (0<C)=false:=by simpa using hC0
    rw [← HS2.out] at hor
    go_wp2
    go_ret
    exact ⟨_,_,_,rfl,hor,hbel⟩
def byt (s:ByteArray) (i:Nat):Int:=((s.data.toList.getD i 0).toNat:Int)
theorem byt_get {s:ByteArray} {k:Nat} (h:k<s.size):((s[k]'h).toNat:Int)=byt s k:=by
 obtain ⟨⟨l⟩⟩:=s
 have hl:k<l.length:=h
 unfold byt
 have e:(ByteArray.mk ⟨l⟩)[k]'h=l.getD k 0:=by
  simp only [List.getD,List.getElem?_eq_getElem hl,Option.getD_some]
  rfl
 rw [e]
theorem byt_bd (s:ByteArray) (k:Nat):0≤byt s k∧byt s k<256:=by
 unfold byt
 have:=(s.data.toList.getD k 0).toNat_lt
 omega
theorem size_extract (s:ByteArray) (a b:Nat) (hb:b≤s.size):(s.extract a b).size=b-a:=by
 rw [ByteArray.size_extract];omega
theorem byt_extract (s:ByteArray) (a b k:Nat) (hb:b≤s.size) (h:a+k<b):byt (s.extract a b) k=byt s (a+k):=by
 have hb':b≤s.data.size:=hb
 unfold byt
 rw [ByteArray.data_extract,Array.toList_extract]
 simp only [List.getD_eq_getElem?_getD,List.extract_eq_take_drop]
 rw [List.getElem?_take_of_lt (by omega),List.getElem?_drop]
def Digs (s:ByteArray) (n:Nat):Prop:=∀ i,i<n→48≤byt s i∧byt s i≤57
def rdF (s:ByteArray) (o:Nat):Nat→Int
 | 0=>0
 | k+1=>rdF s o k*10+(byt s (o+k)-48)
def p10:Nat→Int
 | 0=>1
 | k+1=>p10 k*10
theorem p10_pos (k:Nat):0<p10 k:=by induction k with|zero=>decide|succ k ih=>simp only [p10];omega
theorem p10_mono {a b:Nat} (h:a≤b):p10 a≤p10 b:=by
 induction b with
 | zero=>rw [Nat.le_zero.1 h];omega
 | succ b ih =>
  rcases Nat.lt_or_ge a (b+1) with h1|h1
  ·have:=ih (by omega);have:=p10_pos b;simp only [p10];omega
  ·rw [show a=b+1 by omega];omega
theorem rdF_bd {s:ByteArray} {o n:Nat} (h:Digs s n) (k:Nat) (hk:o+k≤n):0≤rdF s o k∧rdF s o k<p10 k:=by
 induction k with
 | zero=>simp [rdF,p10]
 | succ k ih=>have:=ih (by omega);have:=h (o+k) (by omega);simp only [rdF,p10];omega
theorem rdF_add (s:ByteArray) (o a b:Nat):rdF s o (a+b)=rdF s o a*p10 b+rdF s (o+a) b:=by
 induction b with
 | zero=>simp [rdF,p10]
 | succ b ih =>
  show rdF s o (a+b)*10+(byt s (o+(a+b))-48)=rdF s o a*(p10 b*10)+(rdF s (o+a) b*10+(byt s (o+a+b)-48))
  rw [ih,Nat.add_assoc,Int.add_mul,Int.mul_assoc];omega
theorem rdF_congr {s t:ByteArray} {o:Nat} (k:Nat) (h:∀ i,i<k→byt t i=byt s (o+i)):rdF t 0 k=rdF s o k:=by
 induction k with
 | zero=>rfl
 | succ k ih=>simp only [rdF];rw [ih (fun i hi=>h i (by omega)),Nat.zero_add,h k (by omega)]
theorem sclL_nf {xs:List Int} {d c:Int} (hx:NF xs) (hd:Word d) (hc:Word c) (h0:0<d):NF (sclL xs d c):=by
 obtain ⟨hw,ht⟩:=hx
 obtain ⟨s1,s2,s3⟩:=sclL_val hw hd hc
 refine ⟨s1,?_⟩
 obtain ⟨h1,h2,h3,h4⟩:=sclR_ok hw hd hc xs.length
 unfold sclL at *
 split
 ·rename_i hp
  unfold tlen
  rw [List.length_append]
  show tl _ (_+1)=_
  unfold tl
  rw [if_neg]
  ·rfl
  ·rw [lm_append_right (Nat.le_refl _),Nat.sub_self]
   show ¬ (sclR xs d c xs.length).2=0
   omega
 ·rename_i hp
  rw [if_neg hp] at s1 s2
  have hle:tlen (sclR xs d c xs.length).1≤(sclR xs d c xs.length).1.length:=tl_le _ _
  rcases Nat.eq_zero_or_pos xs.length with h5|h5
  ·omega
  ·have g1:=val_ge hw (by omega)
   have g2:=val_lt_tlen s1
   rw [s2] at g2
   have g3:val xs*1≤val xs*d:=Int.mul_le_mul_of_nonneg_left (by omega) (val_nn hw)
   rcases Nat.lt_or_ge (tlen (sclR xs d c xs.length).1) xs.length with h6|h6
   ·have:=pw_mono (a:=tlen (sclR xs d c xs.length).1) (b:=tlen xs-1) (by omega)
    have:=hc.1
    omega
   ·omega
set_option maxRecDepth 100000 in
set_option maxHeartbeats 1000000 in
theorem allDigits_any (s:ByteArray) (w:World) (hs:s.size≤100000000) :
  Calls Tryz.prog 143 #[.string s] w fun e w'=>(Digs s s.size→0<s.size→e = .returned (.bool true))∧(¬ (Digs s s.size∧0<s.size)→e = .returned (.bool false))∧Below w.heap.size w w':=by
 go_enter Tryz.func143,Tryz.ntmps143
 go_wp2
 go_loopw [6] (fun t wr=>∃ i:Nat,i≤s.size∧t = .int .i64 i∧Digs s i∧Below w.heap.size w wr) (fun t _=>s.size-(intOf t).toNat)
 case atStart=>exact ⟨0,Nat.zero_le _,rfl,fun i hi=>by omega,Below.refl _ _⟩
 case round =>
  obtain ⟨i,hi,rfl,hdg,hbel⟩:=hrel
  by_cases hlt:i<s.size
  ·have hil:(i:Int)<(s.size:Int):=by omega
   have hby:=byt_get hlt
   obtain ⟨y0,y1⟩:=byt_bd s i
   by_cases hdi:48≤byt s i∧byt s i≤57
   ·obtain ⟨d0,d1⟩:=hdi
    have HDG:Hid (Digs s (i+1)):=fun j hj=>by
     rcases Nat.lt_or_ge j i with h|h
     ·exact hdg j h
     ·rw [show j=i by omega];exact ⟨d0,d1⟩
    clear hdg
    generalize byt s i=B at *
    go_wp2
    go_roundw
    case rel=>exact ⟨i+1,by omega,by go_num,HDG.out,hbel⟩
    case measure=>simp [intOf];omega
   ·have hnd:¬ Digs s s.size:=fun h=>hdi (h i hlt)
    have hdd:byt s i<48∨(48≤byt s i∧57<byt s i):=by omega
    generalize byt s i=B at *
    rcases hdd with h|⟨h,h'⟩
    ·go_wp2
     go_ret
     exact ⟨fun h2=>absurd h2 hnd,fun _=>rfl,hbel⟩
    ·go_wp2
     go_ret
     exact ⟨fun h2=>absurd h2 hnd,fun _=>rfl,hbel⟩
  ·have hil:¬ (i:Int)<(s.size:Int):=by omega
   obtain rfl:i=s.size:=by omega
   by_cases h0:0<s.size
   ·have h0':(0:Int)<(s.size:Int):=by omega
    go_wp2
    go_ret
    exact ⟨rfl,hbel⟩
   ·have h0':¬ (0:Int)<(s.size:Int):=by omega
    go_wp2
    go_ret
    exact ⟨rfl,hbel⟩
set_option maxRecDepth 100000 in
set_option maxHeartbeats 1000000 in
theorem readPiece_any (s:ByteArray) (w:World) (hs:s.size≤19) (hd:Digs s s.size) :
  Calls Tryz.prog 145 #[.string s] w fun e w'=>e = .returned (.int .u64 (rdF s 0 s.size))∧Below w.heap.size w w':=by
 go_enter Tryz.func145,Tryz.ntmps145
 go_wp2
 go_loopw [3,7] (fun v t wr=>∃ i:Nat,i≤s.size∧t = .int .i64 i∧v = .int .u64 (rdF s 0 i)∧Below w.heap.size w wr) (fun _ t _=>s.size-(intOf t).toNat)
 case atStart=>exact ⟨0,Nat.zero_le _,rfl,rfl,Below.refl _ _⟩
 case round =>
  obtain ⟨i,hi,rfl,rfl,hbel⟩:=hrel
  by_cases hlt:i<s.size
  ·have hil:(i:Int)<(s.size:Int):=by omega
   have hby:=byt_get hlt
   obtain ⟨d0,d1⟩:=hd i hlt
   obtain ⟨r0,r1⟩:=rdF_bd (o:=0) hd i (by omega)
   have r2:=p10_mono (a:=i) (b:=18) (by omega)
   have r3:p10 18=1000000000000000000:=by decide
   have HN:Hid (rdF s 0 (i+1)=rdF s 0 i*10+(byt s i-48)):=by show _=_;simp only [rdF,Nat.zero_add]
   have r4:rdF s 0 i≤999999999999999999:=by omega
   clear r1 r2 r3 hd
   generalize byt s i=B at *
   generalize rdF s 0 i=V at *
   go_wp2
   go_roundw
   case rel=>exact ⟨i+1,by omega,by go_num,by rw [HN.out],hbel⟩
   case measure=>simp [intOf];omega
  ·have hil:¬ (i:Int)<(s.size:Int):=by omega
   obtain rfl:i=s.size:=by omega
   go_wp2
   go_ret
   exact ⟨rfl,hbel⟩
theorem parse_no (s:ByteArray) (w:World) (ev:Value) (hs:s.size≤100000000) (hd:¬ (Digs s s.size∧0<s.size)) (E:Errs w 11 ev) :
  Calls Tryz.prog 129 #[.string s] w fun e w'=>e = .returned (.tuple #[.slice none 0 0,ev])∧Below w.heap.size w w':=by
 go_enter Tryz.func129,Tryz.ntmps129
 go_wp2_with fail
 refine (allDigits_any s _ hs).mono ?_
 rintro e w1 ⟨_,he,hb⟩
 obtain rfl:=he hd
 have hE:=(E.below hb).1
 clear E he
 go_wp2
 go_quiet (fail)
 go_wp2
 go_ret2
 exact ⟨rfl,belN hb nq⟩
theorem readPieceE (t:ByteArray) (n:Nat) (w:World) (hn:n≤19) (hl:n≤t.size) (hd:Digs t t.size) :
  Calls Tryz.prog 145 #[.string (t.extract 0 n)] w fun e w'=>e = .returned (.int .u64 (rdF t 0 n))∧Below w.heap.size w w':=by
 have e1:(t.extract 0 n).size=n:=by rw [size_extract _ _ _ hl];omega
 have e2:∀ i,i<n→byt (t.extract 0 n) i=byt t (0+i):=fun i hi=>byt_extract t 0 n i hl (by omega)
 have h:=readPiece_any (t.extract 0 n) w (by omega) (fun i hi=>by rw [e2 i (by omega),Nat.zero_add];exact hd i (by omega))
 rw [e1,rdF_congr n e2] at h
 exact h
def strLen:Value→Nat
 | .string t=>t.size
 | _=>0
set_option maxRecDepth 100000 in
set_option maxHeartbeats 1000000 in
theorem parse_yes (s:ByteArray) (w:World) (hs:s.size≤100000000) (hd:Digs s s.size) (h0:0<s.size) :
  Calls Tryz.prog 129 #[.string s] w fun e w'=>∃ c n cc,e = .returned (.tuple #[.slice c n cc,.nilIface])∧Got w' w.heap.size (.slice c n cc) (rdF s 0 s.size) s.size∧Below w.heap.size w w':=by
 go_enter Tryz.func129,Tryz.ntmps129
 go_wp2_with fail
 refine (allDigits_any s _ hs).mono ?_
 rintro e w1 ⟨he,_,hb⟩
 obtain rfl:=he hd h0
 clear he
 have hsz1:=hb.size
 go_wp2
 go_loopw [0,4] (fun sv v wr=>∃ (t:ByteArray) (o:Nat) (a:Option Addr) (n cap:Nat) (xs:List Int),sv = .string t∧v = .slice a n cap∧o+t.size=s.size∧(o=0∨t.size%19=0)∧(∀ i,i<t.size→byt t i=byt s (o+i))∧OwnV wr w.heap.size (.slice a n cap) xs∧NF xs∧val xs=rdF s 0 o∧n≤o∧Below w.heap.size w wr) (fun sv _ _=>strLen sv)
 case atStart=>exact ⟨s,0,none,0,0,[],rfl,rfl,by omega,.inl rfl,fun i _=>by rw [Nat.zero_add],OwnV.nil _ _,NF.nil,rfl,Nat.le_refl _,hb⟩
 case round =>
  clear hb hsz1
  obtain ⟨t,o,a,n,cap,xs,rfl,rfl,hot,h19,hbt,hown,hnf,hv,hno,hbel⟩:=hrel
  have HOT:Hid (o+t.size=s.size):=hot
  have HBT:Hid (∀ i,i<t.size→byt t i=byt s (o+i)):=hbt
  have HNF:Hid (NF xs):=hnf
  have HV:Hid (val xs=rdF s 0 o):=hv
  have hob:o≤100000000:=by omega
  have hts:t.size≤100000000:=by omega
  have HDT:Hid (Digs t t.size):=fun i hi=>by rw [hbt i hi];exact hd _ (by omega)
  have hsz:=hbel.size
  clear hot hbt hnf hv
  by_cases hlt:0<t.size
  ·have hil:(0:Int)<(t.size:Int):=by omega
   obtain ⟨r,hr,hr2⟩:∃ r:Nat,(t.size-1)%19=r∧r<19:=⟨_,rfl,by omega⟩
   have hrt:r+1≤t.size:=by omega
   have T1:((t.size:Int)-1).tmod 19=(r:Int):=by rw [Int.tmod_eq_emod_of_nonneg (by omega)];omega
   have hrI:(r:Int)+1≤(t.size:Int):=by omega
   have HR:Hid ((t.size-1)%19=r):=hr
   clear hr
   have HDR:Hid (Digs t (r+1)):=fun i hi=>HDT.out i (by omega)
   obtain ⟨v0,v1⟩:=rdF_bd (o:=0) HDR.out (r+1) (by omega)
   have v2:=p10_mono (a:=r+1) (b:=19) (by omega)
   have v3:p10 19=10000000000000000000:=by decide
   have HVV:Hid (rdF t 0 (r+1)=rdF s o (r+1)):=rdF_congr (r+1) (fun i hi=>HBT.out i (by omega))
   have v4:rdF t 0 (r+1)<10000000000000000000:=by omega
   clear v1 v2 v3
   go_wp2_with fail
   refine (readPieceE t (r+1) _ (by omega) hrt HDT.out).mono ?_
   rintro e w2 ⟨rfl,hb2⟩
   generalize rdF t 0 (r+1)=V at *
   have hown2:=hown.below hb2
   have hbel2:=bel_tr hbel hb2
   have hsz2:=hb2.size
   clear hown hbel hb2
   go_wp2_with fail
   have hxl:=hown2.reads.1
   have HXL:Hid (n=xs.length):=hxl
   clear hxl
   refine (scale_any a n cap xs 10000000000000000000 V _ w.heap.size hown2 (by omega) (by omega) HNF.out.1 ⟨by omega,by omega⟩ ⟨v0,by omega⟩).mono ?_
   rintro e w3 ⟨a',n',cap',rfl,hown3,hb3⟩
   have hbel3:=hbel2.trans hb3
   have HV3:=sclL_val (xs:=xs) (d:=10000000000000000000) (c:=V) HNF.out.1 ⟨by omega,by omega⟩ ⟨v0,by omega⟩
   have HN3:Hid (NF (sclL xs 10000000000000000000 V)):=sclL_nf HNF.out ⟨by omega,by omega⟩ ⟨v0,by omega⟩ (by omega)
   have HVN:Hid (val (sclL xs 10000000000000000000 V)=rdF s 0 (o+(r+1))):=by
    show _=_
    rw [HV3.2.1,rdF_add,HV.out,HVV.out,Nat.zero_add]
    rcases h19 with h|h
    ·subst h;simp [rdF]
    ·have h2:=HR.out
     rw [show r+1=19 by omega]
     rfl
   have hlen:n'≤o+(r+1):=by
    have h1:=hown3.reads.1
    have h2:=HV3.2.2
    have h3:=HXL.out
    omega
   have HLE:Hid ((t.extract (r+1) t.size).size=t.size-(r+1)):=size_extract _ _ _ (Nat.le_refl _)
   have HBT2:Hid (∀ i,i<(t.extract (r+1) t.size).size→byt (t.extract (r+1) t.size) i=byt s (o+(r+1)+i)):=fun i hi=>by
    rw [HLE.out] at hi
    rw [byt_extract _ _ _ _ (Nat.le_refl _) (by omega),HBT.out _ (by omega),show o+(r+1+i)=o+(r+1)+i by omega]
   have H19:Hid (o+(r+1)=0∨(t.extract (r+1) t.size).size%19=0):=by
    right
    rw [HLE.out]
    have:=HR.out
    omega
   clear hown2 hbel2 hb3 HV3 h19
   go_wp2
   go_roundw
   case rel=>exact ⟨_,o+(r+1),a',n',cap',_,rfl,rfl,by rw [HLE.out];have:=HOT.out;omega,H19.out,HBT2.out,hown3,HN3.out,HVN.out,hlen,hbel3⟩
   case measure=>simp only [strLen];rw [HLE.out];omega
  ·have hil:¬ (0:Int)<(t.size:Int):=by omega
   have HOS:Hid (o=s.size):=by show _=_;have:=HOT.out;omega
   have hG:Got wr w.heap.size (.slice a n cap) (rdF s 0 s.size) s.size:=⟨xs,hown,HNF.out,by rw [HV.out,HOS.out],by have:=hown.reads.1;have:=HOS.out;omega⟩
   clear hown
   go_wp2
   go_ret2
   exact ⟨a,n,cap,rfl,hG,hbel⟩
theorem GI.parts {w:World} {B:Nat} {b:Bool} {c:Option Addr} {n d:Nat} {x:Int} {S:Nat} (h:GI w B (.agg #[.bool b,.slice c n d]) x S):b=decide (x<0)∧Got w B (.slice c n d) (x.natAbs:Int) S:=by
 obtain ⟨a',n',c',h1,h2⟩:=h
 simp only [Value.agg.injEq,Array.mk.injEq,List.cons.injEq,Value.bool.injEq,and_true] at h1
 obtain ⟨h0,h1⟩:=h1
 rw [← h1] at h2
 exact ⟨h0,h2⟩
def TI (w:World) (b:Bool) (a:Option Addr) (n c:Nat) (x:Int) (S:Nat):Prop:=∃ m,Num w a n c m S∧ws b m=x
theorem TI.below {w w':World} {b:Bool} {a:Option Addr} {n c:Nat} {x:Int} {S:Nat} (h:TI w b a n c x S) (hb:Below w.heap.size w w'):TI w' b a n c x S:=by
 obtain ⟨m,h1,h2⟩:=h;exact ⟨m,h1.below hb,h2⟩
theorem GI.form {w:World} {B:Nat} {v:Value} {x:Int} {S:Nat} (h:GI w B v x S):∃ b a n c,v = .agg #[.bool b,.slice a n c]:=by
 obtain ⟨a,n,c,h1,_⟩:=h;exact ⟨_,a,n,c,h1⟩
theorem GI.ti {w:World} {B:Nat} {b:Bool} {a:Option Addr} {n c:Nat} {x:Int} {S:Nat} (h:GI w B (.agg #[.bool b,.slice a n c]) x S):TI w b a n c x S:=by
 obtain ⟨h1,h2⟩:=h.parts
 exact ⟨_,h2.num,by rw [h1];exact ws_sign x⟩
theorem mulT {a b:Option Addr} {p q:Bool} {na nb ca cb:Nat} {x y:Int} {S R:Nat} (w:World) (ha:TI w p a na ca x S) (hb:TI w q b nb cb y R) (hS:S≤10000000) (hR:R≤10000000) :
  Calls Tryz.prog 136 #[.agg #[.bool p,.slice a na ca],.agg #[.bool q,.slice b nb cb]] w fun e w'=>∃ f c n d,e = .returned (.agg #[.bool f,.slice c n d])∧GI w' w.heap.size (.agg #[.bool f,.slice c n d]) (x*y) (S+R)∧Below w.heap.size w w':=by
 obtain ⟨m,h1,rfl⟩:=ha
 obtain ⟨k,h2,rfl⟩:=hb
 refine (mulI p q w h1 h2 (by omega) (by omega)).mono ?_
 rintro e w' ⟨v,rfl,G,hb⟩
 obtain ⟨f,c,n,d,rfl⟩:=G.form
 exact ⟨f,c,n,d,rfl,G,hb⟩
theorem signT {a:Option Addr} {p:Bool} {na ca:Nat} {x:Int} {S:Nat} (w:World) (ha:TI w p a na ca x S) (hS:S≤10000000) :
  Calls Tryz.prog 146 #[.agg #[.bool p,.slice a na ca]] w fun e w'=>e = .returned (.int .i64 x.sign)∧Below w.heap.size w w':=by
 obtain ⟨m,h1,rfl⟩:=ha
 exact signI p w h1 (by omega)
theorem ofT (v:Int) (w:World) (h0:-9223372036854775808≤v) (h1:v<9223372036854775808) :
  Calls Tryz.prog 137 #[.int .i64 v] w fun e w'=>∃ f c n d,e = .returned (.agg #[.bool f,.slice c n d])∧GI w' w.heap.size (.agg #[.bool f,.slice c n d]) (v) (1)∧Below w.heap.size w w':=by
 refine (ofI v w h0 h1).mono ?_
 rintro e w' ⟨u,rfl,G,hb⟩
 obtain ⟨f,c,n,d,rfl⟩:=G.form
 exact ⟨f,c,n,d,rfl,G,hb⟩
end Go.Proofs.YtgdilnljjgdinaaGreatDoor

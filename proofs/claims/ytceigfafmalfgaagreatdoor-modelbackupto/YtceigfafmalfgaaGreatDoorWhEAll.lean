import Derived.Test.YtceigfafmalfgaaGreatDoorWhAll
import Derived.Test.YtceigfafmalfgaaGreatDoorDigAll
import Derived.Test.YtceigfafmalfgaaGreatDoorDivAll
import Derived.Test.YtceigfafmalfgaaGreatDoorSumAll
import Derived.Deep.RegionHeld3
import Derived.Test.YtceigfafmalfgaaGreatDoorNumAll
namespace Go.Proofs.YtceigfafmalfgaaGreatDoor
open Go.RowKit
set_option maxHeartbeats 1000000 in
theorem quoI {a b:Option Addr} {na nb ca cb:Nat} {m k:Int} {S R:Nat} (p q:Bool) (w:World) (ha:Num w a na ca m S) (hb:Num w b nb cb k R) (hS:S≤10000000) (hR:R≤10000000) (hk:0<k) :
  Calls Tryz.prog 55 #[.agg #[.bool p,.slice a na ca],.agg #[.bool q,.slice b nb cb]] w fun e w'=>∃ c n d c' n' d',e = .returned (.tuple #[.agg #[.bool (decide (ws (p != q) (m/k)<0)),.slice c n d],.agg #[.bool (decide (ws p (m%k)<0)),.slice c' n' d'],.nilIface]) ∧
   Got w' w.heap.size (.slice c n d) (m/k) (S+1)∧Got w' w.heap.size (.slice c' n' d') (m%k) (S+1)∧(∀ g,(Value.slice c n d).ownBlock=some g→(Value.slice c' n' d').ownBlock≠some g)∧Below w.heap.size w w':=by
 obtain ⟨P0,P1,R0,R1,hb0,hsz⟩:=box4 w (.bool p) (.slice a na ca) (.bool q) (.slice b nb cb) (.bool false) (.slice none 0 0) (.bool false) (.slice none 0 0) 25
 replace ha:=ha.below hb0
 replace hb:=hb.below hb0
 go_enter Tryz.func55,Tryz.ntmps55
 go_wp2_with fail
 generalize (((w.alloc (.cells #[.bool p,.slice a na ca] 25)).alloc (.cells #[.bool q,.slice b nb cb] 25)).alloc (.cells #[.bool false,.slice none 0 0] 25)).alloc (.cells #[.bool false,.slice none 0 0] 25)=W0 at *
 obtain ⟨p00,p01,p02,p03⟩:=id P0
 obtain ⟨p10,p11,p12,p13⟩:=id P1
 refine (divG _ ha hb hS hR hk).mono ?_
 rintro e w1 ⟨c,n,d,c',n',d',rfl,G1,G2,hdis,hb1⟩
 replace P0:=P0.below hb1
 replace P1:=P1.below hb1
 replace R0:=R0.below hb1
 replace R1:=R1.below hb1
 replace hb0:=bel_tr hb0 hb1
 have hs1:=hb1.size
 clear p00 p01 p02 p03 p10 p11 p12 p13 hb1 ha hb
 obtain ⟨p00,p01,p02,p03⟩:=id P0
 obtain ⟨p10,p11,p12,p13⟩:=id P1
 go_wp2_with fail
 go_region_held3 (fun w'=>w'.cell? ⟨w.heap.size,0,none⟩=some (.bool p)∧w'.cell? ⟨w.heap.size,1,none⟩=some (.slice a na ca)∧w'.cell? ⟨w.heap.size+1,0,none⟩=some (.bool q)∧w'.cell? ⟨w.heap.size+1,1,none⟩=some (.slice b nb cb))
  (first|(go_keep;done)|(refine ⟨?_,?_,?_,?_⟩ <;> first|exact kept_c hbB (by go_keep)|exact kept_c hbA (by go_keep))|(refine ⟨?_,?_,?_,?_⟩ <;> first|exact set2_far (by go_keep) (by simp <;> omega)|exact kept_c (by assumption) (by assumption)))
  ((first
   | (go_at_call 73;go_fit (signed_any (!(p == q)) _ _ _ _);rintro e wA ⟨rfl,hbA⟩;have hcA:Below w1.heap.size w1 wA:=(by first|exact hbA|exact bel_tr (belN (Below.refl _ w1) 1) hbA);have RA0:=R0.below hcA;have RA1:=R1.below hcA)
   | (go_at_call 73;go_fit (signed_any p _ _ _ _);rintro e wB ⟨rfl,hbB⟩;have hcB:Below wA.heap.size wA wB:=(by first|exact hbB|exact bel_tr (belN (Below.refl _ wA) 1) hbB);have RB0:=RA0.below hcB;have RB1:=RA1.below hcB;obtain ⟨r0,r1,r2,r3⟩:=id RB0;obtain ⟨t0,t1,t2,t3⟩:=id RB1)))
 obtain ⟨V,O⟩:=RB0.set (.bool (!(p == q) && decide (0<n))) (.slice c n d)
 have RB1':=RB1.off O (by omega)
 obtain ⟨V1,O1⟩:=RB1'.set (.bool (p && decide (0<n'))) (.slice c' n' d')
 have V0:=V.off O1 (by omega)
 have hw:=((bel_tr (bel_tr hb0 hcA) hcB).trans (O.below (by omega))).trans (O1.below (by omega))
 have K1:=(((G1.below hcA).below hcB).off O (by omega)).off O1 (by omega)
 have K2:=(((G2.below hcA).below hcB).off O (by omega)).off O1 (by omega)
 obtain ⟨g10,g11⟩:=G1.pos
 obtain ⟨g20,g21⟩:=G2.pos
 have e1:(!(p == q) && decide (0<n))=decide (ws (p != q) (m/k)<0):=by rw [← ws_lt g10];simp only [g11];rfl
 have e2:(p && decide (0<n'))=decide (ws p (m%k)<0):=by rw [← ws_lt g20];simp only [g21]
 have HE1:Hid ((!(p == q) && decide (0<n))=decide (ws (p != q) (m/k)<0)):=e1
 have HE2:Hid ((p && decide (0<n'))=decide (ws p (m%k)<0)):=e2
 clear hbA hbB hcA hcB P0 P1 R0 R1 RA0 RA1 p00 p01 p02 p03 p10 p11 p12 p13 hb0 RB0 RB1 RB1' r0 r1 r2 r3 t0 t1 t2 t3 G1 G2 g10 g11 g20 g21 O O1 e1 e2
 go_wp2
 refine bodyPost_ret (v:=.tuple #[.agg #[.bool (!(p == q) && decide (0<n)),.slice c n d],.agg #[.bool (p && decide (0<n')),.slice c' n' d'],.nilIface]) (by simp [results,Tryz.results55,go_sem,V0.c0,V0.c1,V1.c0,V1.c1]) rfl ⟨c,n,d,c',n',d',?_,K1.mono (by omega),K2.mono (by omega),hdis,hw⟩
 rw [HE1.out,HE2.out]
end Go.Proofs.YtceigfafmalfgaaGreatDoor
namespace Go.Proofs.YtceigfafmalfgaaGreatDoor
open Go Go.RowKit
section
variable {P:Program} {ops:Array Oper} {Q:Exit→Act→World→Prop} {md:Region.Mode} {S:World→Prop} {T:Array Bool→World→Prop} {s:Nat}
def wpAnyG (P:Program) (md:Region.Mode) (ops:Array Oper) (Q:Exit→Act→World→Prop) (T:Array Bool→World→Prop):Nat→Array Bool→Act→World→Prop
 | 0,L,a,w=>Region.ready md ops L=[]∧Q .normal a w
 | f+1,L,a,w=>(Region.ready md ops L=[]→Q .normal a w)∧∀ i,i ∈ Region.ready md ops L →
   wpOp P ops Q i (fun a' w'=>T (L.setIfInBounds i true) w'∧wpAnyG P md ops Q T f (L.setIfInBounds i true) a' w') a w
theorem wpAnyG.any:∀ (f:Nat) (L:Array Bool) (a:Act) (w:World),wpAnyG P md ops Q T f L a w→wpAny P md ops Q f L a w:=by
 intro f
 induction f with
 | zero=>exact fun _ _ _ h=>h
 | succ f ih=>exact fun L a w h=>⟨h.1,fun i hi=>wpOp_mono (fun a' w' k=>ih _ a' w' k.2) (h.2 i hi)⟩
theorem wpAnyG.load {i:Nat} {oi:Oper} {v:Value} (hi:ops[i]? = some oi) (hsel:Region.noSelect ops=true) (hQ:∀ c a w,Q (.panic c) (a.put oi.dst v) w→Q (.panic c) a w) (hsi:s≠i) (hind:∀ L w,T (L.setIfInBounds i true) w↔T L w) (hTS:∀ (L:Array Bool) (w:World),L.getD s true=false→T L w→S w)
  (hwait:∀ L:Array Bool,L.getD i true=false→s ∉ Region.ready md ops L) (f:Nat) :
  ∀ (L:Array Bool) (a:Act) (w:World),(∀ j oj,ops[j]? = some oj→j≠i→L.getD j true=false→(∀ e ∈ oj.after,Region.binds md e=true→e.on≠i)→oi.apart ops oj=true) →
   i ∈ Region.ready md ops L→YieldsIf P ops S oi v a→T L w→L.getD s true=false→wpAnyG P md ops Q T f (L.setIfInBounds i true) (a.put oi.dst v) w→wpAnyG P md ops Q T (f+1) L a w:=by
 have nosel:=Region.noSelect_spec hsel
 induction f with
 | zero =>
  intro L a w _ hr hy hT hs H
  refine ⟨fun h=>absurd hr (by rw [h];exact List.not_mem_nil),fun j hj=>?_⟩
  rcases Decidable.em (j=i) with e|e
  ·subst e;exact hy.wpOp hi (hTS L w hs hT) ⟨(hind L w).2 hT,H⟩
  ·exact absurd (ready_mono hj e) (by rw [H.1];exact List.not_mem_nil)
 | succ f ih =>
  intro L a w hfree hr hy hT hs H
  refine ⟨fun h=>absurd hr (by rw [h];exact List.not_mem_nil),fun j hj=>?_⟩
  rcases Decidable.em (j=i) with e|e
  ·subst e;exact hy.wpOp hi (hTS L w hs hT) ⟨(hind L w).2 hT,H⟩
  ·have hun:L.getD i true=false:=(mem_ready.1 hr).1
   have hjs:j≠s:=fun h=>hwait L hun (h ▸ hj)
   obtain ⟨hjun,oj,hoj,hall⟩:=mem_ready.1 hj
   have hno:∀ x ∈ oj.after,Region.binds md x=true→x.on≠i:=by
    intro x hx hb hxi
    have h1:=hall x hx hb
    rw [hxi] at h1
    have h2:i<L.size:=Nat.lt_of_not_le fun hle=>by simp [Array.getElem?_eq_none hle] at h1
    simp [h2] at hun h1
    rw [hun] at h1;cases h1
   have step:=wpOp_putIf hoj (hfree j oj hoj e hjun hno) (fun cs b=>nosel i oi cs b hi) (fun cs b=>nosel j oj cs b hoj) hQ hy (H.2 j (ready_mono hj e))
   refine wpOp_mono (fun a' w' k=>?_) step
   have hs':(L.setIfInBounds j true).getD s true=false:=by rw [getD_set_ne true hjs];exact hs
   have hTw:T (L.setIfInBounds j true) w':=by
    have h:=k.2.1
    rw [Array.setIfInBounds_comm _ _ (Ne.symm e)] at h
    exact (hind _ w').1 h
   refine ⟨hTw,ih (L.setIfInBounds j true) a' w' ?_ (ready_mono hr (Ne.symm e)) k.1 hTw hs' (by rw [Array.setIfInBounds_comm _ _ e];exact k.2.2)⟩
   intro x ox hx hxi hux hxn
   refine hfree x ox hx hxi ?_ hxn
   rcases Decidable.em (j=x) with e2|e2
   ·subst e2;exact hjun
   ·rw [getD_set_ne true e2] at hux;exact hux
theorem wpAnyG.take (i:Nat) {f:Nat} {L:Array Bool} {a:Act} {w:World} {v:Value} (hlt:i<ops.size) (hsel:Region.noSelect ops=true) (hQ:∀ c a w,Q (.panic c) (a.put ops[i].dst v) w→Q (.panic c) a w) (s:Nat) (S:World→Prop) (hsi:(s == i)=false) (hind:∀ L w,T (L.setIfInBounds i true) w↔T L w) (hTS:∀ (L:Array Bool) (w:World),L.getD s true=false→T L w→S w)
  (hwait:(match ops[s]? with|some o=>o.after.toList.any (fun e=>Region.binds md e && e.on == i)|none=>false)=true) (hf:Region.free md ops L i=true) (hr:(Region.ready md ops L).contains i=true)
  (hwd:Region.wanted ops[i] (yielded ops a.tmps)=true) (hy:∀ w,S w→(execOp a.eval ops[i]).run P w = .ok (.value v) w) (hT:T L w) (hs:L.getD s true=false)
  (h:wpAnyG P md ops Q T f (L.setIfInBounds i true) (a.put ops[i].dst v) w):wpAnyG P md ops Q T (f+1) L a w:=by
 have hi:ops[i]? = some ops[i]:=Array.getElem?_eq_getElem hlt
 refine wpAnyG.load hi hsel hQ (by simpa using hsi) hind hTS ?_ f L a w (Region.free_spec hi hf) (by simpa using hr) (.inl ⟨hwd,hy⟩) hT hs h
 intro L' hL' hm
 obtain ⟨_,o,ho,hall⟩:=mem_ready.1 hm
 rw [ho] at hwait
 obtain ⟨x,hx',hb⟩:=List.any_eq_true.1 hwait
 have hx:=Array.mem_toList_iff.1 hx'
 simp only [Bool.and_eq_true,beq_iff_eq] at hb
 have h1:=hall x hx hb.1
 rw [hb.2] at h1
 have h2:i<L'.size:=Nat.lt_of_not_le fun hle=>by simp [Array.getElem?_eq_none hle] at h1
 simp [h2] at hL' h1
 rw [hL'] at h1;cases h1
theorem wpAnyG.one (i:Nat) {f:Nat} {L:Array Bool} {a:Act} {w:World} (hr:Region.ready md ops L=[i]) (hlt:i<ops.size) (hwd:Region.wanted ops[i] (yielded ops a.tmps)=true)
  (h:∀ K:Act→World→Prop,(∀ a' w',T (L.setIfInBounds i true) w'→wpAnyG P md ops Q T f (L.setIfInBounds i true) a' w'→K a' w')→ops[i].wp P a w K Q):wpAnyG P md ops Q T (f+1) L a w:=by
 refine ⟨fun h0=>(by rw [hr] at h0;cases h0),fun j hj=>?_⟩
 rw [hr] at hj
 obtain rfl:j=i:=by simpa using hj
 unfold wpOp
 rw [Array.getElem?_eq_getElem hlt]
 simp only [hwd,if_true]
 exact .inl (h _ fun a' w' h1 h2=>⟨h1,h2⟩)
theorem wpAnyG.done {f:Nat} {L:Array Bool} {a:Act} {w:World} (hr:Region.ready md ops L=[]) (h:Q .normal a w):wpAnyG P md ops Q T f L a w:=by
 cases f with
 | zero=>exact ⟨hr,h⟩
 | succ f=>exact ⟨fun _=>h,fun i hi=>absurd hi (by rw [hr];exact List.not_mem_nil)⟩
def Till (s s':Nat) (S S':World→Prop) (L:Array Bool) (w:World):Prop:=(L.getD s true=false→S w)∧(L.getD s' true=false→S' w)
theorem till_ind {s s' i:Nat} {S S':World→Prop} (h:i≠s) (h':i≠s') (L:Array Bool) (w:World):Till s s' S S' (L.setIfInBounds i true) w↔Till s s' S S' L w:=by
 unfold Till
 rw [getD_set_ne true h,getD_set_ne true h']
theorem wp_region_guard {id:Nat} {a:Act} {w:World} (T:Array Bool→World→Prop) (hm:P.follows .mixedOrders=true) (h:wpAnyG P .any ops Q T ops.size (Array.replicate ops.size false) a w.drew):(Code.region id ops true).wp P Q a w :=
 wp_region_any hm (wpAnyG.any _ _ _ _ h)
def rfirst (md:Region.Mode) (ops:Array Oper) (L:Array Bool) (i s:Nat):Bool :=
 Region.noSelect ops && (!(s == i) && ((match ops[s]? with|some o=>o.after.toList.any (fun e=>Region.binds md e && e.on == i)|none=>false) && (Region.free md ops L i && ((Region.ready md ops L).contains i && !(L.getD s true)))))
theorem rfirst_spec {md:Region.Mode} {ops:Array Oper} {L:Array Bool} {i s:Nat} (h:rfirst md ops L i s=true) :
  Region.noSelect ops=true∧(s == i)=false∧(match ops[s]? with|some o=>o.after.toList.any (fun e=>Region.binds md e && e.on == i)|none=>false)=true∧Region.free md ops L i=true∧(Region.ready md ops L).contains i=true∧L.getD s true=false:=by
 unfold rfirst at h
 rw [Bool.and_eq_true,Bool.and_eq_true,Bool.and_eq_true,Bool.and_eq_true,Bool.and_eq_true,Bool.not_eq_true',Bool.not_eq_true'] at h
 exact ⟨h.1,h.2.1,h.2.2.1,h.2.2.2.1,h.2.2.2.2.1,h.2.2.2.2.2⟩
theorem wpAnyG.tA (i:Nat) {f:Nat} {L:Array Bool} {a:Act} {w:World} {v:Value} {Q0:Exit→Act→World→Prop} {F:World→Prop} (hlt:i<ops.size) (s:Nat) (hc:rfirst md ops L i s=true) (hwd:Region.wanted ops[i] (yielded ops a.tmps)=true) (hy:∀ w,F w→(execOp a.eval ops[i]).run P w = .ok (.value v) w) (hT:F w)
  (h:wpAnyG P md ops (NoPanic Q0) (fun _ w'=>F w') f (L.setIfInBounds i true) (a.put ops[i].dst v) w):wpAnyG P md ops (NoPanic Q0) (fun _ w'=>F w') (f+1) L a w:=by
 obtain ⟨h1,h2,h3,h4,h5,h6⟩:=rfirst_spec hc
 exact wpAnyG.take i hlt h1 (fun _ _ _ h=>h) s F h2 (fun _ _=>Iff.rfl) (fun _ _ _ h=>h) h3 h4 h5 hwd hy hT h6 h
theorem wpAnyG.tT (i:Nat) {f:Nat} {L:Array Bool} {a:Act} {w:World} {v:Value} {Q0:Exit→Act→World→Prop} {F:World→Prop} (hlt:i<ops.size) (s:Nat) (hc:rfirst md ops L i s=true) (hwd:Region.wanted ops[i] (yielded ops a.tmps)=true) (hy:∀ w,F w→(execOp a.eval ops[i]).run P w = .ok (.value v) w) (hT:F w)
  (h:wpAnyG P md ops (NoPanic Q0) (Till s s F (fun _=>True)) f (L.setIfInBounds i true) (a.put ops[i].dst v) w):wpAnyG P md ops (NoPanic Q0) (Till s s F (fun _=>True)) (f+1) L a w:=by
 obtain ⟨h1,h2,h3,h4,h5,h6⟩:=rfirst_spec hc
 have h7:i≠s:=fun e=>by subst e;simp at h2
 exact wpAnyG.take i hlt h1 (fun _ _ _ h=>h) s F h2 (till_ind h7 h7) (fun L w' h1 h2=>h2.1 h1) h3 h4 h5 hwd hy ⟨fun _=>hT,fun _=>trivial⟩ h6 h
theorem wp_region_guardB {id:Nat} {a:Act} {w U:World} {F:World→Prop} (_HB:∀ w',Below U.heap.size U w'→F w') (hm:P.follows .mixedOrders=true) (h:wpAnyG P .any ops Q (fun _ w'=>F w') ops.size (Array.replicate ops.size false) a w.drew):(Code.region id ops true).wp P Q a w :=
 wp_region_guard (fun _ w'=>F w') hm h
theorem wp_region_guardT {id:Nat} {a:Act} {w U:World} {F:World→Prop} (s:Nat) (_HB:∀ w',Below U.heap.size U w'→F w') (hm:P.follows .mixedOrders=true) (h:wpAnyG P .any ops Q (Till s s F (fun _=>True)) ops.size (Array.replicate ops.size false) a w.drew):(Code.region id ops true).wp P Q a w :=
 wp_region_guard (Till s s F (fun _=>True)) hm h
end
theorem lgA {α:Type _} {xs:List α} {i:Nat} (h:i<xs.toArray.size):xs.toArray[i]=xs[i]'(by simpa using h):=rfl
theorem lgZ {α:Type _} (a:α) (bs:List α) (h:0<(a::bs).length):(a::bs)[0]=a:=rfl
theorem lgS {α:Type _} (a:α) (bs:List α) (i:Nat) (h:i+1<(a::bs).length):(a::bs)[i+1]=bs[i]'(by simpa using h):=rfl
theorem lsA {α:Type _} (l:List α) (i:Nat) (a:α):l.toArray.setIfInBounds i a=(l.set i a).toArray:=List.setIfInBounds_toArray l i a
theorem lsZ {α:Type _} {x:α} {xs:List α} {a:α}:(x::xs).set 0 a=a::xs:=rfl
theorem lsS {α:Type _} {x:α} {xs:List α} {i:Nat} {a:α}:(x::xs).set (i+1) a=x::xs.set i a:=rfl
end Go.Proofs.YtceigfafmalfgaaGreatDoor
namespace Go.Proofs.YtceigfafmalfgaaGreatDoor
open Go.RowKit
theorem GI.parts {w:World} {B:Nat} {b:Bool} {c:Option Addr} {n d:Nat} {x:Int} {S:Nat} (h:GI w B (.agg #[.bool b,.slice c n d]) x S):b=decide (x<0)∧Got w B (.slice c n d) (x.natAbs:Int) S:=by
 obtain ⟨a',n',c',h1,h2⟩:=h
 simp only [Value.agg.injEq,Array.mk.injEq,List.cons.injEq,Value.bool.injEq,and_true] at h1
 obtain ⟨h0,h1⟩:=h1
 rw [← h1] at h2
 exact ⟨h0,h2⟩
def TI (w:World) (b:Bool) (a:Option Addr) (n c:Nat) (x:Int) (S:Nat):Prop:=∃ m,Num w a n c m S∧ws b m=x
theorem TI.below {w w':World} {b:Bool} {a:Option Addr} {n c:Nat} {x:Int} {S:Nat} (h:TI w b a n c x S) (hb:Below w.heap.size w w'):TI w' b a n c x S:=by
 obtain ⟨m,h1,h2⟩:=h;exact ⟨m,h1.below hb,h2⟩
theorem GI.form {w:World} {B:Nat} {v:Value} {x:Int} {S:Nat} (h:GI w B v x S):∃ b a n c,v = .agg #[.bool b,.slice a n c]:=by
 obtain ⟨a,n,c,h1,_⟩:=h;exact ⟨_,a,n,c,h1⟩
theorem GI.ti {w:World} {B:Nat} {b:Bool} {a:Option Addr} {n c:Nat} {x:Int} {S:Nat} (h:GI w B (.agg #[.bool b,.slice a n c]) x S):TI w b a n c x S:=by
 obtain ⟨h1,h2⟩:=h.parts
 exact ⟨_,h2.num,by rw [h1];exact ws_sign x⟩
theorem addT {a b:Option Addr} {p q:Bool} {na nb ca cb:Nat} {x y:Int} {S R:Nat} (w:World) (ha:TI w p a na ca x S) (hb:TI w q b nb cb y R) (hS:S≤10000000) (hR:R≤10000000) :
  Calls Tryz.prog 65 #[.agg #[.bool p,.slice a na ca],.agg #[.bool q,.slice b nb cb]] w fun e w'=>∃ f c n d,e = .returned (.agg #[.bool f,.slice c n d])∧GI w' w.heap.size (.agg #[.bool f,.slice c n d]) (x+y) (S+R+1)∧Below w.heap.size w w':=by
 obtain ⟨m,h1,rfl⟩:=ha
 obtain ⟨k,h2,rfl⟩:=hb
 refine (addI p q w h1 h2 (by omega) (by omega)).mono ?_
 rintro e w' ⟨v,rfl,G,hb⟩
 obtain ⟨f,c,n,d,rfl⟩:=G.form
 exact ⟨f,c,n,d,rfl,G,hb⟩
theorem mulT {a b:Option Addr} {p q:Bool} {na nb ca cb:Nat} {x y:Int} {S R:Nat} (w:World) (ha:TI w p a na ca x S) (hb:TI w q b nb cb y R) (hS:S≤10000000) (hR:R≤10000000) :
  Calls Tryz.prog 66 #[.agg #[.bool p,.slice a na ca],.agg #[.bool q,.slice b nb cb]] w fun e w'=>∃ f c n d,e = .returned (.agg #[.bool f,.slice c n d])∧GI w' w.heap.size (.agg #[.bool f,.slice c n d]) (x*y) (S+R)∧Below w.heap.size w w':=by
 obtain ⟨m,h1,rfl⟩:=ha
 obtain ⟨k,h2,rfl⟩:=hb
 refine (mulI p q w h1 h2 (by omega) (by omega)).mono ?_
 rintro e w' ⟨v,rfl,G,hb⟩
 obtain ⟨f,c,n,d,rfl⟩:=G.form
 exact ⟨f,c,n,d,rfl,G,hb⟩
theorem signT {a:Option Addr} {p:Bool} {na ca:Nat} {x:Int} {S:Nat} (w:World) (ha:TI w p a na ca x S) (hS:S≤10000000) :
  Calls Tryz.prog 62 #[.agg #[.bool p,.slice a na ca]] w fun e w'=>e = .returned (.int .i64 x.sign)∧Below w.heap.size w w':=by
 obtain ⟨m,h1,rfl⟩:=ha
 exact signI p w h1 (by omega)
theorem ofT (v:Int) (w:World) (h0:-9223372036854775808≤v) (h1:v<9223372036854775808) :
  Calls Tryz.prog 57 #[.int .i64 v] w fun e w'=>∃ f c n d,e = .returned (.agg #[.bool f,.slice c n d])∧GI w' w.heap.size (.agg #[.bool f,.slice c n d]) (v) (1)∧Below w.heap.size w w':=by
 refine (ofI v w h0 h1).mono ?_
 rintro e w' ⟨u,rfl,G,hb⟩
 obtain ⟨f,c,n,d,rfl⟩:=G.form
 exact ⟨f,c,n,d,rfl,G,hb⟩
end Go.Proofs.YtceigfafmalfgaaGreatDoor

import Derived.Test.YtnokmjmefipplaaGreatDoorWhEAll
import Derived.OrdersIn
import Derived.RangeFuncLeaves
namespace Go.Proofs.YtnokmjmefipplaaGreatDoor
open Go Go.RowKit
section bridge
variable {F:Fence} {n:Nat} {P:Program} {ops:Array Oper} {Q:Exit→Act→World→Prop} {md:Region.Mode}
def iI (o:Oper):Bool:=match o.op with | .defer _=>false | _=>true
theorem lH {o:Oper} (h:iI o = true) (c):o.op ≠ .defer c:=fun e=>by unfold iI at h;rw [e] at h;cases h
end bridge
section
variable {F:Fence} {n:Nat} {P:Program} {ops:Array Oper} {Q:Exit→Act→World→Prop} {md:Region.Mode} {S:World→Prop}
def YldI (P:Program) (ops:Array Oper) (S:World→Prop) (o:Oper) (v:Value) (a:Act):Prop:=Region.wanted o (yielded ops a.tmps) = true∧(∀ w,S w→(execOp a.eval o).run P w = .ok (.value v) w)∧(∀ c,o.op ≠ .call c)
theorem uI {o:Oper} (h:∀ c,o.op ≠ .call c) (w:World) (ρ:Operand→Value):o.about P w ρ = none:=by
 unfold Oper.about
 cases e:o.op <;> first | rfl | exact absurd e (h _)
theorem YldI.wpOpIn {i:Nat} {o:Oper} {v:Value} {a:Act} (hp:iI o = true) (hi:ops[i]? = some o) (hy:YldI P ops S o v a) {K:Act→World→Prop} {w:World} (hS:S w) (h:K (a.put o.dst v) w):wpOpIn F n P ops Q i K a w:=by
 unfold Go.wpOpIn
 simp only [hi,hy.1,if_true,Oper.wpIn,Oper.semAt_eq _ _ _ (lH hp),hy.2.1 w hS,Oper.uponIn]
 exact ⟨fun f hf=>(by rw [uI hy.2.2] at hf;cases hf),h⟩
theorem YldI.put {oi oj:Oper} {v u:Value} {a:Act} (hap:oi.apart ops oj = true) (hsi:∀ cs b,oi.op ≠ .select cs b) (hy:YldI P ops S oi v a):YldI P ops S oi v (a.put oj.dst u):=by
 obtain ⟨_,_,h3⟩:=Oper.apart_spec hap
 unfold YldI
 rw [execOp_put oi hsi a oj.dst u h3,wanted_put oi a oj.dst u h3]
 exact hy
def wpAnyI (F:Fence) (n:Nat) (P:Program) (md:Region.Mode) (ops:Array Oper) (Q:Exit→Act→World→Prop) (S:World→Prop) (s:Nat):Nat→Array Bool→Act→World→Prop
 | 0,L,a,w=>Region.ready md ops L = []∧Q .normal a w
 | f + 1,L,a,w=>(Region.ready md ops L = []→Q .normal a w)∧∀ i,i ∈ Region.ready md ops L →
  wpOpIn F n P ops Q i (fun a' w'=>((L.setIfInBounds i true).getD s true = false→S w')∧wpAnyI F n P md ops Q S s f (L.setIfInBounds i true) a' w') a w
theorem wpAnyI.any {s:Nat}:∀ (f:Nat) (L:Array Bool) (a:Act) (w:World),wpAnyI F n P md ops Q S s f L a w→wpAnyIn F n P md ops Q f L a w:=by
 intro f
 induction f with
 | zero=>exact fun _ _ _ h=>h
 | succ f ih=>exact fun L a w h=>⟨h.1,fun i hi=>wpOpIn_mono (fun a' w' k=>ih _ a' w' k.2) (h.2 i hi)⟩
theorem fC {id:Nat} {a:Act} {w:World} {s:Nat} (hm:P.follows .mixedOrders = true) (h:wpAnyI F n P .any ops Q S s ops.size (Array.replicate ops.size false) a w.drew):(Code.region id ops true).wpIn F n P Q a w :=
 wpIn_region_any hm (wpAnyI.any _ _ _ _ h)
theorem swapI {j:Nat} {oi oj:Oper} {v:Value} (hp:iI oj = true) (hj:ops[j]? = some oj) (hap:oi.apart ops oj = true) (hsi:∀ cs b,oi.op ≠ .select cs b) (hsj:∀ cs b,oj.op ≠ .select cs b)
 (hQ:∀ c a w,¬ Q (.panic c) a w) {K:Act→World→Prop} {a:Act} {w:World} (hy:YldI P ops S oi v a) (h:wpOpIn F n P ops Q j K (a.put oi.dst v) w) :
 wpOpIn F n P ops Q j (fun a' w'=>YldI P ops S oi v a'∧K (a'.put oi.dst v) w') a w:=by
 obtain ⟨h1,h2,h3⟩:=Oper.apart_spec hap
 have keep:∀ u,YldI P ops S oi v (a.put oj.dst u):=fun u=>hy.put hap hsi
 have fin:∀ u w',K ((a.put oi.dst v).put oj.dst u) w'→YldI P ops S oi v (a.put oj.dst u)∧K ((a.put oj.dst u).put oi.dst v) w':=fun u w' hk=>⟨keep u,by rw [← Act.put_comm a v u h2];exact hk⟩
 unfold wpOpIn at *
 simp only [hj] at *
 rw [wanted_put oj a oi.dst v h1,about_put oj w a oi.dst v h1] at h
 by_cases hw:Region.wanted oj (yielded ops a.tmps) = true
 ·simp only [hw,if_true] at h ⊢
  unfold Oper.wpIn at *
  rw [about_put oj w a oi.dst v h1] at h
  refine ⟨h.1,?_⟩
  replace h:=h.2
  rw [Oper.semAt_eq _ _ _ (lH hp),execOp_put oj hsj a oi.dst v h1] at h
  rw [Oper.semAt_eq _ _ _ (lH hp)]
  generalize (execOp a.eval oj).run P w = r at *
  cases r with
  | ok x w' =>
   cases x <;> simp only [Oper.uponIn] at h ⊢
   case value u=>exact fin u _ h
   case skip=>exact fin _ _ h
   case defer d =>
    refine ⟨?_,?_⟩
    ·have:YldI P ops S oi v { a with defers:=d :: a.defers }:=hy
     exact this.put hap hsi
    ·rw [← Act.put_comm _ v undef h2,← Act.put_defers]
     exact h
   case enter f args =>
    refine ⟨h.1,CallsIn.mono h.2 fun e w'' he=>?_⟩
    cases e with
    | returned u=>exact fin u _ he
    | panicked c=>exact absurd he (hQ _ _ _)
    | outgrown=>exact he
   case row row args=>exact ⟨h.1,RowsIn.mono h.2 fun u w'' he=>fin u _ he⟩
   case round l f tmps assign body =>
    refine ⟨h.1,RoundIn.mono h.2 fun e w'' he=>?_⟩
    cases e with
    | returned u=>exact fin u _ he
    | panicked c=>exact absurd he (hQ _ _ _)
    | outgrown=>exact he
  | halt x w' =>
   cases x <;> simp only [Oper.uponIn] at h ⊢
   case panic u=>exact absurd h (hQ _ _ _)
 ·simp only [hw] at h ⊢
  exact ⟨h.1,fin _ _ h.2⟩
theorem wpAnyI.load {i s:Nat} {oi:Oper} {v:Value} (hro:∀ (j:Nat) o,ops[j]? = some o→iI o = true) (hi:ops[i]? = some oi) (hsel:Region.noSelect ops = true) (hQ:∀ c a w,¬ Q (.panic c) a w) (hsi:s ≠ i)
 (hwait:∀ L:Array Bool,L.getD i true = false→s ∉ Region.ready md ops L) (f:Nat) :
 ∀ (L:Array Bool) (a:Act) (w:World),(∀ j oj,ops[j]? = some oj→j ≠ i→L.getD j true = false→(∀ e ∈ oj.after,Region.binds md e = true→e.on ≠ i)→oi.apart ops oj = true) →
  i ∈ Region.ready md ops L→YldI P ops S oi v a→S w→L.getD s true = false→wpAnyI F n P md ops Q S s f (L.setIfInBounds i true) (a.put oi.dst v) w→wpAnyI F n P md ops Q S s (f + 1) L a w:=by
 have nosel:=Region.noSelect_spec hsel
 induction f with
 | zero =>
  intro L a w _ hr hy hS hs H
  refine ⟨fun h=>absurd hr (by rw [h];exact List.not_mem_nil),fun j hj=>?_⟩
  rcases Decidable.em (j = i) with e | e
  ·subst e;exact hy.wpOpIn (hro _ _ hi) hi hS ⟨fun _=>hS,H⟩
  ·exact absurd (ready_mono hj e) (by rw [H.1];exact List.not_mem_nil)
 | succ f ih =>
  intro L a w hfree hr hy hS hs H
  refine ⟨fun h=>absurd hr (by rw [h];exact List.not_mem_nil),fun j hj=>?_⟩
  rcases Decidable.em (j = i) with e | e
  ·subst e;exact hy.wpOpIn (hro _ _ hi) hi hS ⟨fun _=>hS,H⟩
  ·have hun:L.getD i true = false:=(mem_ready.1 hr).1
   have hjs:j ≠ s:=fun h=>hwait L hun (h ▸ hj)
   obtain ⟨hjun,oj,hoj,hall⟩:=mem_ready.1 hj
   have hno:∀ x ∈ oj.after,Region.binds md x = true→x.on ≠ i:=by
    intro x hx hb hxi
    have h1:=hall x hx hb
    rw [hxi] at h1
    have h2:i < L.size:=Nat.lt_of_not_le fun hle=>by simp [Array.getElem?_eq_none hle] at h1
    simp [h2] at hun h1
    rw [hun] at h1;cases h1
   have step:=swapI (hro _ _ hoj) hoj (hfree j oj hoj e hjun hno) (fun cs b=>nosel i oi cs b hi) (fun cs b=>nosel j oj cs b hoj) hQ hy (H.2 j (ready_mono hj e))
   refine wpOpIn_mono (fun a' w' k=>?_) step
   have hs':(L.setIfInBounds j true).getD s true = false:=by rw [getD_set_ne true hjs];exact hs
   have hS':S w':=k.2.1 (by rw [Array.setIfInBounds_comm _ _ (Ne.symm e),getD_set_ne true (fun h=>hsi h.symm)];exact hs')
   refine ⟨fun _=>hS',ih (L.setIfInBounds j true) a' w' ?_ (ready_mono hr (Ne.symm e)) k.1 hS' hs' (by rw [Array.setIfInBounds_comm _ _ e];exact k.2.2)⟩
   intro x ox hx hxi hux hxn
   refine hfree x ox hx hxi ?_ hxn
   rcases Decidable.em (j = x) with e2 | e2
   ·subst e2;exact hjun
   ·rw [getD_set_ne true e2] at hux;exact hux
theorem wpAnyI.take (i:Nat) {f s:Nat} {L:Array Bool} {a:Act} {w:World} {v:Value} (hpl:ops.toList.all iI = true) (hlt:i < ops.size) (hQ:∀ c a w,¬ Q (.panic c) a w) (hc:qJ md ops L i s = true) (hnc:(match ops[i].op with | .call _=>false | _=>true) = true) (hwd:Region.wanted ops[i] (yielded ops a.tmps) = true) (hy:∀ w,S w→(execOp a.eval ops[i]).run P w = .ok (.value v) w) (hS:S w)
 (h:wpAnyI F n P md ops Q S s f (L.setIfInBounds i true) (a.put ops[i].dst v) w):wpAnyI F n P md ops Q S s (f + 1) L a w:=by
 obtain ⟨h1,h2,hwait,h4,h5,h6⟩:=jO hc
 have hi:ops[i]? = some ops[i]:=Array.getElem?_eq_getElem hlt
 have hro:∀ (j:Nat) o,ops[j]? = some o→iI o = true:=fun j o ho=>List.all_eq_true.1 hpl o (Array.mem_toList_iff.2 (Array.mem_of_getElem? ho))
 refine wpAnyI.load hro hi h1 hQ (by simpa using h2) ?_ f L a w (Region.free_spec hi h4) (by simpa using h5) ⟨hwd,hy,fun c e=>by rw [e] at hnc;cases hnc⟩ hS h6 h
 intro L' hL' hm
 obtain ⟨_,o,ho,hall⟩:=mem_ready.1 hm
 rw [ho] at hwait
 obtain ⟨x,hx',hb⟩:=List.any_eq_true.1 hwait
 have hx:=Array.mem_toList_iff.1 hx'
 simp only [Bool.and_eq_true,beq_iff_eq] at hb
 have h1:=hall x hx hb.1
 rw [hb.2] at h1
 have h2:i < L'.size:=Nat.lt_of_not_le fun hle=>by simp [Array.getElem?_eq_none hle] at h1
 simp [h2] at hL' h1
 rw [hL'] at h1;cases h1
theorem wpAnyI.one (i:Nat) {f s:Nat} {L:Array Bool} {a:Act} {w:World} (hr:Region.ready md ops L = [i]) (hlt:i < ops.size) (hwd:Region.wanted ops[i] (yielded ops a.tmps) = true)
 (h:∀ K:Act→World→Prop,(∀ a' w',((L.setIfInBounds i true).getD s true = false→S w')→wpAnyI F n P md ops Q S s f (L.setIfInBounds i true) a' w'→K a' w')→ops[i].wpIn F n P a w K Q):wpAnyI F n P md ops Q S s (f + 1) L a w:=by
 refine ⟨fun h0=>(by rw [hr] at h0;cases h0),fun j hj=>?_⟩
 rw [hr] at hj
 obtain rfl:j = i:=by simpa using hj
 unfold wpOpIn
 rw [Array.getElem?_eq_getElem hlt]
 simp only [hwd,if_true]
 exact h _ fun a' w' h1 h2=>⟨h1,h2⟩
theorem wpAnyI.done {f s:Nat} {L:Array Bool} {a:Act} {w:World} (hr:Region.ready md ops L = []) (h:Q .normal a w):wpAnyI F n P md ops Q S s f L a w:=by
 cases f with
 | zero=>exact ⟨hr,h⟩
 | succ f=>exact ⟨fun _=>h,fun i hi=>absurd hi (by rw [hr];exact List.not_mem_nil)⟩
end
end Go.Proofs.YtnokmjmefipplaaGreatDoor
namespace Go.Proofs.YtnokmjmefipplaaGreatDoor
open Go Go.RowKit
section
variable {F:Fence} {n:Nat} {P:Program} {ops:Array Oper} {Q:Exit→Act→World→Prop} {md:Region.Mode} {S:World→Prop}
def wpAnyJ (F:Fence) (n:Nat) (P:Program) (md:Region.Mode) (ops:Array Oper) (Q:Exit→Act→World→Prop) (S:World→Prop):Nat→Array Bool→Act→World→Prop
 | 0,L,a,w=>Region.ready md ops L = []∧Q .normal a w
 | f + 1,L,a,w=>(Region.ready md ops L = []→Q .normal a w)∧∀ i,i ∈ Region.ready md ops L →
  wpOpIn F n P ops Q i (fun a' w'=>S w'∧wpAnyJ F n P md ops Q S f (L.setIfInBounds i true) a' w') a w
theorem wpAnyJ.any:∀ (f:Nat) (L:Array Bool) (a:Act) (w:World),wpAnyJ F n P md ops Q S f L a w→wpAnyIn F n P md ops Q f L a w:=by
 intro f
 induction f with
 | zero=>exact fun _ _ _ h=>h
 | succ f ih=>exact fun L a w h=>⟨h.1,fun i hi=>wpOpIn_mono (fun a' w' k=>ih _ a' w' k.2) (h.2 i hi)⟩
theorem oN {id:Nat} {a:Act} {w:World} (hm:P.follows .mixedOrders = true) (h:wpAnyJ F n P .any ops Q S ops.size (Array.replicate ops.size false) a w.drew):(Code.region id ops true).wpIn F n P Q a w :=
 wpIn_region_any hm (wpAnyJ.any _ _ _ _ h)
theorem wpAnyJ.load {i s:Nat} {oi:Oper} {v:Value} (hro:∀ (j:Nat) o,ops[j]? = some o→iI o = true) (hi:ops[i]? = some oi) (hsel:Region.noSelect ops = true) (hQ:∀ c a w,¬ Q (.panic c) a w) 
 (hwait:∀ L:Array Bool,L.getD i true = false→s ∉ Region.ready md ops L) (f:Nat) :
 ∀ (L:Array Bool) (a:Act) (w:World),(∀ j oj,ops[j]? = some oj→j ≠ i→L.getD j true = false→(∀ e ∈ oj.after,Region.binds md e = true→e.on ≠ i)→oi.apart ops oj = true) →
  i ∈ Region.ready md ops L→YldI P ops S oi v a→S w→L.getD s true = false→wpAnyJ F n P md ops Q S f (L.setIfInBounds i true) (a.put oi.dst v) w→wpAnyJ F n P md ops Q S (f + 1) L a w:=by
 have nosel:=Region.noSelect_spec hsel
 induction f with
 | zero =>
  intro L a w _ hr hy hS hs H
  refine ⟨fun h=>absurd hr (by rw [h];exact List.not_mem_nil),fun j hj=>?_⟩
  rcases Decidable.em (j = i) with e | e
  ·subst e;exact hy.wpOpIn (hro _ _ hi) hi hS ⟨hS,H⟩
  ·exact absurd (ready_mono hj e) (by rw [H.1];exact List.not_mem_nil)
 | succ f ih =>
  intro L a w hfree hr hy hS hs H
  refine ⟨fun h=>absurd hr (by rw [h];exact List.not_mem_nil),fun j hj=>?_⟩
  rcases Decidable.em (j = i) with e | e
  ·subst e;exact hy.wpOpIn (hro _ _ hi) hi hS ⟨hS,H⟩
  ·have hun:L.getD i true = false:=(mem_ready.1 hr).1
   have hjs:j ≠ s:=fun h=>hwait L hun (h ▸ hj)
   obtain ⟨hjun,oj,hoj,hall⟩:=mem_ready.1 hj
   have hno:∀ x ∈ oj.after,Region.binds md x = true→x.on ≠ i:=by
    intro x hx hb hxi
    have h1:=hall x hx hb
    rw [hxi] at h1
    have h2:i < L.size:=Nat.lt_of_not_le fun hle=>by simp [Array.getElem?_eq_none hle] at h1
    simp [h2] at hun h1
    rw [hun] at h1;cases h1
   have step:=swapI (hro _ _ hoj) hoj (hfree j oj hoj e hjun hno) (fun cs b=>nosel i oi cs b hi) (fun cs b=>nosel j oj cs b hoj) hQ hy (H.2 j (ready_mono hj e))
   refine wpOpIn_mono (fun a' w' k=>?_) step
   have hs':(L.setIfInBounds j true).getD s true = false:=by rw [getD_set_ne true hjs];exact hs
   have hS':S w':=k.2.1
   refine ⟨hS',ih (L.setIfInBounds j true) a' w' ?_ (ready_mono hr (Ne.symm e)) k.1 hS' hs' (by rw [Array.setIfInBounds_comm _ _ e];exact k.2.2)⟩
   intro x ox hx hxi hux hxn
   refine hfree x ox hx hxi ?_ hxn
   rcases Decidable.em (j = x) with e2 | e2
   ·subst e2;exact hjun
   ·rw [getD_set_ne true e2] at hux;exact hux
theorem wpAnyJ.take (i s:Nat) {f:Nat} {L:Array Bool} {a:Act} {w:World} {v:Value} (hpl:ops.toList.all iI = true) (hlt:i < ops.size) (hQ:∀ c a w,¬ Q (.panic c) a w) (hc:qJ md ops L i s = true) (hnc:(match ops[i].op with | .call _=>false | _=>true) = true) (hwd:Region.wanted ops[i] (yielded ops a.tmps) = true) (hy:∀ w,S w→(execOp a.eval ops[i]).run P w = .ok (.value v) w) (hS:S w)
 (h:wpAnyJ F n P md ops Q S f (L.setIfInBounds i true) (a.put ops[i].dst v) w):wpAnyJ F n P md ops Q S (f + 1) L a w:=by
 obtain ⟨h1,_,hwait,h4,h5,h6⟩:=jO hc
 have hi:ops[i]? = some ops[i]:=Array.getElem?_eq_getElem hlt
 have hro:∀ (j:Nat) o,ops[j]? = some o→iI o = true:=fun j o ho=>List.all_eq_true.1 hpl o (Array.mem_toList_iff.2 (Array.mem_of_getElem? ho))
 refine wpAnyJ.load hro hi h1 hQ ?_ f L a w (Region.free_spec hi h4) (by simpa using h5) ⟨hwd,hy,fun c e=>by rw [e] at hnc;cases hnc⟩ hS h6 h
 intro L' hL' hm
 obtain ⟨_,o,ho,hall⟩:=mem_ready.1 hm
 rw [ho] at hwait
 obtain ⟨x,hx',hb⟩:=List.any_eq_true.1 hwait
 have hx:=Array.mem_toList_iff.1 hx'
 simp only [Bool.and_eq_true,beq_iff_eq] at hb
 have h1:=hall x hx hb.1
 rw [hb.2] at h1
 have h2:i < L'.size:=Nat.lt_of_not_le fun hle=>by simp [Array.getElem?_eq_none hle] at h1
 simp [h2] at hL' h1
 rw [hL'] at h1;cases h1
theorem wpAnyJ.one (i:Nat) {f:Nat} {L:Array Bool} {a:Act} {w:World} (hr:Region.ready md ops L = [i]) (hlt:i < ops.size) (hwd:Region.wanted ops[i] (yielded ops a.tmps) = true)
 (h:∀ K:Act→World→Prop,(∀ a' w',S w'→wpAnyJ F n P md ops Q S f (L.setIfInBounds i true) a' w'→K a' w')→ops[i].wpIn F n P a w K Q):wpAnyJ F n P md ops Q S (f + 1) L a w:=by
 refine ⟨fun h0=>(by rw [hr] at h0;cases h0),fun j hj=>?_⟩
 rw [hr] at hj
 obtain rfl:j = i:=by simpa using hj
 unfold wpOpIn
 rw [Array.getElem?_eq_getElem hlt]
 simp only [hwd,if_true]
 exact h _ fun a' w' h1 h2=>⟨h1,h2⟩
theorem wpAnyJ.done {f:Nat} {L:Array Bool} {a:Act} {w:World} (hr:Region.ready md ops L = []) (h:Q .normal a w):wpAnyJ F n P md ops Q S f L a w:=by
 cases f with
 | zero=>exact ⟨hr,h⟩
 | succ f=>exact ⟨fun _=>h,fun i hi=>absurd hi (by rw [hr];exact List.not_mem_nil)⟩
end
end Go.Proofs.YtnokmjmefipplaaGreatDoor

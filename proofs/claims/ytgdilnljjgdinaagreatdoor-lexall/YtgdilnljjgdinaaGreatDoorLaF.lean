import Derived.Test.YtgdilnljjgdinaaGreatDoorLyAAll
import Derived.Test.YtgdilnljjgdinaaGreatDoorOpenPAll
namespace Go.Proofs.YtgdilnljjgdinaaGreatDoor
open Go.RowKit Go.Shelf
attribute [local go_sem] Oper.semAt_some
def TkB (W:World) (a b:Nat) (v:List Value) (t:Tok):Prop:=∃ (f:Bool) (a1:Option Addr) (n1 k1:Nat) (a2:Option Addr) (n2 k2:Nat),v=(tkC (t.k:Nat) t.x (.bool f) (.slice a1 n1 k1) (.slice a2 n2 k2) (t.wd:Nat) t.l t.c).toList∧NumM W a t.k f a1 n1 k1 a2 n2 k2 t.q∧∀ g,(Value.ownBlock (.slice a1 n1 k1)=some g∨Value.ownBlock (.slice a2 n2 k2)=some g)→a≤g∧g<b
theorem TkB.ku {W W':World} {a b:Nat} {v:List Value} {t:Tok} (h:TkB W a b v t) (u:Ku W W'):TkB W' a b v t:=by
 obtain ⟨f,a1,n1,k1,a2,n2,k2,h1,h2,h3⟩:=h
 exact ⟨f,a1,n1,k1,a2,n2,k2,h1,h2.ku u,h3⟩
theorem NumM.lts {W:World} {a k:Nat} {f:Bool} {a1:Option Addr} {n1 k1:Nat} {a2:Option Addr} {n2 k2:Nat} {q:Rat} (h:NumM W a k f a1 n1 k1 a2 n2 k2 q):∀ g,(Value.ownBlock (.slice a1 n1 k1)=some g∨Value.ownBlock (.slice a2 n2 k2)=some g)→a≤g∧g<W.heap.size:=by
 rintro g hg
 rcases h with ⟨_,h⟩|⟨_,_,_,rfl,rfl,rfl,rfl,rfl,rfl⟩
 ·rcases hg with hg|hg
  ·exact h.1.parts.2.lt g hg
  ·exact h.2.lt g hg
 ·simp [Value.ownBlock] at hg
def TkS (W:World) (nb b n:Nat) (E:Nat→List Value) (ts:List Tok):Prop:=∃ lo hi:Nat→Nat,(∀ (i:Nat) t,i<n→ts[i]? = some t→nb≤lo i∧hi i≤b∧TkB W (lo i) (hi i) (E i) t)∧∀ i j,i<j→j<n→hi i≤lo j
theorem TkS.ku {W W':World} {nb b n:Nat} {E:Nat→List Value} {ts:List Tok} (h:TkS W nb b n E ts) (u:Ku W W'):TkS W' nb b n E ts:=by
 obtain ⟨lo,hi,h1,h2⟩:=h
 exact ⟨lo,hi,fun i t hi e=>⟨(h1 i t hi e).1,(h1 i t hi e).2.1,(h1 i t hi e).2.2.ku u⟩,h2⟩
theorem TkS.snoc {W:World} {nb b b2 n:Nat} {E:Nat→List Value} {ts:List Tok} {x:List Value} {t:Tok} (h:TkS W nb b n E ts) (hb:nb≤b) (hb2:b≤b2) (ht:ts[n]? = some t) (hx:TkB W b b2 x t):TkS W nb b2 (n+1) (fun i=>if i<n then E i else x) ts:=by
 obtain ⟨lo,hi,h1,h2⟩:=h
 have hlast:∀ i,i<n→hi i≤b:=fun i hi'=>by
  obtain ⟨t',e⟩:∃ t',ts[i]? = some t':=⟨_,List.getElem?_eq_getElem (by have:=(List.getElem?_eq_some_iff.1 ht).1;omega)⟩
  exact (h1 i t' hi' e).2.1
 refine ⟨fun i=>if i<n then lo i else b,fun i=>if i<n then hi i else b2,fun i t' hi' e=>?_,fun i j hij hj=>?_⟩
 ·by_cases hin:i<n
  ·simp only [if_pos hin]
   exact ⟨(h1 i t' hin e).1,Nat.le_trans (h1 i t' hin e).2.1 hb2,(h1 i t' hin e).2.2⟩
  ·obtain rfl:i=n:=by omega
   simp only [if_neg hin]
   obtain rfl:t=t':=Option.some.inj (ht.symm.trans e)
   exact ⟨hb,Nat.le_refl _,hx⟩
 ·have hin:i<n:=by omega
  simp only [if_pos hin]
  by_cases hjn:j<n
  ·simp only [if_pos hjn]
   exact h2 i j hij hjn
  ·simp only [if_neg hjn]
   exact hlast i hin
def SnI (nb h:Nat) (n:Int) (M:Nat) (ts:List Tok) (s:List (Array Value) × Nat) (W:World):Prop :=
 ∃ v E,Boxed W nb 3 (.int .i64 n)∧Boxed W h 24 v∧SL W nb 46 8 v s.1.length E∧(∀ k,v.ownBlock=some k→k<s.2∧nb≤k)∧s.1.length≤M∧nb≤s.2∧TkS W nb s.2 s.1.length E ts
theorem SL.turns {D:Nat} {W W':World} {B:Nat} {v:Value} {n:Nat} {E:Nat→List Value} (h:SL W B 46 8 v n E) (ht:Turns isMineT D W W'):SL W' B 46 8 v n E:=by
 obtain ⟨vs,h1,h2⟩:=h
 refine ⟨vs,⟨h1.1,?_⟩,h2⟩
 rcases h1.2 with hn|⟨g,cap,cur,e1,e2,hgb,rest⟩
 ·exact .inl hn
 ·exact .inr ⟨g,cap,cur,e1,e2,ht.block g _ hgb (.inr (by simp [isMineT,isPl,Obj.isCells])),rest⟩
theorem SnI.own {nb h D:Nat} {n:Int} {M:Nat} {ts:List Tok} (hn:nb<D) (hh:h<D):OwnT D (SnI nb h n M ts):=by
 rintro s X Y ⟨v,E,hb,hv,hr,h1,h2,h3,h4⟩ ht
 exact ⟨v,E,ht.block nb _ hb (.inl hn),ht.block h _ hv (.inl hh),hr.turns ht,h1,h2,h3,h4.ku (Ku.of_turns ht (fun c=>by simp [isMineT,isPl,Obj.isCells]))⟩
theorem sn_app {W w1:World} {nb h t6 b n:Nat} {v v' u:Value} {vs us:List Value} {ds:Array Value} {o:Obj} (hn:Boxed W nb 3 u) (hv:Boxed W h 24 v) (hrow:W.ownsRow nb 46 8 v n vs) (hvb:∀ k,v.ownBlock=some k→k<b∧nb≤k) (hT6:Rw 46 W t6 ds) (hbt:b≤t6)
  (hown':w1.ownsRow nb 46 8 v' (n+1) us) (hgrow:(W.alloc o).grownBy w1 v.ownBlock) :
  ∃ g' cap',v' = .slice (some ⟨g',0,none⟩) (n+1) cap'∧Boxed w1 nb 3 u∧Boxed w1 h 24 v∧Rw 46 w1 t6 ds:=by
 obtain ⟨g',cap',rfl⟩:=ownsRow_succ hown'
 have e0:=hn.lt
 have e1:=hv.lt
 have e3:=hT6.lt
 refine ⟨g',cap',rfl,?_,?_,?_⟩
 ·exact (hgrow.block nb (by rw [World.size_alloc];omega) ((hn.alloc o).not_row (by decide) (hrow.alloc o))).trans (hn.alloc o)
 ·exact (hgrow.block h (by rw [World.size_alloc];omega) ((hv.alloc o).not_row (by decide) (hrow.alloc o))).trans (hv.alloc o)
 ·exact (hgrow.block t6 (by rw [World.size_alloc];omega) (fun e=>by have:=(hvb t6 e.symm).1;omega)).trans (hT6.alloc o)
theorem sn_step {w W w1:World} {nb h b D:Nat} {n:Int} {M:Nat} {pre:List (Array Value)} {v:Value} {vs:List Value} {E:Nat→List Value} {g' cap':Nat} {x:Array Value} {o:Obj} {ts:List Tok} {tk:Tok} {A:Act} {Ix:Code→List (Array Value)→World→Prop}
  (hcov:∀ i,i<pre.length→∀ j u,(E i)[j]? = some u→j<8∧vs[i*8+j]? = some u) (hx8:x.toList.length=8) (hrow:W.ownsRow nb 46 8 v pre.length vs) (hvb:∀ k,v.ownBlock=some k→k<b∧nb≤k)
  (hown':w1.ownsRow nb 46 8 (.slice (some ⟨g',0,none⟩) (pre.length+1) cap') (pre.length+1) (vs++x.toList)) (hgrow:(W.alloc o).grownBy w1 v.ownBlock) (hn1:Boxed w1 nb 3 (.int .i64 n)) (hv1:Boxed w1 h 24 v)
  (hbel:Below w.heap.size w W) (hwh:w.heap.size≤nb) (hnh:nb<h) (hpD:h<D) (hDb:D+2≤b) (hbW:b≤W.heap.size) (hpM:pre.length+1≤M)
  (hS:TkS W nb b pre.length E ts) (ht:ts[pre.length]? = some tk) (hx:TkB W b W.heap.size x.toList tk) :
  LeftT D (D+2) b w.heap.size w (SnI nb h n M ts) Ix (pre++[x]) W .normal A (w1.setCell ⟨h,0,none⟩ (.slice (some ⟨g',0,none⟩) (pre.length+1) cap')):=by
 have O1:Off h w1 (w1.setCell ⟨h,0,none⟩ (.slice (some ⟨g',0,none⟩) (pre.length+1) cap')):=(Off.refl _ _).set 0 _
 have hn2:some h≠(Value.slice (some ⟨g',0,none⟩) (pre.length+1) cap').ownBlock:=hv1.not_row (by decide) hown'
 have hv2:=hv1.set (.slice (some ⟨g',0,none⟩) (pre.length+1) cap')
 have hN2:Boxed (w1.setCell ⟨h,0,none⟩ (.slice (some ⟨g',0,none⟩) (pre.length+1) cap')) nb 3 (.int .i64 n):=(O1.block nb (by omega)).trans hn1
 have hown2:=own_kept hown' (W':=w1.setCell ⟨h,0,none⟩ (.slice (some ⟨g',0,none⟩) (pre.length+1) cap')) (fun g hg=>O1.block g (fun e=>hn2 (by rw [← e];exact hg.symm)))
 have hs1:=O1.size
 have hsg:=hgrow.size
 rw [World.size_alloc] at hsg
 have cellsG:∀ (j:Nat) (ob:Obj),v.ownBlock=some j→(W.alloc o).heap[j]? = some ob→isPl ob=false∧ob.isCells=true:=fun j ob hj hob=>by
  rcases (hrow.alloc o).2 with ⟨rfl,_⟩|⟨g,cap,cur,rfl,_,hgb,_⟩
  ·simp [Value.ownBlock] at hj
  ·obtain rfl:g=j:=by simpa [Value.ownBlock] using hj
   rw [hgb] at hob;cases hob;exact ⟨by simp [isPl],rfl⟩
 have kG:KeptT (D+2) b (W.alloc o) w1:=⟨hgrow.size,fun k ob hk hob=>(hgrow.block k (Array.getElem?_eq_some_iff.1 hob).1 (fun e=>by
  rcases hk with hk|hk
  ·have:=(hvb k e.symm).1;omega
  ·rw [(cellsG k ob e.symm hob).1] at hk;cases hk.2)).trans hob⟩
 have fG:KeepsFrom D (W.alloc o) w1:=⟨hgrow.size,fun k ob _ hob hc=>(hgrow.block k (Array.getElem?_eq_some_iff.1 hob).1 (fun e=>by rw [(cellsG k ob e.symm hob).2] at hc;cases hc)).trans hob⟩
 have fB:∀ {X Y:World},Below X.heap.size X Y→KeepsFrom D X Y:=fun hb=>⟨hb.size,fun k _ _ hk _=>(hb.block k (Array.getElem?_eq_some_iff.1 hk).1).trans hk⟩
 have hku:Ku W (w1.setCell ⟨h,0,none⟩ (.slice (some ⟨g',0,none⟩) (pre.length+1) cap')) :=
  ((Ku.of_below (bel_d0 W o)).trans (Ku.of_grown (hrow.alloc o) (by decide) hgrow)).trans (Ku.of_off O1 (fun c k=>by have:=(show w1.heap[h]? = _ from hv1).symm.trans k;simp at this))
 refine ⟨?_,?_,?_,?_⟩
 ·exact ((fB (bel_d0 W o)).trans fG).trans ((KeepsOthers.setCell _ _ _).from D)
 ·exact ((KeptT.of_below (bel_d0 W o)).trans kG).trans (KeptT.of_off O1 (.inl (by omega)) (by omega))
 ·have q1:Below w.heap.size w w1:=(hbel.alloc hbel.size o).grown hgrow (by rw [World.size_alloc];have:=hbel.size;omega) (fun k hk=>by have:=(hvb k hk).2;omega)
  exact q1.trans (O1.below (B:=w.heap.size) (by omega))
 ·have hSn:=(hS.snoc (b2:=(w1.setCell ⟨h,0,none⟩ (.slice (some ⟨g',0,none⟩) (pre.length+1) cap')).heap.size) (by omega) (by omega) ht (by obtain ⟨f,a1,n1,k1,a2,n2,k2,e1,e2,e3⟩:=hx;exact ⟨f,a1,n1,k1,a2,n2,k2,e1,e2,fun g hg=>⟨(e3 g hg).1,by have:=(e3 g hg).2;omega⟩⟩)).ku hku
  have hl:(pre++[x]).length=pre.length+1:=by simp
  refine ⟨_,fun i=>if i<pre.length then E i else x.toList,hN2,hv2,?_,fun k hk=>?_,by rw [hl];exact hpM,by show nb≤_;omega,?_⟩
  ·rw [hl]
   exact ⟨_,hown2,sl_app hrow.1 hx8 hcov⟩
  ·have h1:=World.ownsRow.lt hown' k hk
   exact ⟨by show k<_;omega,h1.1⟩
  ·rw [hl]
   exact hSn
def IxN (n:Int) (M:Nat) (ts:List Tok) (w:World) (c:Code) (xs:List (Array Value)) (W:World):Prop:=c=Code.exit 0∧∃ pre x b,xs=pre++[x]∧SnI w.heap.size (w.heap.size+1) n M ts (pre,b) W∧pre.length=M∧Below w.heap.size w W
theorem TkS.tight {W:World} {nb b n:Nat} {E:Nat→List Value} {ts:List Tok} (h:TkS W nb b n E ts):TkS W nb W.heap.size n E ts:=by
 obtain ⟨lo,hi,h1,h2⟩:=h
 refine ⟨lo,fun i=>min (hi i) W.heap.size,fun i t hi' e=>?_,fun i j hij hj=>Nat.le_trans (Nat.min_le_left _ _) (h2 i j hij hj)⟩
 obtain ⟨k1,k2,f,a1,n1,q1,a2,n2,q2,e1,e2,e3⟩:=h1 i t hi' e
 exact ⟨k1,Nat.min_le_right _ _,f,a1,n1,q1,a2,n2,q2,e1,e2,fun g hg=>⟨(e3 g hg).1,Nat.lt_min.2 ⟨(e3 g hg).2,(e2.lts g hg).2⟩⟩⟩
def OutP (W:World) (B:Nat) (v:Value) (ts:List Tok):Prop:=∃ E:Nat→List Value,SL W B 46 8 v ts.length E∧TkS W B W.heap.size ts.length E ts
theorem SL.put {W:World} {B:Nat} {T:TypeId} {c:Nat} {v:Value} {n:Nat} {E:Nat→List Value} (h:SL W B T c v n E) {D:Nat} {o:Obj} (o':Obj) (hK:W.heap[D]? = some o) (ho:o.isCells=false):SL (W.putObj D o') B T c v n E:=by
 obtain ⟨vs,h1,h2⟩:=h
 refine ⟨vs,⟨h1.1,?_⟩,h2⟩
 rcases h1.2 with hn|⟨g,cap,cur,e1,e2,hgb,rest⟩
 ·exact .inl hn
 ·have hgD:g≠D:=fun e=>by subst e;rw [hK] at hgb;cases hgb;cases ho
  exact .inr ⟨g,cap,cur,e1,e2,(World.putObj_heap_other hgD).trans hgb,rest⟩
theorem out_of {W:World} {nb b M:Nat} {v:Value} {E:Nat→List Value} {ts:List Tok} (hM:M≤ts.length) (h:SL W nb 46 8 v M E) (hS:TkS W nb b M E ts) {D:Nat} {o:Obj} (o':Obj) (hK:W.heap[D]? = some o) (ho:o.isCells=false):OutP (W.putObj D o') nb v (ts.take M):=by
 have hl:(ts.take M).length=M:=by rw [List.length_take];omega
 refine ⟨E,by rw [hl];exact h.put o' hK ho,?_⟩
 rw [hl]
 obtain ⟨lo,hi,h1,h2⟩:=(hS.ku (Ku.put o' hK ho)).tight
 exact ⟨lo,hi,fun i t hi' e=>h1 i t hi' (by rw [List.getElem?_take,if_pos hi'] at e;exact e),h2⟩
set_option maxRecDepth 100000 in
set_option maxHeartbeats 400000 in
theorem someN (s r0 R':ByteArray) (g0:Nat) (l0 c0 L' C':Int) (ts:List Tok) (w:World) {n:Int} {M:Nat} (hnM:(n=(M:Int)∧M≤ts.length)∨(n = -1∧M=ts.length)) (hs:s.size≤100000000)
  (b1:gpN s.data.toList=g0) (b2:s.extract g0 s.size=r0) (b3:ovL (s.extract 0 g0) 1=l0) (b4:ovC (s.extract 0 g0) 1=c0) (hC:Chn r0 l0 c0 ts R' L' C') (htl:ts.length≤100000000) (hend:R'.size=0∨(0<R'.size∧∃ g ev,ReadNo R' g∧Errs w g ev)) (hT:Tabs w) :
  Calls Tryz.prog 8 #[.string s,.int .i64 n] w fun e w'=>(∃ v,e = .returned v∧OutP w' w.heap.size v (ts.take M))∧Below w.heap.size w w':=by
 have hML:M≤ts.length:=by omega
 have HNM:Hid ((n=(M:Int)∧M≤ts.length)∨(n = -1∧M=ts.length)):=hnM
 clear hnM
 refine (callsIn_wide (n:=3)).1 ?_
 obtain ⟨i0,z0,hi,hz0,hz1,hz2,hz3⟩:=infoTk8
 have hseq:=all_seq s r0 R' g0 l0 c0 L' C' ts w (w.heap.size+2) hs b1 b2 b3 b4 hC hend hT
 clear b1 b2 b3 b4 hC hT hend
 refine callsIn_of_wp_marks Tryz.func8 rfl trivial ?_ rfl
 simp only [Tryz.ntmps8,List.size_toArray,List.length_cons,List.length_nil,Nat.reduceAdd,Nat.reduceSub,Array.replicate_succ,Array.replicate_zero,List.push_toArray,List.append_toArray,List.nil_append,List.cons_append]
 gi_wp2
 refine ⟨trivial,?_⟩
 refine (all_in s _ _).mono ?_
 rintro e w' ⟨rfl,rfl⟩
 simp only [World.size_alloc,Nat.add_assoc,Nat.reduceAdd]
 gi_wp2
 have hbox:∀ W,Below (((w.alloc (.cells #[.int .i64 n] 3)).alloc (.cells #[.slice none 0 0] 24)).alloc (.cells #[.string s] 9)).heap.size (((w.alloc (.cells #[.int .i64 n] 3)).alloc (.cells #[.slice none 0 0] 24)).alloc (.cells #[.string s] 9)) W→W.cell? ⟨w.heap.size+2,0,none⟩=some (.string s):=fun W hW=>by
  have h:=Rw.new 9 ((w.alloc (.cells #[.int .i64 n] 3)).alloc (.cells #[.slice none 0 0] 24)) #[.string s]
  simp only [World.size_alloc,Nat.add_assoc,Nat.reduceAdd] at h
  exact (h.below hW).cell 0
 have N2:Boxed (((w.alloc (.cells #[.int .i64 n] 3)).alloc (.cells #[.slice none 0 0] 24)).alloc (.cells #[.string s] 9)) w.heap.size 3 (.int .i64 n):=((Boxed.new w 3 (.int .i64 n)).alloc _).alloc _
 have B2:Boxed (((w.alloc (.cells #[.int .i64 n] 3)).alloc (.cells #[.slice none 0 0] 24)).alloc (.cells #[.string s] 9)) (w.heap.size+1) 24 (.slice none 0 0):=by
  have h:=(Boxed.new (w.alloc (.cells #[.int .i64 n] 3)) 24 (.slice none 0 0)).alloc (.cells #[.string s] 9)
  rwa [World.size_alloc] at h
 have hb2:Below w.heap.size w (((w.alloc (.cells #[.int .i64 n] 3)).alloc (.cells #[.slice none 0 0] 24)).alloc (.cells #[.string s] 9)):=(((Below.refl _ _).alloc (Nat.le_refl _) _).alloc (by simp) _).alloc (by simp;omega) _
 have hs2:(((w.alloc (.cells #[.int .i64 n] 3)).alloc (.cells #[.slice none 0 0] 24)).alloc (.cells #[.string s] 9)).heap.size=w.heap.size+3:=by simp
 generalize ((w.alloc (.cells #[.int .i64 n] 3)).alloc (.cells #[.slice none 0 0] 24)).alloc (.cells #[.string s] 9)=W2 at *
 refine range_outT (gf:=18) (lb:=#[.pointer (some ⟨w.heap.size+2,0,none⟩)]) rfl rfl rfl trivial (enters_of Tryz.func18 (by kernel_rfl) rfl) hseq (fun pre b x B W W' t ⟨tk,h1,h2⟩=>⟨tk,h1,h2.ku (Ku.of_turns t (fun c=>by simp [isMineT,isPl,Obj.isCells]))⟩) hb2 hbox rfl
  (SnI w.heap.size (w.heap.size+1) n M ts) (IxN n M ts w) ?own ?ownx ?start hb2.size
  (fun x t6=>{ tmps:=#[.string s,.int .i64 n,undef,.pointer (some ⟨w.heap.size,0,none⟩),.slice none 0 0,.pointer (some ⟨w.heap.size+1,0,none⟩),.pointer (some ⟨t6,0,none⟩),.string s,.func (.func 18) #[] #[.pointer (some ⟨w.heap.size+2,0,none⟩)],.agg x,undef,undef,undef,undef,undef,undef,undef,undef,undef],defers:=[] }) ?assign ?body ?done ?stop
 case own=>exact SnI.own (by omega) (by omega)
 case ownx =>
  rintro c xs X Y ⟨h1,pre,x,b,h2,h3,h4,h5⟩ ht
  exact ⟨h1,pre,x,b,h2,SnI.own (by omega) (by omega) _ _ _ h3 ht,h4,h5.trans (ht.below (by omega) h5.size)⟩
 case start=>exact ⟨.slice none 0 0,fun _=>[],N2,B2,SL.nil _ _ _ _ _,fun k hk=>by simp [Value.ownBlock] at hk,Nat.zero_le _,by show _≤_;omega,fun _=>0,fun _=>0,fun i t hi=>by simp at hi,fun i j _ hj=>by simp at hj⟩
 case assign =>
  rintro l m x W K ⟨pre,_,_,t,-,f,a1,n1,k1,a2,n2,k2,rfl,-⟩ hK
  unfold tkC at hK ⊢
  gi_wp2
  exact hK
 case body =>
  rintro l m pre b x t6 W _ hlw hT6 hbt ⟨v,E,hn,hv,⟨vs,hrow,hcov⟩,hvb,hpM,hnb,hS⟩ hb2' hbW hbel ⟨t,hat,f,a1,n1,k1,a2,n2,k2,rfl,hnm⟩
  simp only at hrow hcov hvb hpM hnb hS
  have hpt:pre.length<ts.length:=(List.getElem?_eq_some_iff.1 hat).1
  have hpl:pre.length≤100000000:=by omega
  have HX:Hid (TkB W b W.heap.size (tkC (t.k:Nat) t.x (.bool f) (.slice a1 n1 k1) (.slice a2 n2 k2) (t.wd:Nat) t.l t.c).toList t):=⟨f,a1,n1,k1,a2,n2,k2,rfl,hnm,hnm.lts⟩
  have HAT:Hid (ts[pre.length]? = some t):=hat
  have HS0:Hid (TkS W w.heap.size b pre.length E ts):=hS
  clear hnm hat hS hseq hbox
  obtain ⟨k,x,wd,lc,cc,q⟩:=t
  simp only at hT6 HX ⊢
  unfold tkC at hT6 HX ⊢
  have hcn:=hn.cell
  have hcv:=hv.cell
  have y0:W.cell? ⟨t6,0,none⟩=some (.int .i64 (k:Nat)):=hT6.cell 0
  have y1:W.cell? ⟨t6,1,none⟩=some (.string x):=hT6.cell 1
  have y2:W.cell? ⟨t6,2,none⟩=some (.bool f):=hT6.cell 2
  have y3:W.cell? ⟨t6,3,none⟩=some (.slice a1 n1 k1):=hT6.cell 3
  have y4:W.cell? ⟨t6,4,none⟩=some (.slice a2 n2 k2):=hT6.cell 4
  have y5:W.cell? ⟨t6,5,none⟩=some (.int .i64 (wd:Nat)):=hT6.cell 5
  have y6:W.cell? ⟨t6,6,none⟩=some (.int .i64 lc):=hT6.cell 6
  have y7:W.cell? ⟨t6,7,none⟩=some (.int .i64 cc):=hT6.cell 7
  have hNC:∀ (j:Nat) (u:Value),([.int .i64 (k:Nat),.string x,.bool f,.slice a1 n1 k1,.slice a2 n2 k2,.int .i64 (wd:Nat),.int .i64 lc,.int .i64 cc]:List Value)[j]? = some u→(W.alloc (.cells #[.int .i64 (k:Nat),.string x,.bool f,.slice a1 n1 k1,.slice a2 n2 k2,.int .i64 (wd:Nat),.int .i64 lc,.int .i64 cc] 46)).cell? ((⟨W.heap.size,0,none⟩:Addr).add j)=some u:=fun j u hj=>by
   have h:=(Rw.new 46 W #[.int .i64 (k:Nat),.string x,.bool f,.slice a1 n1 k1,.slice a2 n2 k2,.int .i64 (wd:Nat),.int .i64 lc,.int .i64 cc]).cell j
   rw [show (⟨W.heap.size,0,none⟩:Addr).add j=⟨W.heap.size,j,none⟩ from by unfold Addr.add;split <;> simp_all,h]
   simpa using hj
  have hN1:∀ u ∈ ([.int .i64 (k:Nat),.string x,.bool f,.slice a1 n1 k1,.slice a2 n2 k2,.int .i64 (wd:Nat),.int .i64 lc,.int .i64 cc]:List Value),u.oneCell'=true:=fun u hu=>by
   simp only [List.mem_cons,List.not_mem_nil,or_false] at hu
   rcases hu with rfl|rfl|rfl|rfl|rfl|rfl|rfl|rfl <;> rfl
  have ht6w:t6<W.heap.size:=hT6.lt
  have hvw:w.heap.size+1<W.heap.size:=hv.lt
  have hml:pre.length+1≤maxLen:=by
   have:(200000000:Nat)≤maxLen:=by decide
   omega
  have hby:(pre.length+1)*104≤140737488355328:=by omega
  have hrow2:=hrow.alloc (.cells #[.int .i64 (k:Nat),.string x,.bool f,.slice a1 n1 k1,.slice a2 n2 k2,.int .i64 (wd:Nat),.int .i64 lc,.int .i64 cc] 46)
  have hbs:w.heap.size≤(W.alloc (.cells #[.int .i64 (k:Nat),.string x,.bool f,.slice a1 n1 k1,.slice a2 n2 k2,.int .i64 (wd:Nat),.int .i64 lc,.int .i64 cc] 46)).heap.size:=by rw [World.size_alloc];omega
  have hlen:∃ a c,v = .slice a pre.length c:=by
   rcases hrow.2 with ⟨rfl,e⟩|⟨g,cap,cur,rfl,_⟩
   ·exact ⟨none,0,by rw [e]⟩
   ·exact ⟨_,_,rfl⟩
  obtain ⟨av,cv,rfl⟩:=hlen
  by_cases hpn:(pre.length:Int)=n
  ·have hpB:((pre.length:Int) == n)=true:=by simpa using hpn
   have hML2:pre.length=M:=by rcases HNM.out with h|h <;> omega
   have HF:Hid (SnI w.heap.size (w.heap.size+1) n M ts (pre,b) W):=⟨_,E,hn,hv,⟨vs,hrow,hcov⟩,hvb,hpM,hnb,HS0.out⟩
   have HB:Hid (Below w.heap.size w W):=hbel
   clear hrow hrow2 hcov hn hv hNC hN1 hbel HS0 HX
   gi_wp2
   exact ⟨⟨Nat.le_refl _,fun _ _ _ h _=>h⟩,rfl,pre,_,b,rfl,HF.out,hML2,HB.out⟩
  ·have hpB:((pre.length:Int) == n)=false:=by simpa using hpn
   have hM2:pre.length+1≤M:=by rcases HNM.out with h|h <;> omega
   gi_wp2_with (gi_at_builtin;refine wpListIn_append_own _ rfl _ _ 24 rfl w.heap.size 46 i0 z0 8 104 Tryz.underlying24 hi hz0 hz1 hz2 hz3 (by decide) (.slice av pre.length cv) pre.length vs rfl hrow2 ⟨W.heap.size,0,none⟩ 1 1 [.int .i64 (k:Nat),.string x,.bool f,.slice a1 n1 k1,.slice a2 n2 k2,.int .i64 (wd:Nat),.int .i64 lc,.int .i64 cc] rfl rfl hNC hN1 hml hby hbs ?_;intro v' w1 hown' hgrow hnn;obtain ⟨g',cap',rfl,hn1,hv1,hT1'⟩:=sn_app hn hv hrow hvb hT6 hbt hown' hgrow;have hc1:=hv1.cell;have hf1:=hv1.frozen;have HS:=(show Hid (∀ A,LeftT (w.heap.size+3) (w.heap.size+3+2) b w.heap.size w (SnI w.heap.size (w.heap.size+1) n M ts) (IxN n M ts w) (pre++[_]) W .normal A (w1.setCell ⟨w.heap.size+1,0,none⟩ (.slice (some ⟨g',0,none⟩) (pre.length+1) cap'))) from fun A=>sn_step hcov rfl hrow hvb hown' hgrow hn1 hv1 hbel (Nat.le_refl _) (by omega) (by omega) (by omega) hbW hM2 HS0.out HAT.out HX.out);clear hgrow hown' hv1 hn1 hT1')
   exact HS.out _
 case done =>
  rintro D ys W hD hlen ⟨b,v,E,hn,hv,hSL,hvb,hpM,hnb,hS⟩ hbel hK
  simp only at hlen hSL hpM hS
  have hM2:M=ys.length:=by omega
  have hc:=hv.cell
  have hfin:Hid (OutP (W.putObj D (.deferred none)) w.heap.size v (ts.take M)∧Below w.heap.size w (W.putObj D (.deferred none))):=by
   subst hM2
   exact ⟨out_of hML hSL hS _ hK rfl,hbel.trans (belowK_b (w:=w) (Nat.le_refl _) W D _ _ (by have:=hb2.size;omega) hK rfl rfl)⟩
  clear hSL hvb hbel hlen hv hn hseq hbox hS hM2
  gi_wp2
  refine ⟨by simp,.inl ⟨_,_,rfl,run_takeDeferred hK,?_⟩⟩
  exact ⟨_,results_tmp rfl _ _ _,⟨v,rfl,hfin.out.1⟩,hfin.out.2⟩
 case stop =>
  rintro D c xs W hD _ ⟨rfl,pre,x,b,rfl,⟨v,E,hn,hv,hSL,hvb,hpM,hnb,hS⟩,hlen,hbel⟩ hK
  simp only at hSL hpM hS
  have hc:=hv.cell
  have hfin:Hid (OutP (W.putObj D (.deferred none)) w.heap.size v (ts.take M)∧Below w.heap.size w (W.putObj D (.deferred none))):=by
   subst hlen
   exact ⟨out_of hML hSL hS _ hK rfl,hbel.trans (belowK_b (w:=w) (Nat.le_refl _) W D _ _ (by have:=hb2.size;omega) hK rfl rfl)⟩
  clear hSL hvb hbel hlen hv hn hseq hbox hS
  gi_wp2
  refine ⟨by simp,.inl ⟨_,_,rfl,run_takeDeferred hK,?_⟩⟩
  exact ⟨_,results_tmp rfl _ _ _,⟨v,rfl,hfin.out.1⟩,hfin.out.2⟩
end Go.Proofs.YtgdilnljjgdinaaGreatDoor

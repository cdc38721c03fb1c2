import Derived.Test.YtjiodidemimgmaaGreatDoorOpenP
import Derived.Test.YtjiodidemimgmaaGreatDoorPqBAll
import Derived.Test.YtjiodidemimgmaaGreatDoorWhEAll
import Derived.Deep.RegionHeld3
namespace Go.Proofs.YtjiodidemimgmaaGreatDoor
open Go.RowKit
def BoxC (w:World) (R:Nat) (cs:List Value):Prop:=∀ i u,cs[i]? = some u→w.cell? ⟨R,i,none⟩ = some u
theorem box_new (w:World) (cs:Array Value) (t:TypeId):BoxC (w.alloc (.cells cs t)) w.heap.size cs.toList:=by
 intro i u hu
 have h:(w.alloc (.cells cs t)).heap[w.heap.size]? = some (.cells cs t):=heap_alloc_new _ _
 unfold World.cell?
 rw [h]
 simpa using hu
theorem BoxC.below {w w':World} {R:Nat} {cs:List Value} (h:BoxC w R cs) (hb:Below w.heap.size w w'):BoxC w' R cs:=fun i u hu=>kept_c hb (h i u hu)
theorem wpAnyG.two {P:Program} {ops:Array Oper} {Q:Exit→Act→World→Prop} {md:Region.Mode} {T:Array Bool→World→Prop} (i j:Nat) {f:Nat} {L:Array Bool} {a:Act} {w:World} (hr:Region.ready md ops L = [i,j]) (hi:i < ops.size) (hj:j < ops.size) (wi:Region.wanted ops[i] (yielded ops a.tmps) = true) (wj:Region.wanted ops[j] (yielded ops a.tmps) = true)
  (h1:∀ K:Act→World→Prop,(∀ a' w',T (L.setIfInBounds i true) w'→wpAnyG P md ops Q T f (L.setIfInBounds i true) a' w'→K a' w')→ops[i].wp P a w K Q)
  (h2:∀ K:Act→World→Prop,(∀ a' w',T (L.setIfInBounds j true) w'→wpAnyG P md ops Q T f (L.setIfInBounds j true) a' w'→K a' w')→ops[j].wp P a w K Q):wpAnyG P md ops Q T (f + 1) L a w:=by
 refine ⟨fun h0=>(by rw [hr] at h0;cases h0),fun k hk=>?_⟩
 rw [hr] at hk
 rcases (by simpa using hk:k = i∨k = j) with rfl | rfl
 ·unfold wpOp
  rw [Array.getElem?_eq_getElem hi]
  simp only [wi,if_true]
  exact .inl (h1 _ fun a' w' h1 h2=>⟨h1,h2⟩)
 ·unfold wpOp
  rw [Array.getElem?_eq_getElem hj]
  simp only [wj,if_true]
  exact .inl (h2 _ fun a' w' h1 h2=>⟨h1,h2⟩)
theorem wpAnyG.skip {P:Program} {ops:Array Oper} {Q:Exit→Act→World→Prop} {md:Region.Mode} {T:Array Bool→World→Prop} (i:Nat) {f:Nat} {L:Array Bool} {a:Act} {w:World} (hlt:i < ops.size) (hsel:Region.noSelect ops = true) (hQ:∀ c a w,Q (.panic c) (a.put ops[i].dst undef) w→Q (.panic c) a w) (s:Nat) (hsi:(s == i) = false) (hind:∀ L w,T (L.setIfInBounds i true) w↔T L w)
  (hwait:(match ops[s]? with | some o=>o.after.toList.any (fun e=>Region.binds md e && e.on == i) | none=>false) = true) (hf:Region.free md ops L i = true) (hr:(Region.ready md ops L).contains i = true)
  (hwd:Region.wanted ops[i] (yielded ops a.tmps) = false) (hT:T L w) (hs:L.getD s true = false)
  (h:wpAnyG P md ops Q T f (L.setIfInBounds i true) (a.put ops[i].dst undef) w):wpAnyG P md ops Q T (f + 1) L a w:=by
 have hi:ops[i]? = some ops[i]:=Array.getElem?_eq_getElem hlt
 refine wpAnyG.load (S:=fun _=>True) hi hsel hQ (by simpa using hsi) hind (fun _ _ _ _=>trivial) ?_ f L a w (Region.free_spec hi hf) (by simpa using hr) (.inr ⟨hwd,rfl⟩) hT hs h
 intro L' hL' hm
 obtain ⟨_,o,ho,hall⟩:=mem_ready.1 hm
 rw [ho] at hwait
 obtain ⟨x,hx',hb⟩:=List.any_eq_true.1 hwait
 have hx:=Array.mem_toList_iff.1 hx'
 simp only [Bool.and_eq_true,beq_iff_eq] at hb
 have h1:=hall x hx hb.1
 rw [hb.2] at h1
 have h2:i < L'.size:=Nat.lt_of_not_le fun hle=>by simp [Array.getElem?_eq_none hle] at h1
 simp [h2] at hL' h1
 rw [hL'] at h1;cases h1
def FnE (f:FuncId):Prop:=∀ args w,(callFunc f args).run Tryz.prog w = .ok (.enter f args) w
theorem wp_callV {o:Oper} {a:Act} {w:World} {K:Act→World→Prop} {Q:Exit→Act→World→Prop} (x:Operand) (xs:Array Operand) (ats:Array TypeId) (f:FuncId) (caps:Array Value) (ho:o.op = .call { callee:=.value x,args:=xs,argTypes:=ats }) (hx:a.eval x = .func (.func f) #[] caps) (hf:FnE f)
  {Post:Ending→World→Prop} (hC:Calls Tryz.prog f (xs.map a.eval ++ caps) w Post) (hP:∀ e w',Post e w'→∃ v,e = .returned v∧K (a.put o.dst v) w'):Oper.wp Tryz.prog o a w K Q:=by
 obtain ⟨dst,op,ty,pos,after,guard⟩:=o
 simp only at ho
 subst ho
 have e:execOp a.eval { dst,op:=.call { callee:=.value x,args:=xs,argTypes:=ats },type:=ty,pos,after,guard } = callFunc f (xs.map a.eval ++ caps):=by
  show (Deferred.ofValue (a.eval x) (xs.map a.eval) >>= _) = _
  rw [hx]
  show callFunc f ((#[] ++ xs.map a.eval) ++ caps) = _
  rw [Array.empty_append]
 unfold Oper.wp
 rw [e,hf]
 rw [Oper.upon_enter]
 exact hC.mono fun e w' h=>by obtain ⟨v,rfl,hk⟩:=hP e w' h;exact hk
theorem wpList_callV {o:Oper} {ops:Array Oper} {rest:List Oper} {a:Act} {w:World} {Q:Exit→Act→World→Prop} (hgd:o.guard = none) (x:Operand) (xs:Array Operand) (ats:Array TypeId) (f:FuncId) (caps:Array Value) (ho:o.op = .call { callee:=.value x,args:=xs,argTypes:=ats }) (hx:a.eval x = .func (.func f) #[] caps) (hf:FnE f)
  {Post:Ending→World→Prop} (hC:Calls Tryz.prog f (xs.map a.eval ++ caps) w Post) (hP:∀ e w',Post e w'→∃ v,e = .returned v∧wpList Tryz.prog ops Q rest (a.put o.dst v) w'):wpList Tryz.prog ops Q (o :: rest) a w :=
 wpList_plain hgd fun _ hK=>wp_callV x xs ats f caps ho hx hf hC fun e w' h=>by obtain ⟨v,rfl,hk⟩:=hP e w' h;exact ⟨v,rfl,hK _ _ hk⟩
theorem fe9:FnE 34:=fun _ _=>by kernel_rfl
theorem fe10:FnE 57:=fun _ _=>by kernel_rfl
def Inf (T:TypeId) (c y:Nat):Prop:=∃ i z,Tryz.prog.info? T = some i∧i.zero = some z∧i.size = c∧i.bytes = y∧z.cells.size = c
theorem inf_of {T:TypeId} {c y:Nat} (h:(Tryz.prog.info? T).map (fun i=>(i.zero.map (fun z=>z.cells.size),i.size,i.bytes)) = some (some c,c,y)):Inf T c y:=by
 obtain ⟨i,hi,h⟩:=Option.map_eq_some_iff.1 h
 simp only [Prod.mk.injEq] at h
 obtain ⟨h1,h2,h3⟩:=h
 obtain ⟨z,hz,h4⟩:=Option.map_eq_some_iff.1 h1
 exact ⟨i,z,hi,hz,h2,h3,h4⟩
def SL (w:World) (B:Nat) (T:TypeId) (c:Nat) (v:Value) (n:Nat) (E:Nat→List Value):Prop :=
 ∃ vs:List Value,w.ownsRow B T c v n vs∧∀ i,i < n→∀ j u,(E i)[j]? = some u→j < c∧vs[i * c + j]? = some u
theorem SL.nil (w:World) (B:Nat) (T:TypeId) (c:Nat) (E:Nat→List Value):SL w B T c (.slice none 0 0) 0 E:=⟨[],World.ownsRow_nil _ _ _ _,fun i hi=>by omega⟩
theorem SL.below {w w':World} {B:Nat} {T:TypeId} {c:Nat} {v:Value} {n:Nat} {E:Nat→List Value} (h:SL w B T c v n E) (hb:Below w.heap.size w w'):SL w' B T c v n E:=by
 obtain ⟨vs,h1,h2⟩:=h
 refine ⟨vs,⟨h1.1,?_⟩,h2⟩
 rcases h1.2 with hn | ⟨g,cap,cur,e1,e2,hgb,rest⟩
 ·exact .inl hn
 ·exact .inr ⟨g,cap,cur,e1,e2,(hb.block g (Array.getElem?_eq_some_iff.1 hgb).1).trans hgb,rest⟩
theorem SL.form {w:World} {B:Nat} {T:TypeId} {c:Nat} {v:Value} {n:Nat} {E:Nat→List Value} (h:SL w B T c v n E):∃ a cap,v = .slice a n cap∧n≤cap:=by
 obtain ⟨vs,h1,h2⟩:=h
 rcases h1.2 with ⟨rfl,rfl⟩ | ⟨g,cap,cur,e1,_,_,h3,_⟩
 ·exact ⟨_,_,rfl,Nat.le_refl _⟩
 ·exact ⟨_,_,e1,h3⟩
theorem SL.lt {w:World} {B:Nat} {T:TypeId} {c:Nat} {v:Value} {n:Nat} {E:Nat→List Value} (h:SL w B T c v n E):∀ k,v.ownBlock = some k→B≤k∧k < w.heap.size:=by
 obtain ⟨vs,h1,h2⟩:=h
 exact World.ownsRow.lt h1
theorem SL.mono {w:World} {B B':Nat} {T:TypeId} {c:Nat} {v:Value} {n:Nat} {E:Nat→List Value} (h:SL w B T c v n E) (hB:B'≤B):SL w B' T c v n E:=by
 obtain ⟨vs,h1,h2⟩:=h
 refine ⟨vs,⟨h1.1,?_⟩,h2⟩
 rcases h1.2 with hn | ⟨g,cap,cur,e1,e2,rest⟩
 ·exact .inl hn
 ·exact .inr ⟨g,cap,cur,e1,by omega,rest⟩
theorem SL.cell {w:World} {B:Nat} {T:TypeId} {c:Nat} {a:Option Addr} {m n cap:Nat} {E:Nat→List Value} (h:SL w B T c (.slice a m cap) n E):n = 0∨∃ g,a = some ⟨g,0,none⟩∧∀ i,i < n→∀ j u,(E i)[j]? = some u→w.cell? ⟨g,i * c + j,none⟩ = some u:=by
 obtain ⟨vs,h1,h2⟩:=h
 rcases h1.2 with ⟨e1,e2⟩ | ⟨g,cap,cur,e1,_,hg,_,_,_,ht⟩
 ·exact .inl e2
 ·simp only [Value.slice.injEq] at e1
  obtain ⟨rfl,_,_⟩:=e1
  exact .inr ⟨g,rfl,fun i hi j u hu=>row_cell hg ht (h2 i hi j u hu).2⟩
theorem SL.kept {w w':World} {B:Nat} {T:TypeId} {c:Nat} {v:Value} {n:Nat} {E:Nat→List Value} (h:SL w B T c v n E) {row:Option Nat} (hg:w.grownBy w' row) (hne:∀ g,v.ownBlock = some g→row ≠ some g):SL w' B T c v n E:=by
 obtain ⟨vs,h1,h2⟩:=h
 refine ⟨vs,World.ownsRow.kept h1 hg ?_,h2⟩
 cases e:v.ownBlock with
 | none=>exact .inl rfl
 | some g=>exact .inr fun e2=>hne g e e2.symm
theorem sl_app {c n:Nat} {vs cs:List Value} {E:Nat→List Value} (hl:vs.length = n * c) (hcs:cs.length = c) (h2:∀ i,i < n→∀ j u,(E i)[j]? = some u→j < c∧vs[i * c + j]? = some u) :
  ∀ i,i < n + 1→∀ j u,((fun i=>if i < n then E i else cs) i)[j]? = some u→j < c∧(vs ++ cs)[i * c + j]? = some u:=by
 intro i hi j u hu
 rcases (by omega:i < n∨i = n) with h | rfl
 ·simp only [h,if_true] at hu
  obtain ⟨h3,h4⟩:=h2 i h j u hu
  refine ⟨h3,?_⟩
  have h5:(i + 1) * c≤n * c:=Nat.mul_le_mul_right c h
  rw [Nat.add_mul,Nat.one_mul] at h5
  rw [List.getElem?_append_left (by omega)]
  exact h4
 ·simp only [Nat.lt_irrefl,if_false] at hu
  have h3:j < cs.length:=(List.getElem?_eq_some_iff.1 hu).1
  refine ⟨by omega,?_⟩
  rw [List.getElem?_append_right (by omega),hl,Nat.add_sub_cancel_left]
  exact hu
theorem wpList_appendS (w:World) {ops:Array Oper} {rest:List Oper} {o:Oper} {a:Act} {Q:Exit→Act→World→Prop} (hgd:o.guard = none) (s x:Operand) (L T:TypeId) (c y:Nat)
  (ho:o.op = .call { callee:=.builtin .append,args:=#[s,x],argTypes:=#[L,L] }) (hL:Tryz.prog.underlying L = some (.slice T)) (hI:Inf T c y) (hc0:0 < c) (hy:y≤1000)
  (B:Nat) (v:Value) (n:Nat) (E:Nat→List Value) (hs:a.eval s = v) (hown:SL w B T c v n E) (h k:Nat) (hx:a.eval x = .slice (some ⟨h,0,none⟩) 1 k)
  (cs:List Value) (hcs:cs.length = c) (h1:∀ u ∈ cs,u.oneCell' = true) (hbox:BoxC w h cs)
  (hlen:n≤1000000000) (hB:B≤w.heap.size) (H:Nat) (hH:w.heap.size = H)
  (hK:∀ g cap w',SL w' B T c (.slice (some ⟨g,0,none⟩) (n + 1) cap) (n + 1) (fun i=>if i < n then E i else cs)→w.grownBy w' v.ownBlock→(v.ownBlock = some g∨g = H)→g < w'.heap.size→wpList Tryz.prog ops Q rest (a.put o.dst (.slice (some ⟨g,0,none⟩) (n + 1) cap)) w') :
  wpList Tryz.prog ops Q (o :: rest) a w:=by
 obtain ⟨vs,g1,g2⟩:=hown
 obtain ⟨i0,z,hi,hz,hs3,hb56,hz3⟩:=hI
 have hyn:(n + 1) * y≤1000000001 * 1000:=Nat.mul_le_mul (by omega) hy
 refine wpList_append_lies w hgd s x L ho B T i0 z c y hL hi hz hs3 hb56 hz3 hc0 v n vs hs g1 ⟨h,0,none⟩ 1 k cs hx (by omega) ?_ h1 (by decide) (by unfold maxLen;omega) (by omega) hB H hH ?_
 ·intro j u hj
  have:=hbox j u hj
  by_cases e:j = 0
  ·subst e;simpa [Addr.add] using this
  ·simpa [Addr.add,e] using this
 ·intro g cap w' r1 r2 r3 r4
  exact hK g cap w' ⟨_,r1,sl_app g1.1 hcs g2⟩ r2 r3 r4
end Go.Proofs.YtjiodidemimgmaaGreatDoor

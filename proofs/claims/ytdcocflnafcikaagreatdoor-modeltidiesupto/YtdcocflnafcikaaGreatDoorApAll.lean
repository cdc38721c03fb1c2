import Derived.Test.YtdcocflnafcikaaGreatDoorLentBll
import Derived.RangeFuncOwn
import Derived.ArgAppend
namespace Go.Proofs.YtdcocflnafcikaaGreatDoor
open Go.RowKit
/-! ### Apart: what its loops do,outside the walk -/
def mk (i n:Nat):List Int:=(List.range n).map fun (k:Nat)=>1000000*(i:Int)+(k:Int)+7
theorem bT (i n:Nat):(mk i n).length=n:=by simp [mk]
theorem lm_mk {i n k:Nat} (h:k<n):lm (mk i n) k=1000000*(i:Int)+k+7:=by simp [lm,mk,h]
def part (i:Nat) (x:List Int) (k:Nat):List Int:=(mk i x.length).take k++x.drop k
theorem sH (i:Nat) (x:List Int):part i x 0=x:=by simp [part]
theorem part_full (i:Nat) (x:List Int):part i x x.length=mk i x.length:=by simp [part,List.take_of_length_le (Nat.le_of_eq (bT i x.length))]
theorem oH (i:Nat) (x:List Int) {k:Nat} (h:k≤x.length):(part i x k).length=x.length:=by simp [part,bT];omega
theorem part_set (i:Nat) (x:List Int) {k:Nat} (h:k<x.length):(part i x k).set k (1000000*(i:Int)+k+7)=part i x (k+1):=by
 have h1:((mk i x.length).take k).length=k:=by simp [bT];omega
 unfold part
 rw [List.set_append_right _ _ (by omega),h1,Nat.sub_self,← fJ _ _ (by rw [bT];exact h),lm_mk h,List.append_assoc]
 congr 1
 rw [List.drop_eq_getElem_cons h]
 rfl
def st (x:Nat→List Int) (i k j:Nat):List Int:=if j<i then mk j (x j).length else if j=i then part i (x i) k else x j
theorem st_zero (x:Nat→List Int) (j:Nat):st x 0 0 j=x j:=by
 unfold st;rw [if_neg (by omega)];split
 ·subst_vars;exact sH 0 (x 0)
 ·rfl
theorem st_next (x:Nat→List Int) (i j:Nat):st x i (x i).length j=st x (i+1) 0 j:=by
 unfold st
 by_cases h1:j<i
 ·rw [if_pos h1,if_pos (by omega)]
 ·rw [if_neg h1]
  by_cases h2:j=i
  ·subst h2;rw [if_pos rfl,if_pos (by omega),part_full]
  ·rw [if_neg h2,if_neg (by omega)]
   by_cases h3:j=i+1
   ·subst h3;rw [if_pos rfl,sH]
   ·rw [if_neg h3]
theorem st_all {x:Nat→List Int} {m j:Nat} (h:j<m):st x m 0 j=mk j (x j).length:=by unfold st;rw [if_pos h]
theorem sJ (x:Nat→List Int) (i k j:Nat) (hk:k≤(x i).length):(st x i k j).length=(x j).length:=by
 unfold st
 split
 ·exact bT _ _
 ·split
  ·subst_vars;exact oH _ _ hk
  ·rfl
def TRow (w:World) (g m:Nat) (v:Nat→Value):Prop:=∃ cur:Array Value,w.heap[g]? = some (.cells cur 23 (0,0))∧∀ i,i<m→cur[i]? = some (v i)
theorem TRow.cell {w:World} {g m:Nat} {v:Nat→Value} (h:TRow w g m v) {i:Nat} (hi:i<m):w.cell? ⟨g,i,none⟩=some (v i):=by
 obtain ⟨cur,h1,h2⟩:=h
 simp [World.cell?,h1,h2 i hi]
theorem TRow.of_block {w w':World} {g m:Nat} {v:Nat→Value} (h:TRow w g m v) (hb:w'.heap[g]? = w.heap[g]?):TRow w' g m v:=by
 obtain ⟨cur,h1,h2⟩:=h
 exact ⟨cur,by rw [hb];exact h1,h2⟩
theorem TRow.lt {w:World} {g m:Nat} {v:Nat→Value} (h:TRow w g m v):g<w.heap.size:=by
 obtain ⟨cur,h1,_⟩:=h;exact (Array.getElem?_eq_some_iff.1 h1).1
theorem TRow.ne {w:World} {g m:Nat} {v:Nat→Value} (h:TRow w g m v) {B:Nat} {u:Value} {xs:List Int} (ho:OwnV w B u xs):u.ownBlock≠some g:=by
 intro e
 obtain ⟨cur,h1,_⟩:=h
 rcases ho.row with ⟨rfl,_⟩|⟨k,cap,rfl,_,cur2,h3,_⟩
 ·simp [Value.ownBlock] at e
 ·simp only [Value.ownBlock,Option.some.injEq] at e
  subst e
  rw [h1] at h3
  simp at h3
theorem OwnV.set_other {w:World} {B:Nat} {v:Value} {xs:List Int} (h:OwnV w B v xs) {g k:Nat} (u:Value) (hne:v.ownBlock≠some g):OwnV (w.setCell ⟨g,k,none⟩ u) B v xs:=by
 rcases h.row with ⟨rfl,rfl⟩|⟨b,cap,rfl,hB,hr⟩
 ·exact OwnV.nil _ _
 ·refine (hr.of_block (Below.heap_setCell _ _ _ _ ?_)).own hB
  intro e;subst e;exact hne rfl
def KN (w w':World):Prop:=(∀ (k:Nat) (c:Array Value) (T:TypeId),T≠63→T≠23→w.heap[k]? = some (.cells c T (0,0))→w'.heap[k]? = some (.cells c T (0,0)))∧KeepsOthers w w'
theorem KN.refl (w:World):KN w w:=⟨fun _ _ _ _ _ h=>h,KeepsOthers.refl w⟩
theorem KN.trans {a b c:World} (h:KN a b) (k:KN b c):KN a c:=⟨fun i x T h1 h2 h3=>k.1 i x T h1 h2 (h.1 i x T h1 h2 h3),h.2.trans k.2⟩
theorem kC {w w':World} (hs:w.heap.size≤w'.heap.size) (h:∀ (k:Nat),k<w.heap.size→(∀ o,w.heap[k]? = some o→o.isCells=false)→w'.heap[k]? = w.heap[k]?):KeepsOthers w w':=⟨hs,fun k o e ho=>(h k (Array.getElem?_eq_some_iff.1 e).1 (fun o2 e2=>by rw [e] at e2;cases e2;exact ho)).trans e⟩
theorem KN.of_below {w w':World} (h:Below w.heap.size w w'):KN w w':=⟨fun k _ _ _ _ e=>(h.block k (Array.getElem?_eq_some_iff.1 e).1).trans e,kC h.size fun k hk _=>h.block k hk⟩
theorem KN.nun {w w':World} (h:w.grownBy w' none):KN w w':=⟨fun k _ _ _ _ e=>(h.block k (Array.getElem?_eq_some_iff.1 e).1 (by simp)).trans e,kC h.size fun k hk _=>h.block k hk (by simp)⟩
theorem KN.row {w w':World} {g:Nat} {c0:Array Value} {T0:TypeId} (hg:w.heap[g]? = some (.cells c0 T0 (0,0))) (hT:T0=63∨T0=23) (hs:w.heap.size≤w'.heap.size) (h:∀ k,k<w.heap.size→k≠g→w'.heap[k]? = w.heap[k]?):KN w w':=⟨fun k c T h1 h2 e=>by
 have hk:k≠g:=fun e2=>by
  subst e2
  rw [hg] at e
  simp only [Option.some.injEq,Obj.cells.injEq] at e
  obtain ⟨-,rfl,-⟩:=e
  rcases hT with rfl|rfl
  ·exact h1 rfl
  ·exact h2 rfl
 exact (h k (Array.getElem?_eq_some_iff.1 e).1 hk).trans e,kC hs fun k hk ho=>h k hk fun e2=>by subst e2;exact absurd (ho _ hg) (by simp [Obj.isCells])⟩
theorem KN.own {w w':World} {B:Nat} {v:Value} {xs:List Int} (h:OwnV w B v xs) (hg:w.grownBy w' v.ownBlock):KN w w':=by
 rcases h.row with ⟨rfl,rfl⟩|⟨b,cap,rfl,hB,hr⟩
 ·exact KN.nun hg
 ·obtain ⟨cur,h1,_⟩:=hr
  exact KN.row h1 (.inl rfl) hg.size fun k hk hne=>hg.block k hk (by simp [Value.ownBlock];exact hne)
theorem KN.set {w:World} {B g k:Nat} {v:Value} {xs:List Int} (h:OwnV w B v xs) (hg:v.ownBlock=some g) (u:Value):KN w (w.setCell ⟨g,k,none⟩ u):=by
 rcases h.row with ⟨rfl,rfl⟩|⟨b,cap,rfl,hB,hr⟩
 ·simp [Value.ownBlock] at hg
 ·obtain ⟨cur,h1,_⟩:=hr
  simp only [Value.ownBlock,Option.some.injEq] at hg
  subst hg
  exact KN.row h1 (.inl rfl) (KeepsOthers.setCell _ _ _).size fun k _ hne=>Below.heap_setCell _ _ _ _ hne
theorem mark_step {w:World} {B gl m:Nat} {v:Nat→Value} {x:Nat→List Int} {i k g cap:Nat} (hT:TRow w gl m v) (ho:∀ j,j<m→OwnV w B (v j) (st x i k j))
 (dis:∀ i j,i<m→j<m→i≠j→∀ g,(v i).ownBlock=some g→(v j).ownBlock≠some g) (hi:i<m) (hk:k<(x i).length) (hv:v i = .slice (some ⟨g,0,none⟩) (x i).length cap) :
 w.cell? ⟨g,k,none⟩=some (.int .u64 (lm (st x i k i) k))∧w.frozen? ⟨g,k,none⟩=false∧B≤g∧TRow (w.setCell ⟨g,k,none⟩ (.int .u64 (1000000*(i:Int)+k+7))) gl m v ∧
  ∀ j,j<m→OwnV (w.setCell ⟨g,k,none⟩ (.int .u64 (1000000*(i:Int)+k+7))) B (v j) (st x i (k+1) j):=by
 have hoi:=ho i hi
 have hlen:=sJ x i k i (by omega)
 have hgl:gl≠g:=fun e=>hT.ne hoi (by rw [hv,e];rfl)
 rcases hoi.row with ⟨e,_⟩|⟨g',cap',e,hB,hr⟩
 ·rw [hv] at e;cases e
 ·rw [hv] at e
  simp only [Value.slice.injEq,Option.some.injEq,Addr.mk.injEq] at e
  obtain ⟨⟨rfl,_,_⟩,_,rfl⟩:=e
  refine ⟨hr.cell (by omega),hr.frozen k,hB,hT.of_block (Below.heap_setCell _ _ _ _ hgl),fun j hj=>?_⟩
  by_cases hji:j=i
  ·subst hji
   have hs:=(hr.set k (1000000*(j:Int)+k+7)).own hB
   have e1:st x j k j=part j (x j) k:=by unfold st;rw [if_neg (by omega),if_pos rfl]
   have e2:st x j (k+1) j=part j (x j) (k+1):=by unfold st;rw [if_neg (by omega),if_pos rfl]
   rw [e1,part_set j (x j) hk] at hs
   rw [e2,hv]
   rw [oH _ _ (by omega)] at hs
   exact hs
  ·have e1:st x i (k+1) j=st x i k j:=by unfold st;rw [if_neg hji,if_neg hji]
   rw [e1]
   exact (ho j hj).set_other _ (dis i j hi hj (fun e=>hji e.symm) g (by rw [hv];rfl))
theorem qX {w:World} {h:Nat} {v:Value} {t:TypeId} (hh:h=w.heap.size):(w.alloc (.cells #[v] t)).cell? ⟨h,0,none⟩=some v:=by subst hh;simp
def Lies (w w':World) (v:Value) (g cap:Nat):Prop :=
 (∃ n,v = .slice (some ⟨g,0,none⟩) n cap∧w.grownBy w' (some g))∨(w.heap.size≤g∧w.grownBy w' none)
theorem qY (t:TypeId) (ht:Tryz.prog.underlying t=some (.slice 63)) (w:World) {ops:Array Oper} {rest:List Oper} {o:Oper} {a:Act} {Q:Exit→Act→World→Prop} (hgd:o.guard=none) (s x:Operand)
 (ho:o.op = .call { callee:=.builtin .append,args:=#[s,x],argTypes:=#[t,t] }) (B:Nat) (v:Value) (xs:List Int) (n:Nat) (hn:Hid (xs.length=n)) (hs:a.eval s=v) (hown:OwnV w B v xs) (h:Nat) (c:Nat) (z:Int) (hx:a.eval x = .slice (some ⟨h,0,none⟩) 1 c)
 (hc:w.cell? ⟨h,0,none⟩=some (.int .u64 z)) (hlen:n≤1000000000000) (hB:B≤w.heap.size)
 (hK:∀ g cap w',OwnV w' B (.slice (some ⟨g,0,none⟩) (n+1) cap) (xs++[z])→Lies w w' v g cap→wpList Tryz.prog ops Q rest (a.put o.dst (.slice (some ⟨g,0,none⟩) (n+1) cap)) w') :
 wpList Tryz.prog ops Q (o::rest) a w:=by
 obtain rfl:=hn.out
 obtain ⟨i0,hi,hz0,hz1,hz2⟩:=info_parts Tryz.infoU64
 have hnews:∀ j u,[Value.int IntKind.u64 z][j]? = some u→w.cell? (Addr.add ⟨h,0,none⟩ j)=some u:=by
  intro j u hj
  match j,hj with
  | 0,hj=>simp at hj;subst hj;simpa [Addr.add] using hc
 have h1c:∀ u ∈ [Value.int IntKind.u64 z],u.oneCell'=true:=fun u hu=>by simp at hu;subst hu;rfl
 have grows:∀ (ao:Option Addr) (cap:Nat),a.eval s = .slice ao xs.length cap→(ao=none→xs.length=0∧cap=0)→(∀ b,ao=some b→∀ j u,(xs.map (Value.int .u64))[j]? = some u→w.cell? (b.add j)=some u)→cap<xs.length+1→wpList Tryz.prog ops Q (o::rest) a w:=by
  intro ao cap hs' hnone holds hfull
  refine wpList_append_grows w hgd s x t ho 63 i0 (.int .u64 0) 1 8 ht hi hz0 hz1 hz2 rfl (by decide) ao xs.length cap (xs.map (Value.int .u64)) hs' hnone (by simp) holds ⟨h,0,none⟩ 1 c [.int .u64 z] hx rfl hnews h1c hfull (by unfold maxLen;omega) (by omega) ?_
  intro v' w' h2 h3
  obtain ⟨g,cap',rfl,hBg,_⟩:=h2.form (by omega)
  have h2':OwnV w' w.heap.size (.slice (some ⟨g,0,none⟩) (xs.length+1) cap') (xs++[z]):=by unfold OwnV;simpa using h2
  exact hK g cap' w' (h2'.mono hB) (.inr ⟨hBg,h3⟩)
 rcases hown.row with ⟨rfl,rfl⟩|⟨g,cap,rfl,hBg,hr⟩
 ·exact grows none 0 hs (fun _=>⟨rfl,rfl⟩) (fun b hb=>by cases hb) (by simp)
 ·by_cases hroom:xs.length+1≤cap
  ·refine wpList_append_fits w hgd s x t ho B 63 i0 1 ht hi hz1 g xs.length cap (xs.map (Value.int .u64)) hs hown ⟨h,0,none⟩ 1 c [.int .u64 z] hx rfl hnews h1c hroom ?_
   intro w' h2 h3
   exact hK g cap w' (by unfold OwnV;simpa using h2) (.inl ⟨xs.length,rfl,h3⟩)
  ·refine grows _ cap hs (fun e=>by cases e) ?_ (by omega)
   intro b hb j u hu
   cases hb
   simp only [List.getElem?_map,Option.map_eq_some_iff] at hu
   obtain ⟨y,hy,rfl⟩:=hu
   have hj:j<xs.length:=(List.getElem?_eq_some_iff.1 hy).1
   rw [lI hj] at hy
   cases hy
   have:=hr.cell hj
   by_cases h0:j=0
   ·subst h0;simpa [Addr.add] using this
   ·simpa [Addr.add,h0] using this
def TOwn (w:World) (B:Nat) (lv:Value) (n:Nat) (Y:Nat→Value):Prop:=w.ownsRow B 23 1 lv n ((List.range n).map Y)
theorem TOwn.nil (w:World) (B:Nat) (Y:Nat→Value):TOwn w B (.slice none 0 0) 0 Y:=World.ownsRow_nil _ _ _ _
theorem TOwn.row {w:World} {B:Nat} {lv:Value} {n:Nat} {Y:Nat→Value} (h:TOwn w B lv n Y) (hn:0<n):∃ g cap,lv = .slice (some ⟨g,0,none⟩) n cap∧TRow w g n Y∧n≤cap:=by
 rcases h.2 with ⟨_,h2⟩|⟨g,cap,cur,h1,h2,h3,h4,h5,h6,h7⟩
 ·omega
 ·refine ⟨g,cap,h1,⟨cur,h3,fun i hi=>?_⟩,h4⟩
  have:=congrArg (fun l=>l[i]?) h7
  simp only [Nat.mul_one,List.getElem?_take_of_lt hi,List.getElem?_map,List.getElem?_range hi] at this
  simpa using this
theorem TOwn.ne {w:World} {B B':Nat} {lv u:Value} {n:Nat} {Y:Nat→Value} {xs:List Int} (h:TOwn w B lv n Y) (ho:OwnV w B' u xs):u.ownBlock=none∨u.ownBlock≠lv.ownBlock:=by
 rcases h.2 with ⟨h1,_⟩|⟨g,cap,cur,h1,h2,h3,_⟩
 ·subst h1
  cases e:u.ownBlock with
  | none=>exact .inl rfl
  | some k=>exact .inr (by simp [Value.ownBlock])
 ·right
  subst h1
  intro e
  rcases ho.row with ⟨rfl,_⟩|⟨k,cap2,rfl,_,cur2,h4,_⟩
  ·simp [Value.ownBlock] at e
  ·simp only [Value.ownBlock,Option.some.injEq] at e
   subst e
   rw [h3] at h4
   simp at h4
theorem Tryz.infoNat:(Tryz.prog.info? 23).map (fun i=>(i.zero,i.size,i.bytes))=some (some (.slice none 0 0),1,24):=by kernel_rfl
set_option maxRecDepth 100000 in
theorem qZ (w:World) {ops:Array Oper} {rest:List Oper} {o:Oper} {a:Act} {Q:Exit→Act→World→Prop} (hgd:o.guard=none) (s x:Operand)
 (ho:o.op = .call { callee:=.builtin .append,args:=#[s,x],argTypes:=#[101,101] }) (B:Nat) (v:Value) (n:Nat) (Y:Nat→Value) (hs:a.eval s=v) (hown:TOwn w B v n Y) (h:Nat) (c:Nat) (y:Value) (hx:a.eval x = .slice (some ⟨h,0,none⟩) 1 c)
 (hc:w.cell? ⟨h,0,none⟩=some y) (hy:y.oneCell'=true) (hlen:n≤1000000000) (hB:B≤w.heap.size) (H:Nat) (hH:w.heap.size=H)
 (hK:∀ g cap w',TOwn w' B (.slice (some ⟨g,0,none⟩) (n+1) cap) (n+1) (fun j=>if j=n then y else Y j)→w.grownBy w' v.ownBlock→(v.ownBlock=some g∨g=H)→g<w'.heap.size→wpList Tryz.prog ops Q rest (a.put o.dst (.slice (some ⟨g,0,none⟩) (n+1) cap)) w') :
 wpList Tryz.prog ops Q (o::rest) a w:=by
 obtain ⟨i0,hi,hz0,hz1,hz2⟩:=info_parts Tryz.infoNat
 refine wpList_append_lies w hgd s x 101 ho B 23 i0 (.slice none 0 0) 1 24 Tryz.underlying101 hi hz0 hz1 hz2 rfl (by decide) v n ((List.range n).map Y) hs hown ⟨h,0,none⟩ 1 c [y] hx rfl ?_ (fun u hu=>by simp at hu;subst hu;exact hy) (by decide) (by unfold maxLen;omega) (by omega) hB H hH ?_
 ·intro j u hj
  match j,hj with
  | 0,hj=>simp at hj;subst hj;simpa [Addr.add] using hc
 ·intro g cap w' h1 h2 h3 h4
  refine hK g cap w' ?_ h2 h3 h4
  unfold TOwn
  have e:(List.range (n+1)).map (fun j=>if j=n then y else Y j)=(List.range n).map Y++[y]:=by
   rw [List.range_succ,List.map_append]
   congr 1
   ·exact List.map_congr_left fun j hj=>by rw [if_neg (by have:=List.mem_range.1 hj;omega)]
   ·simp
  rw [e]
  exact h1
def ml (x:Nat→List Int) (j:Nat) (k:Nat):List Int:=mk j (x j).length++List.replicate k (900000000+(j:Int))
theorem nJ (x:Nat→List Int) (j k:Nat):(ml x j k).length=(x j).length+k:=by simp [ml,bT]
theorem ml_snoc (x:Nat→List Int) (j k:Nat):ml x j k++[900000000+(j:Int)]=ml x j (k+1):=by
 unfold ml;rw [List.append_assoc,← List.replicate_succ']
structure P2 (B gl m:Nat) (v:Nat→Value) (x:Nat→List Int) (lv:Value) (Y:Nat→Value) (i H:Nat) (wr:World):Prop where
 T:TRow wr gl m v
 ov:∀ j,j<m→OwnV wr B (v j) (mk j (x j).length)
 oY:∀ j,j<i→OwnV wr B (Y j) (ml x j 20)
 tl:TOwn wr B lv i Y
 d1:∀ j,j<i→∀ j',j'<m→i≤j'→∀ g,(Y j).ownBlock=some g→(v j').ownBlock≠some g
 nl:∀ g,lv.ownBlock=some g→g≠gl
 hv:∀ j,j<m→∀ g,(v j).ownBlock=some g→g<H
 hY:∀ j,j<i→∀ g,(Y j).ownBlock=some g→g<H
 hH:H≤wr.heap.size
 hB:B≤wr.heap.size
def YS (B:Nat) (vi y:Value) (n k:Nat) (us:List Int) (H:Nat) (wr:World):Prop :=
 OwnV wr B y us∧((k=0∧y=vi)∨(∃ g cap,vi = .slice (some ⟨g,0,none⟩) n cap∧y = .slice (some ⟨g,0,none⟩) (n+k) cap)∨(∃ g cap,y = .slice (some ⟨g,0,none⟩) (n+k) cap∧H≤g))
theorem p2_inner {B gl m:Nat} {v:Nat→Value} {x:Nat→List Int} {lv:Value} {Y:Nat→Value} {i H k:Nat} {wr w':World} {y:Value} {blk:Obj} {g cap:Nat} (dis:∀ i j,i<m→j<m→i≠j→∀ g,(v i).ownBlock=some g→(v j).ownBlock≠some g)
 (hp:P2 B gl m v x lv Y i H wr) (hi:i<m) (hy:YS B (v i) y (x i).length k (ml x i k) H wr)
 (hown:OwnV w' B (.slice (some ⟨g,0,none⟩) ((x i).length+k+1) cap) (ml x i k++[900000000+(i:Int)])) (hl:Lies (wr.alloc blk) w' y g cap) :
 P2 B gl m v x lv Y i H w'∧YS B (v i) (.slice (some ⟨g,0,none⟩) ((x i).length+k+1) cap) (x i).length (k+1) (ml x i (k+1)) H w'∧Below B wr w'∧KN wr w':=by
 rw [ml_snoc] at hown
 have hszA:(wr.alloc blk).heap.size=wr.heap.size+1:=by simp
 have hall:Below wr.heap.size wr (wr.alloc blk):=(Below.refl _ _).alloc (Nat.le_refl _) _
 rcases hl with ⟨n',hyv,hg⟩|⟨hge,hg⟩
 ·-- in place
  have hgB:=(hy.1.lt g (by rw [hyv];rfl))
  have hkeep:∀ {u:Value} {us:List Int},OwnV wr B u us→u.ownBlock≠some g→OwnV w' B u us:=fun ho hne=>(ho.alloc blk).grown hg (.inr hne)
  have hgl:gl≠g:=fun e=>hp.T.ne hy.1 (by rw [hyv,e];rfl)
  have hsame:∀ j,j<m→(v j).ownBlock=some g→j=i∧v i = .slice (some ⟨g,0,none⟩) (x i).length cap:=by
   intro j hj hjg
   rcases hy.2 with ⟨_,e⟩|⟨g2,cap2,e1,e2⟩|⟨g2,cap2,e1,e2⟩
   ·have hii:(v i).ownBlock=some g:=by rw [← e,hyv];rfl
    have hji:j=i:=by
     rcases Nat.decEq j i with h|h
     ·exact absurd hii (dis j i hj hi h g hjg)
     ·exact h
    refine ⟨hji,?_⟩
    have hlen:n'=(x i).length:=by
     have ho:=hp.ov i hi
     rw [← e,hyv] at ho
     have:=(ho.reads).1
     rw [bT] at this
     exact this
    rw [← e,hyv,hlen]
   ·rw [hyv] at e2
    simp only [Value.slice.injEq,Option.some.injEq,Addr.mk.injEq] at e2
    obtain ⟨⟨rfl,_,_⟩,_,rfl⟩:=e2
    have hii:(v i).ownBlock=some g:=by rw [e1];rfl
    have hji:j=i:=by
     rcases Nat.decEq j i with h|h
     ·exact absurd hii (dis j i hj hi h g hjg)
     ·exact h
    exact ⟨hji,e1⟩
   ·rw [hyv] at e1
    simp only [Value.slice.injEq,Option.some.injEq,Addr.mk.injEq] at e1
    obtain ⟨⟨rfl,_,_⟩,_,_⟩:=e1
    have:=hp.hv j hj g hjg
    omega
  refine ⟨⟨hp.T.of_block ?_,fun j hj=>?_,fun j hj=>?_,?_,hp.d1,hp.nl,hp.hv,hp.hY,?_,?_⟩,⟨hown,?_⟩,?_⟩
  ·rw [hg.block gl (by have:=hp.T.lt;omega) (by simp;exact hgl),Below.heap_alloc _ _ _ hp.T.lt]
  ·by_cases e:(v j).ownBlock=some g
   ·obtain ⟨rfl,hvi⟩:=hsame j hj e
    rcases hown.row with ⟨e2,_⟩|⟨g2,cap2,e2,hB2,hr2⟩
    ·cases e2
    ·simp only [Value.slice.injEq,Option.some.injEq,Addr.mk.injEq] at e2
     obtain ⟨⟨rfl,_,_⟩,_,rfl⟩:=e2
     have ht:=(hr2.take (x j).length).own hB2
     have e3:(ml x j (k+1)).take (x j).length=mk j (x j).length:=by
      unfold ml
      rw [List.take_append_of_le_length (by rw [bT];exact Nat.le_refl _),List.take_of_length_le (by rw [bT];exact Nat.le_refl _)]
     rw [e3,bT] at ht
     rw [hvi];exact ht
   ·exact hkeep (hp.ov j hj) e
  ·refine hkeep (hp.oY j hj) (fun e=>?_)
   rcases hy.2 with ⟨_,e1⟩|⟨g2,cap2,e1,e2⟩|⟨g2,cap2,e1,e2⟩
   ·exact hp.d1 j hj i hi (Nat.le_refl _) g e (by rw [← e1,hyv];rfl)
   ·rw [hyv] at e2
    simp only [Value.slice.injEq,Option.some.injEq,Addr.mk.injEq] at e2
    obtain ⟨⟨rfl,_,_⟩,_,_⟩:=e2
    exact hp.d1 j hj i hi (Nat.le_refl _) g e (by rw [e1];rfl)
   ·rw [hyv] at e1
    simp only [Value.slice.injEq,Option.some.injEq,Addr.mk.injEq] at e1
    obtain ⟨⟨rfl,_,_⟩,_,_⟩:=e1
    have:=hp.hY j hj g e
    omega
  ·have hne:=hp.tl.ne hy.1
   refine World.ownsRow.kept (World.ownsRow.alloc hp.tl blk) hg ?_
   rw [hyv] at hne
   rcases hne with hne|hne
   ·simp [Value.ownBlock] at hne
   ·exact .inr (fun e=>hne e.symm)
  ·have:=hg.size;have:=hp.hH;omega
  ·have:=hg.size;have:=hp.hB;omega
  ·rcases hy.2 with ⟨hk0,e⟩|⟨g2,cap2,e1,e2⟩|⟨g2,cap2,e1,e2⟩
   ·have hii:(v i).ownBlock=some g:=by rw [← e,hyv];rfl
    obtain ⟨_,hvi⟩:=hsame i hi hii
    exact .inr (.inl ⟨g,cap,hvi,rfl⟩)
   ·rw [hyv] at e2
    simp only [Value.slice.injEq,Option.some.injEq,Addr.mk.injEq] at e2
    obtain ⟨⟨rfl,_,_⟩,_,rfl⟩:=e2
    exact .inr (.inl ⟨g,cap,e1,rfl⟩)
   ·rw [hyv] at e1
    simp only [Value.slice.injEq,Option.some.injEq,Addr.mk.injEq] at e1
    obtain ⟨⟨rfl,_,_⟩,_,_⟩:=e1
    exact .inr (.inr ⟨g,cap,rfl,e2⟩)
  ·exact ⟨(hall.mono hp.hB).trans (grown_below hg (by have:=hp.hB;omega) (fun q hq=>by simp only [Option.some.injEq] at hq;omega)),(KN.of_below hall).trans (KN.own (hy.1.alloc blk) (by rw [hyv];exact hg))⟩
 ·-- new memory
  have hkeep:∀ {u:Value} {us:List Int},OwnV wr B u us→OwnV w' B u us:=fun {u us} ho=>by
   refine (ho.alloc blk).grown hg ?_
   cases e:u.ownBlock with
   | none=>exact .inl rfl
   | some q=>exact .inr (by simp)
  refine ⟨⟨hp.T.of_block ?_,fun j hj=>hkeep (hp.ov j hj),fun j hj=>hkeep (hp.oY j hj),?_,hp.d1,hp.nl,hp.hv,hp.hY,?_,?_⟩,⟨hown,.inr (.inr ⟨g,cap,rfl,by have:=hp.hH;omega⟩)⟩,?_⟩
  ·rw [hg.block gl (by have:=hp.T.lt;omega) (by simp),Below.heap_alloc _ _ _ hp.T.lt]
  ·refine World.ownsRow.kept (World.ownsRow.alloc hp.tl blk) hg ?_
   cases e:lv.ownBlock with
   | none=>exact .inl rfl
   | some q=>exact .inr (by simp)
  ·have:=hg.size;have:=hp.hH;omega
  ·have:=hg.size;have:=hp.hB;omega
  ·exact ⟨(hall.mono hp.hB).trans (grown_below hg (by have:=hp.hB;omega) (fun q hq=>by cases hq)),(KN.of_below hall).trans (KN.nun hg)⟩
theorem p2_outer {B gl m:Nat} {v:Nat→Value} {x:Nat→List Int} {lv:Value} {Y:Nat→Value} {i H:Nat} {wr w':World} {y:Value} {blk:Obj} {g cap:Nat} (dis:∀ i j,i<m→j<m→i≠j→∀ g,(v i).ownBlock=some g→(v j).ownBlock≠some g)
 (hp:P2 B gl m v x lv Y i H wr) (hi:i<m) (hy:YS B (v i) y (x i).length 20 (ml x i 20) H wr)
 (hown:TOwn w' B (.slice (some ⟨g,0,none⟩) (i+1) cap) (i+1) (fun j=>if j=i then y else Y j)) (hg:(wr.alloc blk).grownBy w' lv.ownBlock) (hat:lv.ownBlock=some g∨g=wr.heap.size+1) :
 P2 B gl m v x (.slice (some ⟨g,0,none⟩) (i+1) cap) (fun j=>if j=i then y else Y j) (i+1) w'.heap.size w'∧Below B wr w'∧KN wr w':=by
 have hszA:(wr.alloc blk).heap.size=wr.heap.size+1:=by simp
 have hall:Below wr.heap.size wr (wr.alloc blk):=(Below.refl _ _).alloc (Nat.le_refl _) _
 have hkeep:∀ {u:Value} {us:List Int},OwnV wr B u us→OwnV w' B u us:=fun ho=>(ho.alloc blk).grown hg (hp.tl.ne ho)
 have hrow:∀ q,lv.ownBlock=some q→B≤q:=fun q hq=>(World.ownsRow.lt hp.tl q hq).1
 refine ⟨⟨hp.T.of_block ?_,fun j hj=>hkeep (hp.ov j hj),fun j hj=>?_,hown,fun j hj j' hj' hle q hq=>?_,fun q hq=>?_,fun j hj q hq=>?_,fun j hj q hq=>?_,Nat.le_refl _,by have:=hg.size;have:=hp.hB;omega⟩,?_⟩
 ·rw [hg.block gl (by have:=hp.T.lt;omega) (fun e=>hp.nl gl e.symm rfl),Below.heap_alloc _ _ _ hp.T.lt]
 ·by_cases e:j=i
  ·subst e;simp only [if_true];exact hkeep hy.1
  ·simp only [if_neg e];exact hkeep (hp.oY j (by omega))
 ·by_cases e:j=i
  ·subst e
   simp only [if_true] at hq
   rcases hy.2 with ⟨hk,_⟩|⟨g2,cap2,e1,e2⟩|⟨g2,cap2,e1,e2⟩
   ·omega
   ·rw [e2] at hq
    simp only [Value.ownBlock,Option.some.injEq] at hq
    subst hq
    exact dis j j' hi hj' (by omega) g2 (by rw [e1];rfl)
   ·rw [e1] at hq
    simp only [Value.ownBlock,Option.some.injEq] at hq
    subst hq
    intro e3;have:=hp.hv j' hj' g2 e3;omega
  ·simp only [if_neg e] at hq
   exact hp.d1 j (by omega) j' hj' (by omega) q hq
 ·simp only [Value.ownBlock,Option.some.injEq] at hq
  subst hq
  rcases hat with e|e
  ·exact hp.nl g e
  ·have:=hp.T.lt;omega
 ·have:=(hp.ov j hj).lt q hq;have:=hg.size;omega
 ·by_cases e:j=i
  ·subst e;simp only [if_true] at hq
   have:=hy.1.lt q hq;have:=hg.size;omega
  ·simp only [if_neg e] at hq
   have:=(hp.oY j (by omega)).lt q hq;have:=hg.size;omega
 ·refine ⟨(hall.mono hp.hB).trans (grown_below hg (by have:=hp.hB;omega) hrow),(KN.of_below hall).trans ?_⟩
  rcases (World.ownsRow.alloc hp.tl blk).2 with ⟨e,_⟩|⟨q,cap2,cur,e,_,hgb,_⟩
  ·rw [e] at hg
   exact KN.nun hg
  ·rw [e] at hg
   exact KN.row hgb (.inr rfl) hg.size fun k hk hne=>hg.block k hk (by simp [Value.ownBlock];exact hne)
theorem lm_ml_lt {x:Nat→List Int} {i k n:Nat} (hn:(x i).length=n) (h:k<n):lm (ml x i 20) k=1000000*(i:Int)+k+7:=by
 unfold ml;rw [fF (by rw [bT];omega),lm_mk (by omega)]
theorem lm_ml_ge {x:Nat→List Int} {i k n:Nat} (hn:(x i).length=n) (h:n≤k) (h2:k<n+20):lm (ml x i 20) k=900000000+(i:Int):=by
 unfold ml
 rw [eX (by rw [bT];omega),bT]
 have e:(List.replicate 20 (900000000+(i:Int)))[k-(x i).length]? = some (900000000+(i:Int)):=by rw [List.getElem?_replicate,if_pos (by omega)]
 unfold lm
 rw [List.getD_eq_getElem?_getD,e]
 rfl
set_option maxHeartbeats 4000000 in
theorem yS (gl capl m B:Nat) (v:Nat→Value) (x:Nat→List Int) (w:World) (hT:TRow w gl m v) (ho:∀ j,j<m→OwnV w B (v j) (x j))
 (dis:∀ i j,i<m→j<m→i≠j→∀ g,(v i).ownBlock=some g→(v j).ownBlock≠some g) (hm:m≤200000000) (hx:∀ j,j<m→(x j).length≤1000000000) (hB:B≤w.heap.size) :
 Calls Tryz.prog 51 #[.slice (some ⟨gl,0,none⟩) m capl] w fun e w'=>e = .returned (.bool true)∧Below B w w'∧KN w w':=by
 go_enter Tryz.func51,Tryz.ntmps51
 go_wp2
 go_loopw [3] (fun s wr=>∃ i:Nat,i≤m∧s = .int .i64 i∧TRow wr gl m v∧(∀ j,j<m→OwnV wr B (v j) (st x i 0 j))∧(Below B w wr∧KN w wr)) (fun s _=>m-(intOf s).toNat)
 case atStart=>exact ⟨0,Nat.zero_le _,rfl,hT,fun j hj=>by rw [st_zero];exact ho j hj,Below.refl _ _,KN.refl _⟩
 case round =>
  obtain ⟨i,hi,rfl,hTr,hor,hbel⟩:=hrel
  clear hT ho
  by_cases hlt:i<m
  ·have hli:=hx i hlt
   obtain ⟨a,cap,hvi⟩:=iE (hor i hlt) (sJ x i 0 i (Nat.zero_le _))
   have hil:(i:Int)<(m:Int):=by omega
   obtain ⟨n,hn⟩:∃ n,(x i).length=n:=⟨_,rfl⟩
   rw [hn] at hvi hli
   have HVI:Hid (v i = .slice a n cap):=hvi
   have HNN:Hid ((x i).length=n):=hn
   clear hvi hn
   go_wp2
   go_loopw [4] (fun s wr=>∃ k:Nat,k≤n∧s = .int .i64 k∧TRow wr gl m v∧(∀ j,j<m→OwnV wr B (v j) (st x i k j))∧(Below B w wr∧KN w wr)) (fun s _=>n-(intOf s).toNat)
   case atStart=>exact ⟨0,Nat.zero_le _,rfl,hTr,hor,hbel⟩
   case round =>
    clear hTr hor hbel
    obtain ⟨k,hk,rfl,hTr,hor,hbel⟩:=hrel
    have c:=hTr.cell hlt
    rw [HVI.out] at c
    by_cases hkn:k<n
    ·have hoi:=hor i hlt
     rw [HVI.out] at hoi
     obtain ⟨g,rfl,_⟩:=qA hoi (by omega)
     have hkl:(k:Int)<(n:Int):=by omega
     obtain ⟨s1,s2,s3,s4,s5⟩:=mark_step hTr hor dis hlt (by rw [HNN.out];exact hkn) (by rw [HVI.out,HNN.out])
     have hb2:=And.intro (hbel.1.setCell (p:=⟨g,k,none⟩) s3 (.int .u64 (1000000*(i:Int)+k+7))) (hbel.2.trans (KN.set (k:=k) hoi rfl (.int .u64 (1000000*(i:Int)+k+7))))
     clear hTr hor hbel hoi
     go_wp2
     go_roundw
     case rel=>exact ⟨k+1,by omega,by go_num,s4,s5,hb2⟩
     case measure=>simp [intOf];omega
    ·obtain rfl:k=n:=by omega
     have hor2:∀ j,j<m→OwnV wr B (v j) (st x (i+1) 0 j):=fun j hj=>by rw [← st_next,HNN.out];exact hor j hj
     clear hor
     go_wp2
     go_roundw
     case rel=>exact ⟨i+1,by omega,by go_num,hTr,hor2,hbel⟩
     case measure=>simp [intOf];omega
  ·obtain rfl:i=m:=by omega
   have hor2:∀ j,j<i→OwnV wr B (v j) (mk j (x j).length):=fun j hj=>by have:=hor j hj;rw [st_all hj] at this;exact this
   have hBr:B≤wr.heap.size:=by have:=hbel.1.size;omega
   have hP:P2 B gl i v x (.slice none 0 0) (fun _=>.slice none 0 0) 0 wr.heap.size wr :=
    ⟨hTr,hor2,fun j hj=>by omega,TOwn.nil _ _ _,fun j hj=>by omega,fun g hg=>by simp [Value.ownBlock] at hg,fun j hj g hg=>((hor2 j hj).lt g hg).2,fun j hj=>by omega,Nat.le_refl _,hBr⟩
   clear hor hor2 hTr hlt hi hBr
   generalize hmi:i=m at *
   clear hmi
   go_wp2
   go_loopw [5,6] (fun lv s wr=>∃ (i:Nat) (Y:Nat→Value),i≤m∧s = .int .i64 i∧P2 B gl m v x lv Y i wr.heap.size wr∧(Below B w wr∧KN w wr)) (fun _ s _=>m-(intOf s).toNat)
   case atStart=>exact ⟨0,_,Nat.zero_le _,rfl,hP,hbel⟩
   case round =>
    clear hP hbel
    obtain ⟨i,Y,hi,rfl,hP,hbel⟩:=hrel
    by_cases hlt:i<m
    ·have hli:=hx i hlt
     have hil:(i:Int)<(m:Int):=by omega
     obtain ⟨n,hn⟩:∃ n,(x i).length=n:=⟨_,rfl⟩
     rw [hn] at hli
     have HNN:Hid ((x i).length=n):=hn
     clear hn
     have c:=hP.T.cell hlt
     obtain ⟨H,hH⟩:∃ H,wr.heap.size=H:=⟨_,rfl⟩
     rw [hH] at hP
     clear hH
     have hY0:YS B (v i) (v i) (x i).length 0 (ml x i 0) H wr:=⟨by have:=hP.ov i hlt;unfold ml;simpa using this,.inl ⟨rfl,rfl⟩⟩
     go_wp2
     go_loopw [7,8] (fun y s wr=>∃ k:Nat,k≤20∧s = .int .i64 k∧P2 B gl m v x u5 Y i H wr∧YS B (v i) y (x i).length k (ml x i k) H wr∧(Below B w wr∧KN w wr)) (fun _ s _=>20-(intOf s).toNat)
     case atStart=>exact ⟨0,Nat.zero_le _,rfl,hP,hY0,hbel⟩
     case round =>
      clear hP hbel hY0 c
      obtain ⟨k,hk,rfl,hP,hYS,hbel⟩:=hrel
      by_cases hk20:k<20
      ·have HK:Hid ((ml x i k).length=n+k):=by show _=_;rw [nJ,HNN.out]
       have hBr:=hP.hB
       go_wp2_with (at_builtin;refine qY 23 Tryz.underlying23 _ rfl _ _ rfl B u7 (ml x i k) (n+k) HK rfl (hYS.1.alloc _) wr.heap.size _ (900000000+(i:Int)) rfl (qX rfl) (by omega) (by simp;omega) ?_)
       intro g cap w1 hown hl
       have hown':OwnV w1 B (.slice (some ⟨g,0,none⟩) ((x i).length+k+1) cap) (ml x i k++[900000000+(i:Int)]):=by rw [HNN.out];exact hown
       obtain ⟨q1,q2,q3⟩:=p2_inner dis hP hlt hYS hown' hl
       rw [HNN.out] at q2
       have hbel2:=And.intro (hbel.1.trans q3.1) (hbel.2.trans q3.2)
       clear hown hown' hl hP hYS q3 hbel
       go_wp2
       go_roundw
       case rel=>exact ⟨k+1,by omega,by go_num,q1,by rw [HNN.out];exact q2,hbel2⟩
       case measure=>simp [intOf];omega
      ·obtain rfl:k=20:=by omega
       have hform:∃ g cap,u7 = .slice (some ⟨g,0,none⟩) (n+20) cap:=by
        rcases hYS.2 with ⟨h0,_⟩|⟨g,cap,_,e⟩|⟨g,cap,e,_⟩
        ·omega
        ·exact ⟨g,cap,by rw [e,HNN.out]⟩
        ·exact ⟨g,cap,by rw [e,HNN.out]⟩
       obtain ⟨g,cap,rfl⟩:=hform
       have hBr:=hP.hB
       go_wp2_with (at_builtin;refine qZ _ rfl _ _ rfl B u5 i Y rfl (World.ownsRow.alloc hP.tl _) wr.heap.size _ (.slice (some ⟨g,0,none⟩) (n+20) cap) rfl (qX rfl) rfl (by omega) (by simp;omega) (wr.heap.size+1) (by simp) ?_)
       intro g2 cap2 w1 hown hgrow hat _
       obtain ⟨q1,q2⟩:=p2_outer dis hP hlt hYS hown hgrow hat
       have hbel2:=And.intro (hbel.1.trans q2.1) (hbel.2.trans q2.2)
       clear hown hgrow hat hP hYS q2 hbel
       go_wp2
       go_roundw
       case rel=>exact ⟨i+1,_,by omega,by go_num,q1,hbel2⟩
       case measure=>simp [intOf];omega
    ·obtain rfl:i=m:=by omega
     clear hlt hi
     go_wp2
     go_loop [9] (fun s=>∃ q:Nat,q≤i∧s = .int .i64 q) (fun s=>i-(intOf s).toNat)
     case atStart=>exact ⟨0,Nat.zero_le _,rfl⟩
     case round =>
      obtain ⟨q,hq,rfl⟩:=hrel
      by_cases hqi:q<i
      ·obtain ⟨gL,capL,rfl,hTL,hcL⟩:=hP.tl.row (by omega)
       have hlq:=hx q hqi
       have hql:(q:Int)<(i:Int):=by omega
       obtain ⟨n,hn⟩:∃ n,(x q).length=n:=⟨_,rfl⟩
       rw [hn] at hlq
       have c1:=hP.T.cell hqi
       have c2:=hTL.cell hqi
       have o1:=hP.ov q hqi
       have o2:=hP.oY q hqi
       obtain ⟨a1,cap1,e1⟩:=iE o1 (bT q _)
       obtain ⟨a2,cap2,e2⟩:=iE o2 (nJ x q 20)
       rw [hn] at e1 e2
       rw [e1] at c1 o1
       rw [e2] at c2 o2
       obtain ⟨g2,rfl,r2⟩:=qA o2 (by omega)
       have HNN:Hid ((x q).length=n):=hn
       clear hn e1 e2
       go_wp2
       go_loop [10,11] (fun s _=>∃ k:Nat,k≤n+20∧s = .int .i64 k) (fun s _=>n+20-(intOf s).toNat)
       case atStart=>exact ⟨0,Nat.zero_le _,rfl⟩
       case round =>
        obtain ⟨k,hk,rfl⟩:=hrel
        by_cases hk20:k<n+20
        ·have hk2:(k:Int)<(n:Int)+20:=by omega
         have d2:=r2.cell (i:=k) (by rw [nJ,HNN.out];exact hk20)
         by_cases hkn:k<n
         ·have hkl:(k:Int)<(n:Int):=by omega
          obtain ⟨g1,rfl,r1⟩:=qA o1 (by omega)
          have d1:=r1.cell (i:=k) (by rw [bT,HNN.out];exact hkn)
          rw [lm_mk (by rw [HNN.out];exact hkn)] at d1
          rw [lm_ml_lt HNN.out hkn] at d2
          have t1:(1000000*(q:Int)+k+7 != 1000000*(q:Int)+k+7)=false:=by simp
          clear r1 r2 o1 o2 hTL
          go_wp2
          go_round
          case rel=>exact ⟨k+1,by omega,by go_num⟩
          case measure=>simp [intOf];omega
         ·have hkl:¬ (k:Int)<(n:Int):=by omega
          rw [lm_ml_ge HNN.out (by omega) hk20] at d2
          have t1:(900000000+(q:Int) != 900000000+(q:Int))=false:=by simp
          clear r2 o1 o2 hTL
          go_wp2
          go_round
          case rel=>exact ⟨k+1,by omega,by go_num⟩
          case measure=>simp [intOf];omega
        ·obtain rfl:k=n+20:=by omega
         clear r2 o1 o2 hTL
         go_wp2
         go_round
         case rel=>exact ⟨q+1,by omega,by go_num⟩
         case measure=>simp [intOf];omega
      ·clear hP
       go_wp2
       go_ret
       exact ⟨rfl,hbel⟩
end Go.Proofs.YtdcocflnafcikaaGreatDoor

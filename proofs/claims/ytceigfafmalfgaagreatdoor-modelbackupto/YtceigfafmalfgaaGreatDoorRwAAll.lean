import Derived.Test.YtceigfafmalfgaaGreatDoorRatAll
import Derived.Test.YtceigfafmalfgaaGreatDoorNumAll
import Derived.Test.YtceigfafmalfgaaGreatDoorPqCAll
import Derived.Test.YtceigfafmalfgaaGreatDoorDivAll
import Derived.Test.YtceigfafmalfgaaGreatDoorPqAAll
import Derived.Test.YtceigfafmalfgaaGreatDoorGsAAll
namespace Go.Proofs.YtceigfafmalfgaaGreatDoor
open Go.RowKit
def Rw (t:TypeId) (w:World) (R:Nat) (cs:Array Value):Prop:=w.heap[R]? = some (.cells cs t (0,0))
theorem Rw.lt {t:TypeId} {w:World} {R:Nat} {cs:Array Value} (h:Rw t w R cs):R<w.heap.size:=(Array.getElem?_eq_some_iff.1 h).1
theorem Rw.new (t:TypeId) (w:World) (cs:Array Value):Rw t (w.alloc (.cells cs t)) w.heap.size cs:=heap_alloc_new _ _
theorem Rw.below {t:TypeId} {w w':World} {R:Nat} {cs:Array Value} (h:Rw t w R cs) (hb:Below w.heap.size w w'):Rw t w' R cs:=(hb.block R h.lt).trans h
theorem Rw.off {t:TypeId} {w w':World} {R g:Nat} {cs:Array Value} (h:Rw t w R cs) (o:Off g w w') (hg:R≠g):Rw t w' R cs:=(o.block R hg).trans h
theorem Rw.alloc {t:TypeId} {w:World} {R:Nat} {cs:Array Value} (h:Rw t w R cs) (o:Obj):Rw t (w.alloc o) R cs:=h.below ((Below.refl _ _).alloc (Nat.le_refl _) _)
theorem Rw.cell {t:TypeId} {w:World} {R:Nat} {cs:Array Value} (h:Rw t w R cs) (j:Nat):w.cell? ⟨R,j,none⟩=cs[j]?:=cell_of_row w R j cs t _ h
theorem Rw.frozen {t:TypeId} {w:World} {R:Nat} {cs:Array Value} (h:Rw t w R cs) (j:Nat):w.frozen? ⟨R,j,none⟩=false:=frozen_of_row w R j cs t h
theorem Rw.row {t:TypeId} {w:World} {R:Nat} {cs:Array Value} (h:Rw t w R cs) (cs':Array Value):Rw t (w.setRow R cs') R cs'∧Off R w (w.setRow R cs') :=
 ⟨setRow_heap w R cs cs' t _ h,⟨rfl,rfl,rfl,by simp,fun k hk=>setRow_other w R k cs' hk⟩⟩
theorem Rw.put {t:TypeId} {w:World} {R:Nat} {old:Array Value} (h:Rw t w R old) (cs:Array Value) {ops:Array Oper} {rest:List Oper} {o:Oper} {a:Act} {Q:Exit→Act→World→Prop} (hgd:o.guard=none) (x y:Operand) (ho:o.op = .store t x y)
  (hx:a.eval x = .pointer (some ⟨R,0,none⟩)) (hy:a.eval y = .agg cs) (hi:(Tryz.prog.info? t).map (·.size)=some cs.size) (hold:old.size=cs.size) (h1:cs.all (·.oneCell')=true)
  (hK:∀ w',Rw t w' R cs→Off R w w'→wpList Tryz.prog ops Q rest (a.put o.dst undef) w'):wpList Tryz.prog ops Q (o::rest) a w :=
 wpList_store_row hgd t x y ho R cs hx hy t old h hi hold h1 (hK _ (h.row cs).1 (h.row cs).2)
theorem Rw.get {t:TypeId} {w:World} {R:Nat} {cs:Array Value} (h:Rw t w R cs) {ops:Array Oper} {rest:List Oper} {o:Oper} {a:Act} {Q:Exit→Act→World→Prop} (hgd:o.guard=none) (x:Operand) (ho:o.op = .load t x)
  (hx:a.eval x = .pointer (some ⟨R,0,none⟩)) {fs} (hu:Tryz.prog.underlying t=some (.struct fs)) (hi:(Tryz.prog.info? t).map (·.size)=some cs.size)
  (hK:wpList Tryz.prog ops Q rest (a.put o.dst (.agg cs)) w):wpList Tryz.prog ops Q (o::rest) a w :=
 wpList_load_row hgd t x ho R hx t cs _ (.struct fs) h hu rfl hi hK
theorem Rw.ret2 {fn:Func} {p q:Tmp} {ty:TypeId} (h:fn.results = #[.cell p ty,.tmp q]) (tmps:Array Value) {w:World} {g:Nat} {cs:Array Value} (hr:Rw ty w g cs)
  (hp:tmps.getD p undef = .pointer (some ⟨g,0,none⟩)) {fs} (hu:Tryz.prog.underlying ty=some (.struct fs)) (hi:(Tryz.prog.info? ty).map (·.size)=some cs.size) :
  (results fn tmps).run Tryz.prog w = .ok (.tuple #[.agg cs,tmps.getD q undef]) w:=by
 have hp':tmps[p]?.getD undef = .pointer (some ⟨g,0,none⟩):=by simpa using hp
 simp [results,h,hp',asAddr,run_loadVar_row w g ty ty cs _ (.struct fs) hr hu rfl hi]
theorem Rw.ret1 {fn:Func} {p:Tmp} {ty:TypeId} (h:fn.results = #[.cell p ty]) (tmps:Array Value) {w:World} {g:Nat} {cs:Array Value} (hr:Rw ty w g cs)
  (hp:tmps.getD p undef = .pointer (some ⟨g,0,none⟩)) {fs} (hu:Tryz.prog.underlying ty=some (.struct fs)) (hi:(Tryz.prog.info? ty).map (·.size)=some cs.size) :
  (results fn tmps).run Tryz.prog w = .ok (.agg cs) w:=results_cell_row h tmps w g ty cs _ (.struct fs) hp hr hu rfl hi
theorem Off.grown {R:Nat} {w w':World} (h:Off R w w'):w.grownBy w' (some R):=⟨h.os,h.tape,h.output,Nat.le_of_eq h.size.symm,fun k _ hk=>h.block k fun e=>hk (by rw [e])⟩
def NoW (w:World) (row:Option Nat):Prop:=∀ g,row=some g→∃ cur T,w.heap[g]? = some (.cells cur T (0,0))∧T≠57
theorem Rw.noW {t:TypeId} {w:World} {R:Nat} {cs:Array Value} (h:Rw t w R cs) (ht:t≠57):NoW w (some R):=fun g e=>by cases e;exact ⟨cs,t,h,ht⟩
theorem SL.noW {w:World} {B:Nat} {T:TypeId} {c:Nat} {v:Value} {n:Nat} {E:Nat→List Value} (h:SL w B T c v n E) (ht:T≠57):NoW w v.ownBlock:=by
 intro g e
 obtain ⟨vs,h1,_⟩:=h
 rcases h1.2 with ⟨rfl,_⟩|⟨g',cap,cur,e1,_,f1,_⟩
 ·cases e
 ·subst e1
  simp [Value.ownBlock] at e
  subst e
  exact ⟨cur,T,f1,ht⟩
theorem Got.keep {w w':World} {B:Nat} {v:Value} {x:Int} {S:Nat} (h:Got w B v x S) {row:Option Nat} (hn:NoW w row) (hg:w.grownBy w' row):Got w' B v x S:=by
 obtain ⟨xs,h1,h2⟩:=h
 refine ⟨xs,World.ownsRow.kept h1 hg ?_,h2⟩
 rcases h1.2 with ⟨e1,_⟩|⟨g1,c1,cur1,e1,_,f1,_⟩
 ·subst e1;exact .inl rfl
 ·refine .inr fun e=>?_
  subst e1
  obtain ⟨cur,T,f2,hT⟩:=hn g1 (by rw [← e];rfl)
  rw [f1] at f2
  simp only [Option.some.injEq,Obj.cells.injEq] at f2
  exact hT f2.2.1.symm
theorem GR.keep {w w':World} {B:Nat} {f:Bool} {c:Option Addr} {n k:Nat} {c':Option Addr} {n' k':Nat} {r:Rat} {S:Nat} (h:GR w B f c n k c' n' k' r S) {row:Option Nat} (hn:NoW w row) (hg:w.grownBy w' row):GR w' B f c n k c' n' k' r S:=by
 refine ⟨?_,h.2.keep hn hg,h.3⟩
 obtain ⟨a,n2,c2,h1,h2⟩:=h.1
 exact ⟨a,n2,c2,h1,h2.keep hn hg⟩
theorem Rw.kept {t:TypeId} {w w':World} {R:Nat} {cs:Array Value} (h:Rw t w R cs) {row:Option Nat} (hg:w.grownBy w' row) (hne:row≠some R):Rw t w' R cs:=(hg.block R h.lt (fun e=>hne e.symm)).trans h
theorem SL.neR {w:World} {B:Nat} {T t:TypeId} {c:Nat} {v:Value} {n:Nat} {E:Nat→List Value} (h:SL w B T c v n E) {R:Nat} {cs:Array Value} (hr:Rw t w R cs) (ht:T≠t):v.ownBlock≠some R:=by
 intro e
 obtain ⟨vs,h1,_⟩:=h
 rcases h1.2 with ⟨rfl,_⟩|⟨g',cap,cur,e1,_,f1,_⟩
 ·cases e
 ·subst e1
  simp [Value.ownBlock] at e
  subst e
  unfold Rw at hr
  rw [f1] at hr
  simp only [Option.some.injEq,Obj.cells.injEq] at hr
  exact ht hr.2.1
theorem Near.grown {g:Nat} {a b c:World} (h:Near g a b) {row:Option Nat} (hg:b.grownBy c row) (hr:∀ k,row=some k→a.heap.size≤k):Near g a c :=
 ⟨hg.os.trans h.os,hg.tape.trans h.tape,hg.output.trans h.output,Nat.le_trans h.size hg.size,fun k hk hne=>(hg.block k (Nat.lt_of_lt_of_le hk h.size) (fun e=>by have:=hr k e.symm;omega)).trans (h.block k hk hne)⟩
theorem Near.grow {g:Nat} {a b:World} (h:Near g a b):a.grownBy b (some g):=⟨h.os,h.tape,h.output,h.size,fun k hk hne=>h.block k hk (fun e=>hne (by rw [e]))⟩
theorem Near.box {g:Nat} {a b:World} (h:Near g a b) {R:Nat} {cs:List Value} (hB:BoxC a R cs) (hR:R<a.heap.size) (hne:R≠g):BoxC b R cs:=fun i u hu=>(World.cell?_of_block (w:=a) (h.block R hR hne)).trans (hB i u hu)
theorem Near.rw {g:Nat} {a b:World} (h:Near g a b) {t:TypeId} {R:Nat} {cs:Array Value} (hB:Rw t a R cs) (hne:R≠g):Rw t b R cs:=(h.block R hB.lt hne).trans hB
theorem wp_appendS (w:World) {o:Oper} {a:Act} {K:Act→World→Prop} {Q:Exit→Act→World→Prop} (s x:Operand) (L T:TypeId) (c y:Nat)
  (ho:o.op = .call { callee:=.builtin .append,args:=#[s,x],argTypes:=#[L,L] }) (hL:Tryz.prog.underlying L=some (.slice T)) (hI:Inf T c y) (hc0:0<c) (hy:y≤1000)
  (B:Nat) (v:Value) (n:Nat) (E:Nat→List Value) (hs:a.eval s=v) (hown:SL w B T c v n E) (h k:Nat) (hx:a.eval x = .slice (some ⟨h,0,none⟩) 1 k)
  (cs:List Value) (hcs:cs.length=c) (h1:∀ u ∈ cs,u.oneCell'=true) (hbox:BoxC w h cs)
  (hlen:n≤1000000000) (hB:B≤w.heap.size) (H:Nat) (hH:w.heap.size=H)
  (hK:∀ g cap w',SL w' B T c (.slice (some ⟨g,0,none⟩) (n+1) cap) (n+1) (fun i=>if i<n then E i else cs)→w.grownBy w' v.ownBlock→(v.ownBlock=some g∨g=H)→g<w'.heap.size→K (a.put o.dst (.slice (some ⟨g,0,none⟩) (n+1) cap)) w') :
  Oper.wp Tryz.prog o a w K Q:=by
 obtain ⟨vs,g1,g2⟩:=hown
 obtain ⟨i0,z,hi,hz,hs3,hb56,hz3⟩:=hI
 have hyn:(n+1)*y≤1000000001*1000:=Nat.mul_le_mul (by omega) hy
 refine wp_append_lies w s x L ho B T i0 z c y hL hi hz hs3 hb56 hz3 hc0 v n vs hs g1 ⟨h,0,none⟩ 1 k cs hx (by omega) ?_ h1 (by decide) (by unfold maxLen;omega) (by omega) hB H hH ?_
 ·intro j u hj
  have:=hbox j u hj
  by_cases e:j=0
  ·subst e;simpa [Addr.add] using this
  ·simpa [Addr.add,e] using this
 ·intro g cap w' r1 r2 r3 r4
  exact hK g cap w' ⟨_,r1,sl_app g1.1 hcs g2⟩ r2 r3 r4
theorem NG.keep {w w':World} {lo hi:Nat} {l:List Value} {r:Rat} {S:Nat} (h:NG w lo hi l r S) {row:Option Nat} (hn:NoW w row) (hg:w.grownBy w' row):NG w' lo hi l r S:=by
 obtain ⟨p,a,na,ca,d,nd,cd,e,h1,h2⟩:=h
 exact ⟨p,a,na,ca,d,nd,cd,e,h1.keep hn hg,h2⟩
theorem GR.ng {w:World} {B:Nat} {f:Bool} {c:Option Addr} {n k:Nat} {c':Option Addr} {n' k':Nat} {r:Rat} {S:Nat} (h:GR w B f c n k c' n' k' r S):NG w B w.heap.size [.bool f,.slice c n k,.slice c' n' k'] r S :=
 ⟨f,c,n,k,c',n',k',rfl,h,fun g hg=>(h.blk g hg).2⟩
theorem NG.gr {w:World} {lo hi:Nat} {f:Bool} {c:Option Addr} {n k:Nat} {c':Option Addr} {n' k':Nat} {r:Rat} {S:Nat} (h:NG w lo hi [.bool f,.slice c n k,.slice c' n' k'] r S):GR w lo f c n k c' n' k' r S:=by
 obtain ⟨p,a,na,ca,d,nd,cd,e,h1,_⟩:=h
 simp only [List.cons.injEq,Value.bool.injEq,Value.slice.injEq,and_true] at e
 obtain ⟨rfl,⟨rfl,rfl,rfl⟩,rfl,rfl,rfl⟩:=e
 exact h1
def TCA (w:World) (lo hi:Nat) (cs:List Value) (t:PT) (Y:Nat):Prop:=∃ l,cs = .int .i64 t.var::l∧NG w lo hi l t.coef Y
def CTm (w:World) (B C m:Nat) (E:Nat→List Value) (u:Nat→PT) (Yf:Int→Nat):Prop:=∃ lo:Nat→Nat,(∀ q,q<m→lo q≤lo (q+1)∧TCA w (lo q) (lo (q+1)) (E q) (u q) (Yf (u q).var))∧B≤lo 0∧lo m≤C
theorem CTm.nil {w:World} {B C:Nat} (h:B≤C) (E:Nat→List Value) (u:Nat→PT) (Yf:Int→Nat):CTm w B C 0 E u Yf:=⟨fun _=>B,fun q hq=>by omega,Nat.le_refl _,h⟩
theorem CTm.below {w w':World} {B C m:Nat} {E:Nat→List Value} {u:Nat→PT} {Yf:Int→Nat} (h:CTm w B C m E u Yf) (hb:Below w.heap.size w w'):CTm w' B C m E u Yf:=by
 obtain ⟨lo,h1,h2⟩:=h
 refine ⟨lo,fun q hq=>⟨(h1 q hq).1,?_⟩,h2⟩
 obtain ⟨l,e,g⟩:=(h1 q hq).2
 exact ⟨l,e,g.below hb⟩
theorem CTm.keep {w w':World} {B C m:Nat} {E:Nat→List Value} {u:Nat→PT} {Yf:Int→Nat} (h:CTm w B C m E u Yf) {row:Option Nat} (hn:NoW w row) (hg:w.grownBy w' row):CTm w' B C m E u Yf:=by
 obtain ⟨lo,h1,h2⟩:=h
 refine ⟨lo,fun q hq=>⟨(h1 q hq).1,?_⟩,h2⟩
 obtain ⟨l,e,g⟩:=(h1 q hq).2
 exact ⟨l,e,g.keep hn hg⟩
theorem CTm.up {w:World} {B C C' m:Nat} {E:Nat→List Value} {u:Nat→PT} {Yf:Int→Nat} (h:CTm w B C m E u Yf) (hC:C≤C'):CTm w B C' m E u Yf:=by
 obtain ⟨lo,h1,h2,h3⟩:=h
 exact ⟨lo,h1,h2,Nat.le_trans h3 hC⟩
theorem CTm.down {w:World} {B B' C m:Nat} {E:Nat→List Value} {u:Nat→PT} {Yf:Int→Nat} (h:CTm w B C m E u Yf) (hB:B'≤B):CTm w B' C m E u Yf:=by
 obtain ⟨lo,h1,h2,h3⟩:=h
 exact ⟨lo,h1,Nat.le_trans hB h2,h3⟩
theorem CTm.snoc {w:World} {B C C' D m:Nat} {E:Nat→List Value} {u:Nat→PT} {Yf:Int→Nat} (h:CTm w B C m E u Yf) (hC:C≤C') (hD:C'≤D) {cs:List Value} {t:PT} (ht:TCA w C' D cs t (Yf t.var)):CTm w B D (m+1) (fun i=>if i<m then E i else cs) (fun q=>if q<m then u q else t) Yf:=by
 obtain ⟨lo,h1,h2,h3⟩:=h
 have L0:=RA.le0 (fun i hi=>(h1 i hi).1)
 refine ⟨fun i=>if i<m then lo i else if i=m then C' else D,fun q hq=>?_,?_,?_⟩
 ·rcases (by omega:q<m∨q=m) with hq'|rfl
  ·obtain ⟨k0,l,e,g⟩:=h1 q hq'
   simp only [hq',if_true]
   have hle:lo (q+1)≤(if q+1<m then lo (q+1) else if q+1=m then C' else D):=by
    by_cases h7:q+1<m
    ·rw [if_pos h7];exact Nat.le_refl _
    ·have h8:q+1=m:=by omega
     rw [if_neg h7,if_pos h8,h8];omega
   exact ⟨Nat.le_trans k0 hle,l,e,g.up hle⟩
  ·have e1:¬ q+1<q:=by omega
   have e2:¬ q+1=q:=by omega
   simp only [Nat.lt_irrefl,if_false,if_true,e1,e2]
   exact ⟨hD,ht⟩
 ·by_cases h7:0<m
  ·simp only [h7,if_true];exact h2
  ·obtain rfl:m=0:=by omega
   simp only [Nat.lt_irrefl,if_false,if_true];omega
 ·have e1:¬ m+1<m:=by omega
  have e2:¬ m+1=m:=by omega
  simp only [e1,e2,if_false];exact Nat.le_refl _
def TLA (w:World) (a b:Nat) (v:Value) (m:Nat) (u:Nat→PT) (Yf:Int→Nat):Prop:=∃ E,SL w a 56 4 v m E∧CTm w a b m E u Yf∧∀ g,v.ownBlock=some g→g<b
theorem TLA.below {w w':World} {a b:Nat} {v:Value} {m:Nat} {u:Nat→PT} {Yf:Int→Nat} (h:TLA w a b v m u Yf) (hb:Below w.heap.size w w'):TLA w' a b v m u Yf:=by
 obtain ⟨E,h1,h2,h3⟩:=h
 exact ⟨E,h1.below hb,h2.below hb,h3⟩
theorem TLA.keep {w w':World} {a b:Nat} {v:Value} {m:Nat} {u:Nat→PT} {Yf:Int→Nat} (h:TLA w a b v m u Yf) {row:Option Nat} (hn:NoW w row) (hne:∀ g,v.ownBlock=some g→row≠some g) (hg:w.grownBy w' row):TLA w' a b v m u Yf:=by
 obtain ⟨E,h1,h2,h3⟩:=h
 exact ⟨E,h1.kept hg hne,h2.keep hn hg,h3⟩
theorem TLA.form {w:World} {a b:Nat} {v:Value} {m:Nat} {u:Nat→PT} {Yf:Int→Nat} (h:TLA w a b v m u Yf):∃ a' cap,v = .slice a' m cap∧m≤cap:=by
 obtain ⟨E,h1,_⟩:=h
 exact h1.form
end Go.Proofs.YtceigfafmalfgaaGreatDoor

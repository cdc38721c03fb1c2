import Derived.Test.YtgdilnljjgdinaaGreatDoorLaG
namespace Go.Proofs.YtgdilnljjgdinaaGreatDoor
open Go.RowKit
def NmX (W:World) (lo hi:Nat) (l:List Value):Prop:=∃ (f:Bool) (u v:Value) (xs ys:List Int),l=[.bool f,u,v]∧OwnV W lo u xs∧OwnV W lo v ys∧xs.length≤1000000000∧ys.length≤1000000000∧(∀ g,u.ownBlock=some g∨v.ownBlock=some g→lo≤g∧g<hi)∧NB u v
def nmE (u:List Value):List Value:=(u.drop 2).take 3
theorem TkB.nmx {W:World} {lo hi:Nat} {u:List Value} {t:Tok} (h:TkB W lo hi u t):NmX W lo hi (nmE u):=by
 obtain ⟨f,a1,n1,k1,a2,n2,k2,rfl,h2,h3⟩:=h
 rcases h2 with ⟨_,h⟩|⟨_,_,rfl,rfl,rfl,rfl,rfl,rfl,rfl⟩
 ·obtain ⟨xs,x1,x2,x3,x4⟩:=h.1.parts.2
  obtain ⟨ys,y1,y2,y3,y4⟩:=h.2
  exact ⟨f,_,_,xs,ys,rfl,x1,y1,by omega,by omega,h3,h.3⟩
 ·exact ⟨false,_,_,[],[],rfl,OwnV.nil _ _,OwnV.nil _ _,by simp,by simp,fun g hg=>by simp [Value.ownBlock] at hg,fun g hg=>by simp [Value.ownBlock] at hg⟩
theorem NmX.mono {W:World} {lo hi:Nat} {l:List Value} (h:NmX W lo hi l):∀ {B:Nat},B≤lo→∃ (f:Bool) (u v:Value) (xs ys:List Int),l=[.bool f,u,v]∧OwnV W B u xs∧OwnV W B v ys∧xs.length≤1000000000∧ys.length≤1000000000∧(∀ g,u.ownBlock=some g∨v.ownBlock=some g→lo≤g∧g<hi)∧NB u v:=by
 intro B hB
 obtain ⟨f,u,v,xs,ys,e,h1,h2,h3,h4,h5,h6⟩:=h
 exact ⟨f,u,v,xs,ys,e,h1.mono hB,h2.mono hB,h3,h4,h5,h6⟩
theorem apartE {va:Option Addr} {n vc B C:Nat} {E:Nat→List Value} {lo hi:Nat→Nat} (w:World) (hB:B≤C) (hC:C≤w.heap.size) (hL:SL w C 44 3 (.slice va n vc) n E) (hE:∀ i,i<n→B≤lo i∧NmX w (lo i) (hi i) (E i)) (ho:∀ i j,i<j→j<n→hi i≤lo j) (hn:n≤1000000) :
  Calls Tryz.prog 23 #[.slice va n vc] w fun e w'=>e = .returned (.bool true)∧Below B w w'∧KN w w':=by
 have hsk:∀ i,∃ q:(Bool × Value × Value × List Int × List Int),i<n→E i=[.bool q.1,q.2.1,q.2.2.1]∧OwnV w B q.2.1 q.2.2.2.1∧OwnV w B q.2.2.1 q.2.2.2.2∧q.2.2.2.1.length≤1000000000∧q.2.2.2.2.length≤1000000000∧(∀ g,q.2.1.ownBlock=some g∨q.2.2.1.ownBlock=some g→lo i≤g∧g<hi i)∧NB q.2.1 q.2.2.1:=fun i=>by
  by_cases h:i<n
  ·obtain ⟨f,u,v,xs,ys,e,h1,h2,h3,h4,h5,h6⟩:=(hE i h).2.mono (hE i h).1
   exact ⟨(f,u,v,xs,ys),fun _=>⟨e,h1,h2,h3,h4,h5,h6⟩⟩
  ·exact ⟨(false,.bool false,.bool false,[],[]),fun e=>absurd e h⟩
 obtain ⟨q,hq⟩:=Classical.skolem.1 hsk
 have ev:∀ i,(i+i)/2=i∧(i+i+1)/2=i∧(i+i)%2=0∧(i+i+1)%2=1:=fun i=>by omega
 refine (apartD (B:=B) (F:=fun i=>(q i).1) (V:=fun k=>if k%2=0 then (q (k/2)).2.1 else (q (k/2)).2.2.1) (X:=fun k=>if k%2=0 then (q (k/2)).2.2.2.1 else (q (k/2)).2.2.2.2) w (by omega) ?_ (fun k hk=>?_) (fun k hk=>?_) (fun i j gi gj hij g e1 e2=>?_) hn)
 ·refine (hL.mono hB).congr fun i hi=>?_
  obtain ⟨a1,a2,a3,a4⟩:=ev i
  simp only [a1,a2,a3,a4]
  rw [if_pos trivial,if_neg (by decide)]
  exact (hq i hi).1
 ·have h:=hq (k/2) (by omega)
  by_cases hp:k%2=0
  ·simp only [if_pos hp];exact h.2.1
  ·simp only [if_neg hp];exact h.2.2.1
 ·have h:=hq (k/2) (by omega)
  by_cases hp:k%2=0
  ·simp only [if_pos hp];exact h.2.2.2.1
  ·simp only [if_neg hp];exact h.2.2.2.2.1
 ·have h1:=hq (i/2) (by omega)
  have h2:=hq (j/2) (by omega)
  have b1:lo (i/2)≤g∧g<hi (i/2):=h1.2.2.2.2.2.1 g (by
   by_cases hp:i%2=0
   ·simp only [if_pos hp] at e1;exact .inl e1
   ·simp only [if_neg hp] at e1;exact .inr e1)
  have b2:lo (j/2)≤g∧g<hi (j/2):=h2.2.2.2.2.2.1 g (by
   by_cases hp:j%2=0
   ·simp only [if_pos hp] at e2;exact .inl e2
   ·simp only [if_neg hp] at e2;exact .inr e2)
  rcases Nat.lt_trichotomy (i/2) (j/2) with h|h|h
  ·have:=ho _ _ h (by omega);omega
  ·have hne:=h1.2.2.2.2.2.2
   rw [← h] at e2
   by_cases hp:i%2=0
   ·have hp2:¬ j%2=0:=by omega
    simp only [if_pos hp] at e1
    simp only [if_neg hp2] at e2
    exact hne g e1 e2
   ·have hp2:j%2=0:=by omega
    simp only [if_neg hp] at e1
    simp only [if_pos hp2] at e2
    exact hne g e2 e1
  ·have:=ho _ _ h (by omega);omega
theorem SL.blk {w:World} {B:Nat} {T:TypeId} {c:Nat} {a:Option Addr} {m n cap:Nat} {E:Nat→List Value} (h:SL w B T c (.slice a m cap) n E) (hn:0<n):∃ g,a=some ⟨g,0,none⟩∧B≤g∧g<w.heap.size∧∀ j,w.frozen? ⟨g,j,none⟩=false:=by
 obtain ⟨vs,h1,h2⟩:=h
 rcases h1.2 with ⟨_,e⟩|⟨g,cap2,cur,e,hg,hgb,_⟩
 ·omega
 ·simp only [Value.slice.injEq] at e
  exact ⟨g,e.1,hg,(Array.getElem?_eq_some_iff.1 hgb).1,fun j=>frozen_of_row w g j cur T hgb⟩
theorem SL.kn {w w':World} {B:Nat} {T:TypeId} {c:Nat} {v:Value} {n:Nat} {E:Nat→List Value} (h:SL w B T c v n E) (k:KN w w') (h1:T≠113) (h2:T≠40):SL w' B T c v n E:=by
 obtain ⟨vs,r,hc⟩:=h
 refine ⟨vs,⟨r.1,?_⟩,hc⟩
 rcases r.2 with hn|⟨g,cap,cur,e1,e2,hgb,rest⟩
 ·exact .inl hn
 ·exact .inr ⟨g,cap,cur,e1,e2,k.1 g cur T h1 h2 hgb,rest⟩
theorem SL.setc {w:World} {B:Nat} {T:TypeId} {c:Nat} {a:Option Addr} {m n cap:Nat} {E:Nat→List Value} (h:SL w B T c (.slice a m cap) n E) {g i j:Nat} (hg:a=some ⟨g,0,none⟩) (hi:i<n) (hj:j<c) (u:Value) :
  SL (w.setCell ⟨g,i*c+j,none⟩ u) B T c (.slice a m cap) n (fun k=>if k=i then (E i).set j u else E k):=by
 subst hg
 obtain ⟨vs,h1,h2⟩:=h
 have hlt:i*c+j<n*c:=by
  have:(i+1)*c≤n*c:=Nat.mul_le_mul_right c hi
  rw [Nat.add_mul,Nat.one_mul] at this
  omega
 refine ⟨vs.set (i*c+j) u,⟨by rw [List.length_set];exact h1.1,?_⟩,fun k hk q x hx=>?_⟩
 ·rcases h1.2 with ⟨_,e⟩|⟨g2,cap2,cur,e,hB,hgb,q1,q2,q3,q4⟩
  ·omega
  ·simp only [Value.slice.injEq,Option.some.injEq,Addr.mk.injEq] at e
   obtain ⟨⟨rfl,_,_⟩,rfl,rfl⟩:=e
   refine .inr ⟨g,cap,cur.setIfInBounds (i*c+j) u,rfl,hB,heap_setCell_same w g (i*c+j) cur T u hgb,q1,q2,by rw [Array.size_setIfInBounds];exact q3,?_⟩
   rw [← q4,Array.toList_setIfInBounds,List.take_set]
 ·by_cases e:k=i
  ·subst e
   simp only [if_true] at hx
   rw [List.getElem?_set] at hx
   by_cases hq:j=q
   ·subst hq
    rw [if_pos rfl] at hx
    split at hx
    ·refine ⟨hj,?_⟩
     rw [List.getElem?_set,if_pos rfl,if_pos (by rw [h1.1];exact hlt)]
     exact hx
    ·cases hx
   ·rw [if_neg hq] at hx
    obtain ⟨k1,k2⟩:=h2 k hi q x hx
    refine ⟨k1,?_⟩
    rw [List.getElem?_set,if_neg (by omega)]
    exact k2
  ·simp only [if_neg e] at hx
   obtain ⟨k1,k2⟩:=h2 k hk q x hx
   refine ⟨k1,?_⟩
   have hne:¬ i*c+j=k*c+q:=fun h=>by
    rcases Nat.lt_or_gt_of_ne e with h3|h3
    ·have:(k+1)*c≤i*c:=Nat.mul_le_mul_right c h3
     rw [Nat.add_mul,Nat.one_mul] at this
     omega
    ·have:(i+1)*c≤k*c:=Nat.mul_le_mul_right c h3
     rw [Nat.add_mul,Nat.one_mul] at this
     omega
   rw [List.getElem?_set,if_neg hne]
   exact k2
def tkK (z:Int):List Value:=[.int .i64 z,.string ⟨#[]⟩,.bool false,.slice none 0 0,.slice none 0 0,.int .i64 0,.int .i64 0,.int .i64 0]
theorem SL.tok {w:World} {B:Nat} {a:Option Addr} {m n cap:Nat} {E:Nat→List Value} (h:SL w B 46 8 (.slice a m cap) n E) {g i:Nat} (hg:a=some ⟨g,0,none⟩) (hi:i<n) (hl:(E i).length=8) (z:Int) :
  SL ((((((((w.setCell ⟨g,i*8,none⟩ (.int .i64 z)).setCell ⟨g,i*8+1,none⟩ (.string ⟨#[]⟩)).setCell ⟨g,i*8+2,none⟩ (.bool false)).setCell ⟨g,i*8+3,none⟩ (.slice none 0 0)).setCell ⟨g,i*8+4,none⟩ (.slice none 0 0)).setCell ⟨g,i*8+5,none⟩ (.int .i64 0)).setCell ⟨g,i*8+6,none⟩ (.int .i64 0)).setCell ⟨g,i*8+7,none⟩ (.int .i64 0)) B 46 8 (.slice a m cap) n (fun k=>if k=i then tkK z else E k):=by
 have s:=(((((((h.setc (j:=0) hg hi (by decide) (.int .i64 z)).setc (j:=1) hg hi (by decide) (.string ⟨#[]⟩)).setc (j:=2) hg hi (by decide) (.bool false)).setc (j:=3) hg hi (by decide) (.slice none 0 0)).setc (j:=4) hg hi (by decide) (.slice none 0 0)).setc (j:=5) hg hi (by decide) (.int .i64 0)).setc (j:=6) hg hi (by decide) (.int .i64 0)).setc (j:=7) hg hi (by decide) (.int .i64 0)
 refine SL.congr (E:=_) s fun k hk=>?_
 by_cases e:k=i
 ·subst e
  simp only [if_true]
  obtain ⟨L,hL⟩:∃ L,E k=L:=⟨_,rfl⟩
  rw [hL] at hl ⊢
  match L,hl with
  | [_,_,_,_,_,_,_,_],_=>rfl
 ·simp only [if_neg e]
theorem wpList_appendTk (w:World) {ops:Array Oper} {rest:List Oper} {o:Oper} {a:Act} {Q:Exit→Act→World→Prop} (hgd:o.guard=none) (s x:Operand)
  (ho:o.op = .call { callee:=.builtin .append,args:=#[s,x],argTypes:=#[24,24] }) (B:Nat) (v:Value) (n:Nat) (E:Nat→List Value) (hs:a.eval s=v) (hown:SL w B 46 8 v n E) (h k:Nat) (hx:a.eval x = .slice (some ⟨h,0,none⟩) 1 k)
  (cs:List Value) (hcs:cs.length=8) (h1:∀ u ∈ cs,u.oneCell'=true) (hbox:BoxC w h cs) (hlen:n≤1000000000) (hB:B≤w.heap.size)
  (hK:∀ g cap w',SL w' B 46 8 (.slice (some ⟨g,0,none⟩) (n+1) cap) (n+1) (fun i=>if i<n then E i else cs)→Lies w w' v g cap→wpList Tryz.prog ops Q rest (a.put o.dst (.slice (some ⟨g,0,none⟩) (n+1) cap)) w') :
  wpList Tryz.prog ops Q (o::rest) a w:=by
 obtain ⟨vs,g1,g2⟩:=hown
 obtain ⟨i0,z,hi,hz,hs3,hb56,hz3⟩:=infTk
 have hnews:∀ j u,cs[j]? = some u→w.cell? (Addr.add ⟨h,0,none⟩ j)=some u:=fun j u hj=>by
  have:=hbox j u hj
  by_cases e:j=0
  ·subst e;simpa [Addr.add] using this
  ·simpa [Addr.add,e] using this
 have grows:∀ (ao:Option Addr) (cap:Nat),a.eval s = .slice ao n cap→(ao=none→n=0∧cap=0)→(∀ b,ao=some b→∀ j u,vs[j]? = some u→w.cell? (b.add j)=some u)→cap<n+1→wpList Tryz.prog ops Q (o::rest) a w:=by
  intro ao cap hs' hnone holds hfull
  refine wpList_append_grows w hgd s x 24 ho 46 i0 z 8 104 Tryz.underlying24 hi hz hs3 hb56 hz3 (by decide) ao n cap vs hs' hnone g1.1 holds ⟨h,0,none⟩ 1 k cs hx (by omega) hnews h1 hfull (by unfold maxLen;omega) (by omega) ?_
  intro v' w' r1 r2
  obtain ⟨g,cap',rfl,hBg,_⟩:=r1.form (by omega)
  exact hK g cap' w' (SL.mono ⟨_,r1,sl_app g1.1 hcs g2⟩ hB) (.inr ⟨hBg,r2⟩)
 rcases g1.2 with ⟨rfl,rfl⟩|⟨g,cap,cur,rfl,hBg,hgb,q1,q2,q3,q4⟩
 ·exact grows none 0 hs (fun _=>⟨rfl,rfl⟩) (fun b hb=>by cases hb) (by simp)
 ·by_cases hroom:n+1≤cap
  ·refine wpList_append_fits w hgd s x 24 ho B 46 i0 8 Tryz.underlying24 hi hs3 g n cap vs hs g1 ⟨h,0,none⟩ 1 k cs hx (by omega) hnews h1 hroom ?_
   intro w' r1 r2
   exact hK g cap w' ⟨_,r1,sl_app g1.1 hcs g2⟩ (.inl ⟨n,rfl,r2⟩)
  ·refine grows _ cap hs (fun e=>by cases e) ?_ (by omega)
   intro b hb
   cases hb
   exact World.ownsRow.cells g1 rfl
theorem infRatT:Inf 44 3 56:=inf_of (by kernel_rfl)
theorem NmX.below {W W':World} {lo hi:Nat} {l:List Value} (h:NmX W lo hi l) (hb:Below W.heap.size W W'):NmX W' lo hi l:=by
 obtain ⟨f,u,v,xs,ys,e,h1,h2,h3,h4,h5,h6⟩:=h
 exact ⟨f,u,v,xs,ys,e,h1.below hb,h2.below hb,h3,h4,h5,h6⟩
theorem nm_cells {l:List Value} {a b c:Value} (h:nmE l=[a,b,c]):l[2]? = some a∧l[3]? = some b∧l[4]? = some c:=by
 unfold nmE at h
 refine ⟨?_,?_,?_⟩
 ·have:=congrArg (fun l=>l[0]?) h
  simpa using this
 ·have:=congrArg (fun l=>l[1]?) h
  simpa using this
 ·have:=congrArg (fun l=>l[2]?) h
  simpa using this
def KdA (w:World) (a:Option Addr) (n:Nat) (z:Int):Prop:=n=0∨∃ g,a=some ⟨g,0,none⟩∧g<w.heap.size∧∀ q,q<n→w.cell? ⟨g,q*8,none⟩=some (.int .i64 z)
theorem KdA.grown {w w':World} {a:Option Addr} {n:Nat} {z:Int} (h:KdA w a n z) {row:Option Nat} (hg:w.grownBy w' row) (hne:∀ g,a=some ⟨g,0,none⟩→row≠some g):KdA w' a n z:=by
 rcases h with h|⟨g,e,hlt,h⟩
 ·exact .inl h
 ·exact .inr ⟨g,e,Nat.lt_of_lt_of_le hlt hg.size,fun q hq=>(World.cell?_of_block (w:=w) (hg.block g hlt (fun e2=>hne g e e2.symm))).trans (h q hq)⟩
theorem KdA.lies {w w':World} {a:Option Addr} {n N B:Nat} {z:Int} {v:Value} {g cap:Nat} {E:Nat→List Value} (h:KdA w a n z) (hS:SL w' B 46 8 (.slice (some ⟨g,0,none⟩) N cap) N E) (hE:∀ q,q<n→(E q)[0]? = some (.int .i64 z)) (hn:n≤N) (hL:Lies w w' v g cap):KdA w' a n z:=by
 rcases hL with ⟨_,_,hg⟩|⟨_,hg⟩
 ·rcases h with h0|⟨ga,e,hlt,hc⟩
  ·exact .inl h0
  ·by_cases e2:ga=g
   ·subst e2
    rcases hS.cell with h0|⟨g2,e3,hc2⟩
    ·exact .inl (by omega)
    ·simp only [Option.some.injEq,Addr.mk.injEq] at e3
     obtain ⟨rfl,_,_⟩:=e3
     exact .inr ⟨ga,e,Nat.lt_of_lt_of_le hlt hg.size,fun q hq=>hc2 q (by omega) 0 _ (hE q hq)⟩
   ·exact KdA.grown (.inr ⟨ga,e,hlt,hc⟩) hg (fun g' e' e''=>by
     rw [e] at e'
     simp only [Option.some.injEq,Addr.mk.injEq] at e' e''
     omega)
 ·exact h.grown hg (fun _ _ e=>by cases e)
theorem KdA.of_sl {w:World} {B:Nat} {a:Option Addr} {n cap:Nat} {z:Int} {E:Nat→List Value} (hS:SL w B 46 8 (.slice a n cap) n E) (hE:∀ q,q<n→(E q)[0]? = some (.int .i64 z)):KdA w a n z:=by
 by_cases h0:n=0
 ·exact .inl h0
 ·obtain ⟨g,e,_,hlt,_⟩:=hS.blk (by omega)
  rcases hS.cell with h1|⟨g2,e3,hc2⟩
  ·exact .inl h1
  ·exact .inr ⟨g2,e3,by rw [e] at e3;simp only [Option.some.injEq,Addr.mk.injEq] at e3;omega,fun q hq=>hc2 q hq 0 _ (hE q hq)⟩
theorem KdA.below {w w':World} {a:Option Addr} {n:Nat} {z:Int} (h:KdA w a n z) (hb:Below w.heap.size w w'):KdA w' a n z:=by
 rcases h with h|⟨g,e,hlt,h⟩
 ·exact .inl h
 ·exact .inr ⟨g,e,Nat.lt_of_lt_of_le hlt hb.size,fun q hq=>kept_c hb (h q hq)⟩
theorem len8 {l:List Value} (h:l.length=8):∃ e0 e1 e2 e3 e4 e5 e6 e7,l=[e0,e1,e2,e3,e4,e5,e6,e7]:=by
 match l,h with
 | [e0,e1,e2,e3,e4,e5,e6,e7],_=>exact ⟨e0,e1,e2,e3,e4,e5,e6,e7,rfl⟩
def Dfs (a b:Option Addr):Prop:=∀ p q,a=some p→b=some q→p.block≠q.block
theorem Dfs.row {a b:Option Addr} {n m c d:Nat} (h:Dfs a b):∀ g,Value.ownBlock (.slice b m d)=some g→Value.ownBlock (.slice a n c)≠some g:=by
 intro g e1 e2
 cases a with
 | none=>cases e2
 | some p =>
  cases b with
  | none=>cases e1
  | some q =>
   simp only [Value.ownBlock,Option.some.injEq] at e1 e2
   exact h p q rfl rfl (by omega)
theorem Dfs.symm {a b:Option Addr} (h:Dfs a b):Dfs b a:=fun p q e1 e2=>(h q p e2 e1).symm
theorem SL.lies {w w':World} {B:Nat} {a:Option Addr} {n cap:Nat} {E:Nat→List Value} (h:SL w B 46 8 (.slice a n cap) n E) {xa:Option Addr} {xn xc:Nat} {g c:Nat} (hL:Lies w w' (.slice xa xn xc) g c) (hd:Dfs a xa):SL w' B 46 8 (.slice a n cap) n E:=by
 rcases hL with ⟨_,e,hg⟩|⟨_,hg⟩
 ·simp only [Value.slice.injEq] at e
  obtain ⟨rfl,_,_⟩:=e
  refine h.kept hg fun g' e1 e2=>?_
  have:=hd.row (n:=n) (m:=0) (c:=cap) (d:=0) g rfl
  simp only [Option.some.injEq] at e2
  subst e2
  exact this e1
 ·exact h.kept hg fun g' _ e=>by cases e
theorem KdA.other {w w':World} {a:Option Addr} {n:Nat} {z:Int} (h:KdA w a n z) {xa:Option Addr} {xn xc:Nat} {g c:Nat} (hL:Lies w w' (.slice xa xn xc) g c) (hd:Dfs a xa):KdA w' a n z:=by
 rcases hL with ⟨_,e,hg⟩|⟨_,hg⟩
 ·simp only [Value.slice.injEq] at e
  obtain ⟨rfl,_,_⟩:=e
  refine h.grown hg fun g' e1 e2=>?_
  simp only [Option.some.injEq] at e2
  subst e2
  exact hd _ _ e1 rfl rfl
 ·exact h.grown hg fun g' _ e=>by cases e
theorem Dfs.lies {w w':World} {a xa:Option Addr} {xn xc g c:Nat} (hd:Dfs a xa) (hL:Lies w w' (.slice xa xn xc) g c) (ha:∀ p,a=some p→p.block<w.heap.size):Dfs a (some ⟨g,0,none⟩):=by
 intro p q e1 e2
 simp only [Option.some.injEq] at e2
 subst e2
 rcases hL with ⟨_,e,_⟩|⟨hg,_⟩
 ·simp only [Value.slice.injEq] at e
  exact hd p _ e1 e.1
 ·have:=ha p e1
  show p.block≠g
  omega
theorem bel_lies {w w':World} {B:Nat} {xa:Option Addr} {xn xc g c:Nat} (hL:Lies w w' (.slice xa xn xc) g c) (hB:B≤w.heap.size) (hx:∀ p,xa=some p→B≤p.block):Below B w w':=by
 rcases hL with ⟨_,e,hg⟩|⟨_,hg⟩
 ·simp only [Value.slice.injEq] at e
  exact grown_below hg hB fun k e2=>by simp only [Option.some.injEq] at e2;subst e2;exact hx _ e.1
 ·exact grown_below hg hB fun k e2=>by cases e2
theorem SL.ad {w:World} {B:Nat} {T:TypeId} {c:Nat} {a:Option Addr} {m n cap:Nat} {E:Nat→List Value} (h:SL w B T c (.slice a m cap) n E):∀ p,a=some p→B≤p.block∧p.block<w.heap.size:=fun p e=>by subst e;exact h.lt p.block rfl
structure BelO (B:Nat) (w w':World):Prop where
 bel:Below B w w'
 oth:KeepsOthers w w'
theorem BelO.size {B:Nat} {w w':World} (h:BelO B w w'):w.heap.size≤w'.heap.size:=h.bel.size
theorem BelO.of_below {B:Nat} {w w':World} (h:Below w.heap.size w w') (hB:B≤w.heap.size):BelO B w w':=⟨h.mono hB,(KN.of_below h).2⟩
theorem BelO.chain {B:Nat} {a b c:World} (h:BelO B a b) (k:Below B b c) (o:KeepsOthers b c):BelO B a c:=⟨h.bel.trans k,h.oth.trans o⟩
theorem others_lies {w w':World} {B n m c g cap:Nat} {T:TypeId} {xa:Option Addr} {xn xc:Nat} {E:Nat→List Value} (hS:SL w B T c (.slice xa m xc) n E) (hL:Lies w w' (.slice xa xn xc) g cap):KeepsOthers w w':=by
 rcases hL with ⟨_,e,hg⟩|⟨_,hg⟩
 ·simp only [Value.slice.injEq] at e
  obtain ⟨vs,r,hc⟩:=hS
  rcases r.2 with ⟨e2,_⟩|⟨g2,cap2,cur,e1,e2,hgb,rest⟩
  ·simp only [Value.slice.injEq] at e2
   rw [e2.1] at e
   cases e.1
  ·simp only [Value.slice.injEq] at e1
   rw [e1.1] at e
   have hgg:g2=g:=by have h:=e.1;simp only [Option.some.injEq,Addr.mk.injEq] at h;exact h.1
   subst hgg
   refine KeepsOthers.of_grownBy hg fun j o ej ho=>?_
   simp only [Option.some.injEq] at ej
   subst ej
   rw [hgb] at ho
   cases ho
   rfl
 ·exact KeepsOthers.of_grownBy hg fun j o ej _=>by cases ej
end Go.Proofs.YtgdilnljjgdinaaGreatDoor

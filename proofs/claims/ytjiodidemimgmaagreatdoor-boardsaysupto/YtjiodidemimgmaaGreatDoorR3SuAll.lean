import Derived.Test.YtjiodidemimgmaaGreatDoorR3LiAll
import Derived.Test.YtjiodidemimgmaaGreatDoorRatAll
import Derived.Deep.AppendLies
namespace Go.Proofs.YtjiodidemimgmaaGreatDoor
open Go.RowKit
theorem Got.offX {w w':World} {B R:Nat} {v:Value} {x:Int} {S:Nat} (h:Got w B v x S) (ho:Off R w w') (hR:v.ownBlock ≠ some R):Got w' B v x S:=by
 obtain ⟨xs,h1,h2⟩:=h
 refine ⟨xs,?_,h2⟩
 refine ⟨h1.1,?_⟩
 rcases h1.2 with hn | ⟨g,cap,cur,e1,e2,hgb,rest⟩
 ·exact .inl hn
 ·refine .inr ⟨g,cap,cur,e1,e2,(ho.block g (fun e=>hR ?_)).trans hgb,rest⟩
  subst e;rw [e1];rfl
def GX (w:World) (B R:Nat) (f:Bool) (c:Option Addr) (n k:Nat) (c':Option Addr) (n' k':Nat) (r:Rat) (S:Nat):Prop :=
 GR w B f c n k c' n' k' r S∧(Value.slice c n k).ownBlock ≠ some R∧(Value.slice c' n' k').ownBlock ≠ some R
theorem GX.off {w w':World} {B R:Nat} {f:Bool} {c:Option Addr} {n k:Nat} {c':Option Addr} {n' k':Nat} {r:Rat} {S:Nat} (h:GX w B R f c n k c' n' k' r S) (ho:Off R w w'):GX w' B R f c n k c' n' k' r S:=by
 refine ⟨⟨?_,h.1.2.offX ho h.2.2⟩,h.2⟩
 obtain ⟨a',n2,c2,h1,h2⟩:=h.1.1
 simp only [Value.agg.injEq,Array.mk.injEq,List.cons.injEq,and_true] at h1
 obtain ⟨h0,h1⟩:=h1
 simp only [Value.slice.injEq] at h1
 obtain ⟨rfl,rfl,rfl⟩:=h1
 exact ⟨c,n,k,by rw [h0],h2.offX ho h.2.1⟩
theorem GX.below {w w':World} {B R:Nat} {f:Bool} {c:Option Addr} {n k:Nat} {c':Option Addr} {n' k':Nat} {r:Rat} {S:Nat} (h:GX w B R f c n k c' n' k' r S) (hb:Below w.heap.size w w'):GX w' B R f c n k c' n' k' r S:=⟨h.1.below hb,h.2⟩
theorem GI.got {w:World} {B:Nat} {f:Bool} {c:Option Addr} {n k:Nat} {x:Int} {S:Nat} (h:GI w B (.agg #[.bool f,.slice c n k]) x S):Got w B (.slice c n k) (x.natAbs:Int) S:=by
 obtain ⟨a',n2,c2,h1,h2⟩:=h
 simp only [Value.agg.injEq,Array.mk.injEq,List.cons.injEq,and_true] at h1
 obtain ⟨h0,h1⟩:=h1
 simp only [Value.slice.injEq] at h1
 obtain ⟨rfl,rfl,rfl⟩:=h1
 exact h2
theorem GR.gx {w:World} {B R:Nat} {f:Bool} {c:Option Addr} {n k:Nat} {c':Option Addr} {n' k':Nat} {r:Rat} {S:Nat} (h:GR w B f c n k c' n' k' r S) (hR:R < B∨w.heap.size≤R):GX w B R f c n k c' n' k' r S:=by
 refine ⟨h,fun e=>?_,fun e=>?_⟩
 ·have:=h.1.got.lt R e;omega
 ·have:=h.2.lt R e;omega
theorem GX.mono {w:World} {B B' R:Nat} {f:Bool} {c:Option Addr} {n k:Nat} {c':Option Addr} {n' k':Nat} {r:Rat} {S:Nat} (h:GX w B R f c n k c' n' k' r S) (hB:B'≤B):GX w B' R f c n k c' n' k' r S:=⟨h.1.mono hB,h.2⟩
theorem bel_a {w w1:World} {o:Obj} (h:Below w.heap.size w w1):Below w.heap.size w (w1.alloc o):=bel_tr h (bel_d0 _ _)
theorem row_cell {w:World} {g:Nat} {cur:Array Value} {e:TypeId} {vs:List Value} {q j:Nat} {u:Value} (hg:w.heap[g]? = some (.cells cur e (0,0))) (ht:cur.toList.take q = vs) (hj:vs[j]? = some u):w.cell? ⟨g,j,none⟩ = some u:=by
 have hlt:j < q:=by
  have h:=(List.getElem?_eq_some_iff.1 hj).1
  rw [← ht,List.length_take] at h
  omega
 have e1:cur[j]? = some u:=by
  rw [← ht,List.getElem?_take_of_lt hlt] at hj
  rw [← Array.getElem?_toList];exact hj
 simp [World.cell?,hg,e1]
end Go.Proofs.YtjiodidemimgmaaGreatDoor

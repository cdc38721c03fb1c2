import Derived.Test.YtceigfafmalfgaaGreatDoorR3LiAll
import Derived.Test.YtceigfafmalfgaaGreatDoorPqCAll
namespace Go.Proofs.YtceigfafmalfgaaGreatDoor
open Go.RowKit
def NG (w:World) (lo hi:Nat) (l:List Value) (r:Rat) (S:Nat):Prop:=∃ p a na ca d nd cd,l=[.bool p,.slice a na ca,.slice d nd cd]∧GR w lo p a na ca d nd cd r S∧∀ g,(Value.slice a na ca).ownBlock=some g∨(Value.slice d nd cd).ownBlock=some g→g<hi
theorem GR.blk {w:World} {B:Nat} {f:Bool} {c:Option Addr} {n k:Nat} {c':Option Addr} {n' k':Nat} {r:Rat} {S:Nat} (h:GR w B f c n k c' n' k' r S):∀ g,(Value.slice c n k).ownBlock=some g∨(Value.slice c' n' k').ownBlock=some g→B≤g∧g<w.heap.size:=by
 intro g hg
 rcases hg with hg|hg
 ·exact h.1.parts.2.lt g hg
 ·exact h.2.lt g hg
theorem NG.below {w w':World} {lo hi:Nat} {l:List Value} {r:Rat} {S:Nat} (h:NG w lo hi l r S) (hb:Below w.heap.size w w'):NG w' lo hi l r S:=by
 obtain ⟨p,a,na,ca,d,nd,cd,e,h1,h2⟩:=h
 exact ⟨p,a,na,ca,d,nd,cd,e,h1.below hb,h2⟩
theorem NG.up {w:World} {lo hi hi':Nat} {l:List Value} {r:Rat} {S:Nat} (h:NG w lo hi l r S) (hh:hi≤hi'):NG w lo hi' l r S:=by
 obtain ⟨p,a,na,ca,d,nd,cd,e,h1,h2⟩:=h
 exact ⟨p,a,na,ca,d,nd,cd,e,h1,fun g hg=>Nat.lt_of_lt_of_le (h2 g hg) hh⟩
def RA (w:World) (B C:Nat) (v:Value) (n:Nat) (X:Nat→Rat) (S:Nat):Prop :=
 ∃ (E:Nat→List Value) (lo:Nat→Nat),SL w B 27 3 v n E∧(∀ i,i<n→lo i≤lo (i+1)∧NG w (lo i) (lo (i+1)) (E i) (X i) S)∧B≤lo 0∧lo n≤C∧C≤w.heap.size
theorem RA.le0 {n:Nat} {lo:Nat→Nat} (h:∀ i,i<n→lo i≤lo (i+1)):∀ i,i≤n→∀ j,j≤i→lo j≤lo i:=by
 intro i
 induction i with
 | zero =>
  intro _ j hj
  obtain rfl:j=0:=by omega
  exact Nat.le_refl _
 | succ i ih =>
  intro hi j hj
  rcases (by omega:j≤i∨j=i+1) with h1|rfl
  ·have:=ih (by omega) j h1
   have:=h i (by omega)
   omega
  ·exact Nat.le_refl _
end Go.Proofs.YtceigfafmalfgaaGreatDoor

import Derived.Test.YtnokmjmefipplaaGreatDoorWdAll
import Derived.Test.YtnokmjmefipplaaGreatDoorPsB
namespace Go.Proofs.YtnokmjmefipplaaGreatDoor
open Go.RowKit
structure BxV where
 hlo:Bool
 lo:Rat
 hhi:Bool
 hi:Rat
def Prob.box (P:Prob) (B:Nat→BxV):Prob:={ P with V:=fun j=>{ P.V j with hlo:=(B j).hlo,lo:=(B j).lo,hhi:=(B j).hhi,hi:=(B j).hi } }
def box0 (P:Prob) (j:Nat):BxV:=⟨(P.V j).hlo,(P.V j).lo,(P.V j).hhi,(P.V j).hi⟩
theorem aJ5 (P:Prob) (B:Nat→BxV) (X:Nat→Rat):vlu (P.box B) X = vlu P X:=by
 rw [jC,jC]
 rfl
theorem aJ6 (P:Prob) (B:Nat→BxV) (a b:Rat):btr (P.box B) a b↔btr P a b:=Iff.rfl
def gU (B:Nat→BxV) (v:Nat) (a:Int) (j:Nat):BxV:=if j = v then (if (B v).hhi = true∧(B v).hi≤(a:Rat) then B v else ⟨(B v).hlo,(B v).lo,true,(a:Rat)⟩) else B j
def gV (B:Nat→BxV) (v:Nat) (a:Int) (j:Nat):BxV:=if j = v then (if (B v).hlo = true∧((a + 1:Int):Rat)≤(B v).lo then B v else ⟨true,((a + 1:Int):Rat),(B v).hhi,(B v).hi⟩) else B j
theorem aA0 {r:Rat} (h:r.den = 1) (a:Int):r≤(a:Rat)∨((a + 1:Int):Rat)≤r:=by
 have e:r = (r.num:Rat):=by
  have h2:=Rat.num_divInt_den r
  rw [h,Rat.divInt_eq_div] at h2
  have h3:(r.num:Rat) / (((1:Nat):Int):Rat) = (r.num:Rat):=by
   show (r.num:Rat) / (1:Rat) = _
   have h4:=Rat.mul_inv_cancel (1:Rat) (by decide)
   rw [Rat.one_mul] at h4
   rw [Rat.div_def,h4,Rat.mul_one]
  exact h2.symm.trans h3
 rw [e]
 rcases (by omega:a < r.num∨r.num≤a) with h1 | h1
 ·right
  exact Rat.intCast_le_intCast.2 h1
 ·left
  exact Rat.intCast_le_intCast.2 h1
theorem aD7 {P:Prob} {B:Nat→BxV} {v:Nat} {a:Int} {n:Nat} {X:Nat→Rat} (hv:v < P.vn) (hw:(P.V v).whole = true) (h:bY (P.box B) n X) (hW:Whl P n X):bY (P.box (gU B v a)) n X∨bY (P.box (gV B v a)) n X:=by
 obtain ⟨h1,h2,h3⟩:=h
 have hB:=iM.1 (h2 v hv)
 rcases aA0 (hW.2 v hv hw) a with hs | hs
 ·left
  refine ⟨h1,fun j hj=>?_,h3⟩
  show eF (X j) (gU B v a j).hlo (gU B v a j).lo (gU B v a j).hhi (gU B v a j).hi = true
  unfold gU
  by_cases e:j = v
  ·subst e
   rw [if_pos rfl]
   split
   ·exact h2 j hj
   ·exact iM.2 ⟨hB.1,fun _=>hs⟩
  ·rw [if_neg e]
   exact h2 j hj
 ·right
  refine ⟨h1,fun j hj=>?_,h3⟩
  show eF (X j) (gV B v a j).hlo (gV B v a j).lo (gV B v a j).hhi (gV B v a j).hi = true
  unfold gV
  by_cases e:j = v
  ·subst e
   rw [if_pos rfl]
   split
   ·exact h2 j hj
   ·exact iM.2 ⟨fun _=>hs,hB.2⟩
  ·rw [if_neg e]
   exact h2 j hj
def Cov (P:Prob) (B:Nat→BxV) (inf:Bool) (s:Rat):Prop:=∀ n X,bY (P.box B) n X→Whl P n X→inf = false∧¬ btr P (vlu P X) s
theorem Cov.split {P:Prob} {B:Nat→BxV} {v:Nat} {a:Int} {inf:Bool} {s:Rat} (hv:v < P.vn) (hw:(P.V v).whole = true) (hl:Cov P (gU B v a) inf s) (hr:Cov P (gV B v a) inf s):Cov P B inf s:=fun n X h hW=>by
 rcases aD7 (a:=a) hv hw h hW with h1 | h1
 ·exact hl n X h1 hW
 ·exact hr n X h1 hW
theorem Cov.none {P:Prob} {B:Nat→BxV} {inf:Bool} {s:Rat} (h:∀ n X,¬ bY (P.box B) n X):Cov P B inf s:=fun n X hX _=>absurd hX (h n X)
theorem aD8 {P:Prob} {a b c:Rat} (h:btr P a c) (k:¬ btr P b c):btr P a b:=by
 unfold btr at *
 split at h
 ·rw [if_pos (by assumption)] at k ⊢
  have:=Rat.not_lt.1 k
  grind
 ·rw [if_neg (by assumption)] at k ⊢
  have:=Rat.not_lt.1 k
  grind
theorem Cov.leaf {P:Prob} {B:Nat→BxV} {s c:Rat} {Y:Nat→Rat} (ok:okS (P.box B) Y) (hp:pvS (P.box B) Y = c) (hb:¬ btr P c s):Cov P B false s:=fun n X hX _=>by
 refine ⟨rfl,fun hbt=>?_⟩
 have h1:=weak hX ok
 rw [aJ5,aJ6,hp] at h1
 exact h1 (aD8 hbt hb)
end Go.Proofs.YtnokmjmefipplaaGreatDoor

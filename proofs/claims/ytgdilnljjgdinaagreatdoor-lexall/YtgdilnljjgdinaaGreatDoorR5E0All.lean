import Derived.Test.YtgdilnljjgdinaaGreatDoorR5AAll
import Derived.Test.YtgdilnljjgdinaaGreatDoorPrEAll
import Derived.Test.YtgdilnljjgdinaaGreatDoorRatAll
import Derived.Test.YtgdilnljjgdinaaGreatDoorLentAll
import Derived.Test.YtgdilnljjgdinaaGreatDoorTxAll
namespace Go.Proofs.YtgdilnljjgdinaaGreatDoor
open Go.RowKit Go.Shelf
theorem p10_pw (k:Nat):p10 k≤pw k:=by
 induction k with
 | zero=>decide
 | succ k ih=>rw [pw_succ];have:=pw_pos k;simp only [p10];omega
theorem p10_lt (k:Nat):p10 k<pw (k+1):=by
 have:=p10_pw k;rw [pw_succ];have:=pw_pos k;omega
def isDg (s:ByteArray) (i:Nat):Prop:=48≤byt s i∧byt s i≤57
structure Run (s:ByteArray) (i j:Nat):Prop where
 le:i≤j
 sz:j≤s.size
 dg:∀ k,i≤k→k<j→isDg s k
 stop:j<s.size→¬ isDg s j
theorem Run.uniq {s:ByteArray} {i j j':Nat} (h:Run s i j) (h':Run s i j'):j=j':=by
 rcases Nat.lt_trichotomy j j' with l|l|l
 ·exact absurd (h'.dg j h.le l) (h.stop (by have:=h'.sz;omega))
 ·exact l
 ·exact absurd (h.dg j' h'.le l) (h'.stop (by have:=h.sz;omega))
def runF (s:ByteArray):Nat→Nat→Nat
 | 0,i=>i
 | f+1,i=>if i<s.size∧48≤byt s i∧byt s i≤57 then runF s f (i+1) else i
def runE (s:ByteArray) (i:Nat):Nat:=runF s (s.size-i) i
theorem run_F (s:ByteArray) (f:Nat):∀ i,i≤s.size→s.size-i≤f→Run s i (runF s f i):=by
 induction f with
 | zero =>
  intro i h1 h2
  exact ⟨Nat.le_refl _,h1,fun k a b=>absurd b (by show ¬ k<i;omega),fun h=>absurd h (by show ¬ i<_;omega)⟩
 | succ f ih =>
  intro i h1 h2
  unfold runF
  split
  ·rename_i h
   have r:=ih (i+1) (by omega) (by omega)
   refine ⟨by have:=r.le;omega,r.sz,fun k a b=>?_,r.stop⟩
   by_cases e:k=i
   ·subst e;exact h.2
   ·exact r.dg k (by omega) b
  ·rename_i h
   exact ⟨Nat.le_refl _,h1,fun k a b=>absurd b (by omega),fun hl hd=>h ⟨hl,hd⟩⟩
theorem run_E (s:ByteArray) {i:Nat} (h:i≤s.size):Run s i (runE s i):=run_F s _ i h (Nat.le_refl _)
theorem rdF_run_bd {s:ByteArray} {i j:Nat} (hd:∀ k,i≤k→k<j→isDg s k) (k:Nat) (hk:i+k≤j):0≤rdF s i k∧rdF s i k<p10 k:=by
 induction k with
 | zero=>simp [rdF,p10]
 | succ k ih =>
  have:=ih (by omega)
  have h:=hd (i+k) (by omega) (by omega)
  unfold isDg at h
  simp only [rdF,p10];omega
def sgJ (s:ByteArray) (i:Nat):Nat:=if i<s.size∧(byt s i=43∨byt s i=45) then i+1 else i
def sgN (s:ByteArray) (i:Nat):Bool:=decide (i<s.size∧byt s i=45)
theorem sgJ_ge (s:ByteArray) (i:Nat):i≤sgJ s i:=by unfold sgJ;split <;> omega
theorem sgJ_le {s:ByteArray} {i:Nat} (h:i≤s.size):sgJ s i≤s.size:=by unfold sgJ;split <;> omega
theorem rdF_lt_pw {s:ByteArray} {i j:Nat} (hd:∀ k,i≤k→k<j→isDg s k) (k:Nat) (hk:i+k≤j):rdF s i k<pw (k+1):=by
 have:=(rdF_run_bd hd k hk).2;have:=p10_lt k;omega
def capV (x:Int):Int:=if 10000<x then 10000 else x
theorem capV_step {x d:Int} (h1:0≤d):capV (10*capV x+d)=capV (x*10+d):=by
 unfold capV;split <;> split <;> (try split) <;> omega
theorem capV_bd {x:Int} (h:0≤x):0≤capV x∧capV x≤10000:=by unfold capV;split <;> omega
def exV (s:ByteArray) (i:Nat):Int:=if i<s.size∧(byt s i=101∨byt s i=69) then capV (rdF s (sgJ s (i+1)) (runE s (sgJ s (i+1))-sgJ s (i+1))) else 0
def exD (s:ByteArray) (i:Nat):Bool:=decide (i<s.size∧(byt s i=101∨byt s i=69)) && sgN s (i+1)
def exOk (s:ByteArray) (i:Nat):Bool:=decide (i=s.size∨(i<s.size∧(byt s i=101∨byt s i=69)∧runE s (sgJ s (i+1))=s.size∧sgJ s (i+1)<runE s (sgJ s (i+1))))
end Go.Proofs.YtgdilnljjgdinaaGreatDoor
namespace Go.Proofs.YtgdilnljjgdinaaGreatDoor
open Go.RowKit Go.Shelf
end Go.Proofs.YtgdilnljjgdinaaGreatDoor
namespace Go.Proofs.YtgdilnljjgdinaaGreatDoor
open Go.RowKit Go.Shelf
theorem noSign_nil:NoSign ⟨#[]⟩:=fun w=>noSign ⟨#[]⟩ (by decide) (fun b hb=>by cases hb) (fun b hb=>by cases hb) w
theorem app_nil (s:ByteArray):s++(⟨#[]⟩:ByteArray)=s:=by apply ByteArray.ext;simp [ByteArray.data_append]
theorem parsesX_zero:ParsesX ⟨#[48]⟩ 0:=fun w=>parseExp w
-- what literals are worth
theorem p10_ne (k:Nat):p10 k≠0:=Int.ne_of_gt (p10_pos k)
end Go.Proofs.YtgdilnljjgdinaaGreatDoor
namespace Go.Proofs.YtgdilnljjgdinaaGreatDoor
end Go.Proofs.YtgdilnljjgdinaaGreatDoor
namespace Go.Proofs.YtgdilnljjgdinaaGreatDoor
open Go.RowKit
end Go.Proofs.YtgdilnljjgdinaaGreatDoor

import Derived.Test.YtkgnbcbcgnlodaaGreatDoorOpRAll
import Derived.Test.YtkgnbcbcgnlodaaGreatDoorPqC
namespace Go.Proofs.YtkgnbcbcgnlodaaGreatDoor
open Go.RowKit

end Go.Proofs.YtkgnbcbcgnlodaaGreatDoor

namespace Go.Proofs.YtkgnbcbcgnlodaaGreatDoor
open Go.RowKit

/-- The summands of a value: Const, and each Obj times its variable. -/
def prt (k : Rat) (V : Nat → PV) (X : Nat → Rat) : Nat → Rat
  | 0 => k
  | i + 1 => (V i).obj * X i
end Go.Proofs.YtkgnbcbcgnlodaaGreatDoor

namespace Go.Proofs.YtkgnbcbcgnlodaaGreatDoor
open Go.RowKit

/-- The k-th summand of a row at a list of which m count. -/
def tv (r : PW) (X : Nat → Rat) (m k : Nat) : Rat := if 0 ≤ (r.t k).var ∧ (r.t k).var < (m : Int) then (r.t k).coef * X (r.t k).var.toNat else 0
/-- A row's sum. -/
def cv (r : PW) (X : Nat → Rat) (m : Nat) : Rat := rsum (tv r X m) r.nt
theorem tot_le {Z : Nat → Nat} {n i : Nat} (h : i < n) : Z i ≤ tot Z n := by have := tot_one (Z := Z) h; omega
theorem mul_pw {A B : Int} {a b : Nat} (hA0 : 0 ≤ A) (hA : A < pw a) (hB0 : 0 ≤ B) (hB : B < pw b) : A * B < pw (a + b) ∧ 0 ≤ A * B := by
  have e1 : (A.natAbs : Int) = A := Int.natAbs_of_nonneg hA0
  have e2 : (B.natAbs : Int) = B := Int.natAbs_of_nonneg hB0
  have h6 := mul_lt (x := A) (y := B) (S := a) (R := b) (by omega) (by omega)
  have h0 := Int.mul_nonneg hA0 hB0
  have e3 : ((A * B).natAbs : Int) = A * B := Int.natAbs_of_nonneg h0
  omega
theorem RL.mono {w : World} {B B' : Nat} {v : Value} {n : Nat} {X : Nat → Rat} {S : Nat} (h : RL w B v n X S) (hB : B' ≤ B) : RL w B' v n X S := by
  obtain ⟨vs, h1, h2⟩ := h
  refine ⟨vs, ⟨h1.1, ?_⟩, fun i hi => ?_⟩
  · rcases h1.2 with hn | ⟨g, cap, cur, e1, e2, rest⟩
    · exact .inl hn
    · exact .inr ⟨g, cap, cur, e1, by omega, rest⟩
  · obtain ⟨p, a, na, ca, d, nd, cd, g1, g2, g3, g4⟩ := h2 i hi
    exact ⟨p, a, na, ca, d, nd, cd, g1, g2, g3, g4.mono hB⟩
theorem LT.sz {w : World} {a : Option Addr} {n : Nat} {t : Nat → PT} {Z : Nat → Nat} (h : LT w a n t Z) : ∀ q, q < n → SzR (t q).coef (Z q) := by
  intro q hq
  rcases h with h | ⟨b, o, _, h⟩
  · omega
  · exact (h q hq).2.2.2.1
end Go.Proofs.YtkgnbcbcgnlodaaGreatDoor

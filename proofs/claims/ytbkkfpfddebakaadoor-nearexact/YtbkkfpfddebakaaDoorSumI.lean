import Derived.Test.YtbkkfpfddebakaaDoorRatAll
namespace Go.Proofs.YtbkkfpfddebakaaDoor
open Go.RowKit

def isum (X : Nat → Int) : Nat → Int
  | 0 => 0
  | k + 1 => isum X k + X k
theorem isum_le {X : Nat → Int} {M : Int} : ∀ {n : Nat}, (∀ i, i < n → ((X i).natAbs : Int) ≤ M) → ((isum X n).natAbs : Int) ≤ n * M := by
  intro n
  induction n with
  | zero => intro _; simp [isum]
  | succ n ih =>
    intro h
    have h1 := ih fun i hi => h i (by omega)
    have h2 := h n (by omega)
    have e : ((n + 1 : Nat) : Int) * M = n * M + M := by rw [Int.natCast_add, Int.add_mul]; simp
    rw [e]
    show ((isum X n + X n).natAbs : Int) ≤ _
    omega
theorem isum_pw {X : Nat → Int} {S n : Nat} (hn : n ≤ 1000000000000) (h : ∀ i, i < n → ((X i).natAbs : Int) < pw S) : ((isum X n).natAbs : Int) < pw (S + 1) := by
  have h1 := isum_le (X := X) (M := pw S) (n := n) fun i hi => Int.le_of_lt (h i hi)
  have h2 := pw_pos S
  have h3 : (n : Int) * pw S ≤ 1000000000000 * pw S := Int.mul_le_mul_of_nonneg_right (by omega) (by omega)
  rw [pw_succ]
  omega
theorem Below.size_le {B : Nat} {w w' : World} (h : Below B w w') : w.heap.size ≤ w'.heap.size := h.size

end Go.Proofs.YtbkkfpfddebakaaDoor

import Derived.Test.YtbkkepbmaadomaaGreatDoorNumAll
import Derived.Test.YtbkkepbmaadomaaGreatDoorWhEAll
import Derived.Test.YtbkkepbmaadomaaGreatDoorDigAll
namespace Go.Proofs.YtbkkepbmaadomaaGreatDoor

/-- In how many ways k of n are chosen, by Pascal's rule. -/
def chs : Nat → Nat → Nat
  | _, 0 => 1
  | 0, _ + 1 => 0
  | n + 1, k + 1 => chs n k + chs n (k + 1)
theorem chs_zero (n : Nat) : chs n 0 = 1 := by cases n <;> rfl
theorem chs_gt : ∀ (n k : Nat), n < k → chs n k = 0
  | 0, k + 1, _ => rfl
  | n + 1, 0, h => by omega
  | n + 1, k + 1, h => by unfold chs; rw [chs_gt n k (by omega), chs_gt n (k + 1) (by omega)]
theorem chs_step : ∀ (n k : Nat), chs n (k + 1) * (k + 1) = chs n k * (n - k)
  | 0, k => by cases k <;> simp [chs]
  | n + 1, 0 => by
    have := chs_step n 0
    rw [chs_zero] at this
    simp at this
    show (chs n 0 + chs n 1) * 1 = chs (n + 1) 0 * (n + 1)
    rw [chs_zero, chs_zero]; omega
  | n + 1, k + 1 => by
    have h1 := chs_step n (k + 1)
    have h2 := chs_step n k
    show (chs n (k + 1) + chs n (k + 1 + 1)) * (k + 1 + 1) = (chs n k + chs n (k + 1)) * (n + 1 - (k + 1))
    rw [Nat.add_mul, h1, Nat.add_mul, show n + 1 - (k + 1) = n - k by omega, ← h2]
    rcases Nat.lt_or_ge n (k + 1) with h | h
    · rw [chs_gt n (k + 1) h]; simp
    · rw [show n - k = n - (k + 1) + 1 by omega, Nat.mul_add (chs n (k + 1)) (n - (k + 1)) 1, Nat.mul_add (chs n (k + 1)) (k + 1) 1]; omega
theorem chs_pos : ∀ (n k : Nat), k ≤ n → 0 < chs n k
  | n, 0, _ => by rw [chs_zero]; omega
  | n + 1, k + 1, h => by
    have := chs_pos n k (by omega)
    show 0 < chs n k + chs n (k + 1)
    omega
theorem chs_symm' : ∀ (s a b : Nat), a + b = s → chs (a + b) a = chs (a + b) b
  | _, 0, b, _ => by
    rw [chs_zero, Nat.zero_add]
    have : ∀ n, chs n n = 1 := fun n => by
      induction n with
      | zero => rfl
      | succ n ih => show chs n n + chs n (n + 1) = 1; rw [ih, chs_gt n (n + 1) (by omega)]
    rw [this]
  | _, a + 1, 0, _ => by
    rw [chs_zero, Nat.add_zero]
    have : ∀ n, chs n n = 1 := fun n => by
      induction n with
      | zero => rfl
      | succ n ih => show chs n n + chs n (n + 1) = 1; rw [ih, chs_gt n (n + 1) (by omega)]
    rw [this]
  | s + 1, a + 1, b + 1, h => by
    have h1 := chs_symm' s a (b + 1) (by omega)
    have h2 := chs_symm' s (a + 1) b (by omega)
    have e1 : a + 1 + (b + 1) = (a + (b + 1)) + 1 := by omega
    have e2 : a + 1 + b = a + (b + 1) := by omega
    rw [e2] at h2
    rw [e1]
    show chs (a + (b + 1)) a + chs (a + (b + 1)) (a + 1) = chs (a + (b + 1)) b + chs (a + (b + 1)) (b + 1)
    omega
theorem chs_symm {n k : Nat} (h : k ≤ n) : chs n (n - k) = chs n k := by
  have := chs_symm' n k (n - k) (by omega)
  rw [show k + (n - k) = n by omega] at this
  exact this.symm
/-- The first j of a row, together. -/
def chsSum (m : Nat) : Nat → Nat
  | 0 => 0
  | j + 1 => chsSum m j + chs m j
theorem chsSum_step (m j : Nat) : chsSum (m + 1) (j + 1) = chsSum m (j + 1) + chsSum m j := by
  induction j with
  | zero => simp [chsSum, chs_zero]
  | succ j ih =>
    show chsSum (m + 1) (j + 1) + (chs m j + chs m (j + 1)) = (chsSum m (j + 1) + chs m (j + 1)) + (chsSum m j + chs m j)
    omega
theorem chsSum_all (m : Nat) : chsSum m (m + 1) = 2 ^ m := by
  induction m with
  | zero => rfl
  | succ m ih =>
    rw [chsSum_step]
    show chsSum m (m + 1) + chs m (m + 1) + chsSum m (m + 1) = _
    rw [ih, chs_gt m (m + 1) (by omega), Nat.pow_succ]; omega
end Go.Proofs.YtbkkepbmaadomaaGreatDoor

namespace Go.Proofs.YtbkkepbmaadomaaGreatDoor
open Go.RowKit

theorem of3_any (v : Int) (w : World) (h0 : 0 < v) (h1 : v < 18446744073709551616) :
    Calls Tryz.prog 32 #[.int .u64 v] w fun e w' => ∃ a cap, e = .returned (.slice a 1 cap) ∧ OwnV w' w.heap.size (.slice a 1 cap) [v] ∧ Below w.heap.size w w' := by
  have t1 : (v == 0) = false := by simp; omega
  go_enter Tryz.func32, Tryz.ntmps32
  go_wp2
  go_ret
  refine ⟨some ⟨w.heap.size, 0, none⟩, 1, rfl, ?_, (Below.refl _ _).alloc (Nat.le_refl _) _⟩
  have hb : Blk (w.alloc (.cells #[Value.int .u64 v] 22)) w.heap.size [v] := blk_new [v]
  exact (hb.row 1 (by unfold maxLen; simp)).own (Nat.le_refl _)

/-- One round of Choose: times (n - i + 1), divided by i. -/
theorem chs_round {n i : Nat} (h1 : 1 ≤ i) (h2 : i ≤ n) : ((chs n (i - 1) : Nat) : Int) * ((n : Int) - i + 1) / (i : Int) = ((chs n i : Nat) : Int) ∧ 0 < chs n i := by
  obtain ⟨k, rfl⟩ : ∃ k, i = k + 1 := ⟨i - 1, by omega⟩
  have h := chs_step n k
  rw [show k + 1 - 1 = k by omega]
  refine ⟨?_, chs_pos n (k + 1) h2⟩
  have e : ((chs n k : Nat) : Int) * ((n : Int) - ((k + 1 : Nat) : Int) + 1) = ((chs n (k + 1) : Nat) : Int) * ((k + 1 : Nat) : Int) := by
    rw [← Int.natCast_mul, h, Int.natCast_mul]
    congr 1
    omega
  rw [e, Int.mul_ediv_cancel _ (by omega)]

end Go.Proofs.YtbkkepbmaadomaaGreatDoor

import Derived.Test.YtjlmboakeigmpaaDoorWhEAll
import Derived.Test.YtjlmboakeigmpaaDoorDigAll
import Derived.Test.YtjlmboakeigmpaaDoorChs
import Derived.Test.YtjlmboakeigmpaaDoorNumAll
namespace Go.Proofs.YtjlmboakeigmpaaDoor
open Go.RowKit

theorem of3_any (v : Int) (w : World) (h0 : 0 < v) (h1 : v < 18446744073709551616) :
    Calls Tryd.prog 45 #[.int .u64 v] w fun e w' => ∃ a cap, e = .returned (.slice a 1 cap) ∧ OwnV w' w.heap.size (.slice a 1 cap) [v] ∧ Below w.heap.size w w' := by
  have t1 : (v == 0) = false := by simp; omega
  go_enter Tryd.func45, Tryd.ntmps45
  go_wp2
  go_ret
  refine ⟨some ⟨w.heap.size, 0, none⟩, 1, rfl, ?_, (Below.refl _ _).alloc (Nat.le_refl _) _⟩
  have hb : Blk (w.alloc (.cells #[Value.int .u64 v] 38)) w.heap.size [v] := blk_new [v]
  exact (hb.row 1 (by unfold maxLen; simp)).own (Nat.le_refl _)

/-- One round of Choose: times (n - i + 1), divided by i. -/
theorem chs_round {n i : Nat} (h1 : 1 ≤ i) (h2 : i ≤ n) : ((chs n (i - 1) : Nat) : Int) * ((n : Int) - i + 1) / (i : Int) = ((chs n i : Nat) : Int) ∧ 0 < chs n i := by
  obtain ⟨k, rfl⟩ : ∃ k, i = k + 1 := ⟨i - 1, by omega⟩
  have h := chs_step n k
  rw [show k + 1 - 1 = k by omega]
  refine ⟨?_, chs_pos n (k + 1) h2⟩
  have e : ((chs n k : Nat) : Int) * ((n : Int) - ((k + 1 : Nat) : Int) + 1) = ((chs n (k + 1) : Nat) : Int) * ((k + 1 : Nat) : Int) := by
    rw [← Int.natCast_mul, h, Int.natCast_mul]
    congr 1
    omega
  rw [e, Int.mul_ediv_cancel _ (by omega)]

end Go.Proofs.YtjlmboakeigmpaaDoor

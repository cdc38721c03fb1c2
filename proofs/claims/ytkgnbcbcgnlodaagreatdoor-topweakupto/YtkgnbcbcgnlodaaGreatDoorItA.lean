import Derived.Test.YtkgnbcbcgnlodaaGreatDoorNumAll
import Derived.Test.YtkgnbcbcgnlodaaGreatDoorLaysI
import Derived.Lib.AppendIntMem
import Derived.Lib.ItoaLen
namespace Go.Proofs.YtkgnbcbcgnlodaaGreatDoor
open Go.RowKit Go.Shelf Go.Sort

/-- The table of powers that strconv's numDigits asks. -/
def TP (w : World) : Prop := Lib.TabBelow Tryz.prog w.heap.size w "internal/strconv.uint64pow10" .u64 Lib.pow10Tab
theorem TP.below {w w' : World} (h : TP w) (hb : Below w.heap.size w w') : TP w' := fun w'' h2 => h w'' (bel_tr hb h2)
theorem itoaI (n : Int) (h0 : -9223372036854775808 ≤ n) (h1 : n ≤ 9223372036854775807) (w : World) (hT : TP w) :
    Calls Tryz.prog 45 #[.int .i64 n] w fun e w' => e = .returned (.string ⟨(Lib.itoa n).toArray⟩) ∧ Below w.heap.size w w' := by
  refine (Any.strconv_Itoa Tryz.laysM171 n h0 h1 w hT.here).mono ?_
  rintro e w' ⟨rfl, k, os, rfl⟩
  exact ⟨rfl, Lib.below_grow _ _ (Nat.le_refl _) _ _⟩
/-- The text of a small whole number. -/
def itx (n : Nat) : ByteArray := ⟨(Lib.itoa (n : Int)).toArray⟩
theorem itx_size {n : Nat} (h : n ≤ 1000000000) : (itx n).size ≤ 21 := by
  have := Lib.itoa_length_le (n : Int) (by omega) (by omega)
  simpa [itx, ByteArray.size] using this
theorem itoaN (n : Nat) (h : n ≤ 1000000000) (w : World) (hT : TP w) : Calls Tryz.prog 45 #[.int .i64 (n : Int)] w fun e w' => ∃ s, e = .returned (.string s) ∧ s = itx n ∧ Below w.heap.size w w' :=
  (itoaI (n : Int) (by omega) (by omega) w hT).mono fun e w' ⟨h1, h2⟩ => ⟨_, h1, rfl, h2⟩
end Go.Proofs.YtkgnbcbcgnlodaaGreatDoor

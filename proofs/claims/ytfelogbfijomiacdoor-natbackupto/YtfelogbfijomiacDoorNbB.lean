import Derived.Test.YtfelogbfijomiacDoorTxtV
import Derived.Test.YtfelogbfijomiacDoorNbA
import Derived.Test.YtfelogbfijomiacDoorShift
import Derived.Test.YtfelogbfijomiacDoorLike
import Derived.Test.YtfelogbfijomiacDoorDivS
namespace Go.Proofs.YtfelogbfijomiacDoor
open Go.RowKit
theorem txt_sizeN {w : World} {a : Option Addr} {n c : Nat} {m : Int} {S : Nat} (h : Num w a n c m S) : (txt m.toNat).size ≤ 20 * S + 1 := by
  obtain ⟨xs, h1, h2, h3, h4, h5, h6⟩ := h
  have h7 := decs_val h4
  rw [h5] at h7
  unfold txt
  split
  · rw [strOfNums_size]; simp
  · rw [strOfNums_size]; simp; omega
/-- A number's text, read. -/
theorem parse_txt (v : Nat) (w : World) (hs : (txt v).size ≤ 100000000) :
    Calls Tryd.prog 13 #[.string (txt v)] w fun e w' => ∃ c n cc, e = .returned (.tuple #[.slice c n cc, .nilIface]) ∧ Got w' w.heap.size (.slice c n cc) (v : Int) 100000000 ∧ Below w.heap.size w w' := by
  refine (parse_yes (txt v) w hs (digs_txt v) (size_txt v)).mono ?_
  rintro e w' ⟨c, n, cc, rfl, G, hb⟩
  rw [rd_txt] at G
  exact ⟨c, n, cc, rfl, G.le hs, hb⟩
theorem cmpN {a b : Option Addr} {na nb ca cb : Nat} {x y : Int} {S R : Nat} (w : World) (ha : Num w a na ca x S) (hb : Num w b nb cb y R) (hS : S ≤ 1000000000000) (hR : R ≤ 1000000000000) :
    Calls Tryd.prog 12 #[.slice a na ca, .slice b nb cb] w fun e w' => ∃ c : Int, e = .returned (.int .i64 c) ∧ ((c = 0 ∧ x = y) ∨ (c = -1 ∧ x < y) ∨ (c = 1 ∧ y < x)) ∧ Below w.heap.size w w' := by
  refine (cmpV w ha hb hS hR).mono ?_
  rintro e w' ⟨c, rfl, hc, j, rfl⟩
  exact ⟨c, rfl, by omega, belN (Below.refl _ _) j⟩
theorem pow_cast (u : Nat) : ((2 ^ u : Nat) : Int) = 1 * 2 ^ u := by rw [Int.one_mul, Int.natCast_pow]; rfl
theorem shift_back (x : Int) (N : Nat) : x * 2 ^ N / 2 ^ N = x := Int.mul_ediv_cancel x (Int.ne_of_gt (Int.pow_pos (by decide)))
theorem shift_low {x : Int} (N : Nat) : x / 2 ^ N * 2 ^ N ≤ x := Int.ediv_mul_le x (Int.ne_of_gt (Int.pow_pos (by decide)))
end Go.Proofs.YtfelogbfijomiacDoor

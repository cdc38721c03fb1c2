import Derived.Test.YtfelogbfijomiabGreatDoorGotN
import Derived.Test.YtfelogbfijomiabGreatDoorSub
import Derived.Test.YtfelogbfijomiabGreatDoorErrs
namespace Go.Proofs.YtfelogbfijomiabGreatDoor
open Go.RowKit

theorem subG {a b : Option Addr} {na nb ca cb : Nat} {x y : Int} {S R : Nat} (w : World) (ha : Num w a na ca x S) (hb : Num w b nb cb y R) (hS : S ≤ 100000000000) (hR : R ≤ 100000000000) (hxy : y ≤ x) :
    Calls Tryz.prog 68 #[.slice a na ca, .slice b nb cb] w fun e w' => ∃ c nc cc, e = .returned (.tuple #[.slice c nc cc, .nilIface]) ∧ Got w' w.heap.size (.slice c nc cc) (x - y) S ∧ Below w.heap.size w w' := by
  obtain ⟨xs, a1, a2, a3, a4, a5, a6⟩ := ha
  obtain ⟨ys, b1, b2, b3, b4, b5, b6⟩ := hb
  obtain ⟨s1, s2, s3, s4⟩ := subL_val a4 b4 (by omega)
  have hc : 0 ≤ cmpL xs ys := by rcases cmpL_val a4 b4 with h | h | h <;> omega
  refine (sub_any a b na nb ca cb xs ys w a1 b1 a2 b2 (by omega) (by omega) a3 b3 a4 b4 hc s1 s2).mono ?_
  rintro e w' ⟨g, rfl, hg, hbk, hbel⟩
  have t1 : tlen xs ≤ xs.length := tl_le _ _
  have hl := length_subL xs ys
  refine ⟨_, _, _, rfl, ?_, hbel⟩
  rw [← a5, ← b5, ← s4]
  exact got_of_blk hbk s3 hg _ hl.symm (by omega) (by omega)
set_option maxHeartbeats 400000 in
theorem subE {a b : Option Addr} {na nb ca cb : Nat} {x y : Int} {S R : Nat} {ev : Value} (w : World) (ha : Num w a na ca x S) (hb : Num w b nb cb y R) (hS : S ≤ 100000000000) (hR : R ≤ 100000000000) (hxy : x < y) (hE : Errs w 4 ev) :
    Calls Tryz.prog 68 #[.slice a na ca, .slice b nb cb] w fun e w' => e = .returned (.tuple #[.slice none 0 0, ev]) ∧ Below w.heap.size w w' := by
  obtain ⟨hE, _⟩ := hE
  have HXY : Hid (x < y) := hxy
  clear hxy
  go_enter Tryz.func68, Tryz.ntmps68
  go_wp2_with fail
  refine (cmpV _ ha hb (by omega) (by omega)).mono ?_
  rintro e w1 ⟨c, rfl, hc, m, hm⟩
  obtain rfl : c = -1 := by have := HXY.out; omega
  have hb1 : Below w.heap.size w w1 := by rw [hm]; exact belN (Below.refl _ _) m
  have hE1 : w1.cell? ⟨4, 0, none⟩ = some ev := by rw [hb1.cell (World.block_lt_of_cell? _ _ hE)]; exact hE
  clear hc ha hb hm hE
  go_wp2
  go_quiet (fail)
  go_wp2
  go_ret2
  exact ⟨rfl, belN hb1 nq⟩
end Go.Proofs.YtfelogbfijomiabGreatDoor

import Derived.Test.YtfelogbfijomiabGreatDoorAwakeP
import Derived.Test.YtfelogbfijomiabGreatDoorVal
namespace Go.Proofs.YtfelogbfijomiabGreatDoor
open Go.RowKit

/-- The slice tells the number x, in S limbs at the most. -/
def Num (w : World) (a : Option Addr) (n cap : Nat) (x : Int) (S : Nat) : Prop := ∃ xs, n = xs.length ∧ n ≤ cap ∧ Reads w a xs ∧ AllW xs ∧ val xs = x ∧ n ≤ S
theorem Num.below {w w' : World} {a : Option Addr} {n cap : Nat} {x : Int} {S : Nat} (h : Num w a n cap x S) (hb : Below w.heap.size w w') : Num w' a n cap x S := by
  obtain ⟨xs, h1, h2, h3, h4⟩ := h
  exact ⟨xs, h1, h2, h3.below hb, h4⟩
theorem Num.drewN {w : World} {a : Option Addr} {n cap : Nat} {x : Int} {S : Nat} (h : Num w a n cap x S) (m : Nat) : Num (w.drewN m) a n cap x S := by
  obtain ⟨xs, h1, h2, h3, h4⟩ := h
  exact ⟨xs, h1, h2, h3.drewN m, h4⟩
theorem Num.nil (w : World) : Num w none 0 0 0 0 := ⟨[], rfl, Nat.le_refl _, .inl rfl, AllW.nil, rfl, Nat.le_refl _⟩
theorem Num.nn {w : World} {a : Option Addr} {n cap : Nat} {x : Int} {S : Nat} (h : Num w a n cap x S) : 0 ≤ x := by
  obtain ⟨xs, _, _, _, h4, h5, _⟩ := h
  rw [← h5]; exact val_nn h4
theorem num_of_blk {w : World} {g : Nat} {us : List Int} (h : Blk w g us) (hu : AllW us) (cap : Nat) (hc : cap = us.length) {S : Nat} (hS : us.length ≤ S) : Num w (some ⟨g, 0, none⟩) (tlen us) cap (val us) S := by
  subst hc
  have hle : tlen us ≤ us.length := tl_le _ _
  exact ⟨trimL us, (length_trimL us).symm, hle, h.reads _, hu.trim, val_trimL us, by omega⟩

theorem addV {a b : Option Addr} {na nb ca cb : Nat} {x y : Int} {S R : Nat} (w : World) (ha : Num w a na ca x S) (hb : Num w b nb cb y R) (hS : S ≤ 1000000000000) (hR : R ≤ 1000000000000) :
    Calls Tryz.prog 66 #[.slice a na ca, .slice b nb cb] w fun e w' => ∃ c nc cc, e = .returned (.slice c nc cc) ∧ Num w' c nc cc (x + y) (S + R + 1) ∧ Below w.heap.size w w' := by
  obtain ⟨xs, a1, a2, a3, a4, a5, a6⟩ := ha
  obtain ⟨ys, b1, b2, b3, b4, b5, b6⟩ := hb
  refine (add_any a b na nb ca cb xs ys w a1 b1 a2 b2 (by omega) (by omega) a3 b3 a4 b4).mono ?_
  rintro e w' ⟨g, rfl, hg, hbk, hbel⟩
  obtain ⟨v1, v2⟩ := addL_val a4 b4
  have hl := length_addL xs ys
  refine ⟨_, _, _, rfl, ?_, hbel⟩
  rw [← a5, ← b5, ← v2]
  exact num_of_blk hbk v1 _ rfl (by omega)
theorem mulV {a b : Option Addr} {na nb ca cb : Nat} {x y : Int} {S R : Nat} (w : World) (ha : Num w a na ca x S) (hb : Num w b nb cb y R) (hS : S ≤ 400000000000) (hR : R ≤ 400000000000) :
    Calls Tryz.prog 69 #[.slice a na ca, .slice b nb cb] w fun e w' => ∃ c nc cc, e = .returned (.slice c nc cc) ∧ Num w' c nc cc (x * y) (S + R) ∧ Below w.heap.size w w' := by
  obtain ⟨xs, a1, a2, a3, a4, a5, a6⟩ := ha
  obtain ⟨ys, b1, b2, b3, b4, b5, b6⟩ := hb
  refine (mul_any a b na nb ca cb xs ys w a1 b1 a2 b2 (by omega) (by omega) a3 b3 a4 b4).mono ?_
  rintro e w' ⟨g, rfl, hg, hbk, hbel⟩
  obtain ⟨v1, v2⟩ := mulL_val a4 b4
  have hl := length_mulL xs ys a4 b4
  have t1 : tlen xs ≤ xs.length := tl_le _ _
  have t2 : tlen ys ≤ ys.length := tl_le _ _
  refine ⟨_, _, _, rfl, ?_, hbel⟩
  rw [← a5, ← b5, ← v2]
  exact num_of_blk hbk v1 _ rfl (by omega)
theorem ofV (v : Int) (w : World) (h0 : 0 ≤ v) (h1 : v < 18446744073709551616) :
    Calls Tryz.prog 39 #[.int .u64 v] w fun e w' => ∃ c nc cc, e = .returned (.slice c nc cc) ∧ Num w' c nc cc v 1 ∧ Below w.heap.size w w' := by
  refine (of_any v w h0 h1).mono ?_
  rintro e w' ⟨c, cc, rfl, hown, hbel⟩
  refine ⟨c, _, cc, rfl, ⟨trimL [v], (length_trimL _).symm, ?_, hown.reads, ?_, ?_, tl_le _ _⟩, hbel⟩
  · have := hown.le; rwa [length_trimL] at this
  · exact AllW.trim (fun x hx => by simp at hx; subst hx; exact ⟨h0, h1⟩)
  · rw [val_trimL]; simp [val, vS, lm, pw]
theorem bitsV0 {a : Option Addr} {na ca : Nat} {x : Int} {S : Nat} (w : World) (ha : Num w a na ca x S) (hS : S ≤ 1000000000000) (hx : x = 0) :
    Calls Tryz.prog 64 #[.slice a na ca] w fun e w' => e = .returned (.int .i64 0) ∧ w = w' := by
  obtain ⟨xs, a1, a2, a3, a4, a5, a6⟩ := ha
  have := bitsL_zero a4 (by omega)
  refine (bits_any a na ca xs w a1 a2 (by omega) a3 a4).mono ?_
  rintro e w' ⟨rfl, rfl⟩
  exact ⟨by rw [this], rfl⟩
theorem cmpV {a b : Option Addr} {na nb ca cb : Nat} {x y : Int} {S R : Nat} (w : World) (ha : Num w a na ca x S) (hb : Num w b nb cb y R) (hS : S ≤ 1000000000000) (hR : R ≤ 1000000000000) :
    Calls Tryz.prog 67 #[.slice a na ca, .slice b nb cb] w fun e w' => ∃ c : Int, e = .returned (.int .i64 c) ∧ ((c = 0 ∧ x = y) ∨ (c = -1 ∧ x < y) ∨ (c = 1 ∧ y < x)) ∧ ∃ m, w' = w.drewN m := by
  obtain ⟨xs, a1, a2, a3, a4, a5, a6⟩ := ha
  obtain ⟨ys, b1, b2, b3, b4, b5, b6⟩ := hb
  refine (cmp_any a b na nb ca cb xs ys w a1 b1 a2 b2 (by omega) (by omega) a3 b3).mono ?_
  rintro e w' ⟨rfl, m, rfl⟩
  refine ⟨_, rfl, ?_, m, rfl⟩
  have := cmpL_val a4 b4
  rw [a5, b5] at this
  exact this
end Go.Proofs.YtfelogbfijomiabGreatDoor

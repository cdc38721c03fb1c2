import Derived.Test.YtfelogbfijomiabGreatDoorGotP
namespace Go.Proofs.YtfelogbfijomiabGreatDoor
open Go.RowKit

theorem addG {a b : Option Addr} {na nb ca cb : Nat} {x y : Int} {S R : Nat} (w : World) (ha : Num w a na ca x S) (hb : Num w b nb cb y R) (hS : S ≤ 100000000000) (hR : R ≤ 100000000000) :
    Calls Tryz.prog 66 #[.slice a na ca, .slice b nb cb] w fun e w' => ∃ c nc cc, e = .returned (.slice c nc cc) ∧ Got w' w.heap.size (.slice c nc cc) (x + y) (S + R + 1) ∧ Below w.heap.size w w' := by
  obtain ⟨xs, a1, a2, a3, a4, a5, a6⟩ := ha
  obtain ⟨ys, b1, b2, b3, b4, b5, b6⟩ := hb
  refine (add_any a b na nb ca cb xs ys w a1 b1 a2 b2 (by omega) (by omega) a3 b3 a4 b4).mono ?_
  rintro e w' ⟨g, rfl, hg, hbk, hbel⟩
  obtain ⟨v1, v2⟩ := addL_val a4 b4
  have hl := length_addL xs ys
  refine ⟨_, _, _, rfl, ?_, hbel⟩
  rw [← a5, ← b5, ← v2]
  exact got_of_blk hbk v1 hg _ rfl (by omega) (by omega)
theorem mulG {a b : Option Addr} {na nb ca cb : Nat} {x y : Int} {S R : Nat} (w : World) (ha : Num w a na ca x S) (hb : Num w b nb cb y R) (hS : S ≤ 100000000000) (hR : R ≤ 100000000000) :
    Calls Tryz.prog 69 #[.slice a na ca, .slice b nb cb] w fun e w' => ∃ c nc cc, e = .returned (.slice c nc cc) ∧ Got w' w.heap.size (.slice c nc cc) (x * y) (S + R) ∧ Below w.heap.size w w' := by
  obtain ⟨xs, a1, a2, a3, a4, a5, a6⟩ := ha
  obtain ⟨ys, b1, b2, b3, b4, b5, b6⟩ := hb
  refine (mul_any a b na nb ca cb xs ys w a1 b1 a2 b2 (by omega) (by omega) a3 b3 a4 b4).mono ?_
  rintro e w' ⟨g, rfl, hg, hbk, hbel⟩
  obtain ⟨v1, v2⟩ := mulL_val a4 b4
  have hl := length_mulL xs ys a4 b4
  have t1 : tlen xs ≤ xs.length := tl_le _ _
  have t2 : tlen ys ≤ ys.length := tl_le _ _
  refine ⟨_, _, _, rfl, ?_, hbel⟩
  rw [← a5, ← b5, ← v2]
  exact got_of_blk hbk v1 hg _ rfl (by omega) (by omega)
theorem Got.shrink {w : World} {B : Nat} {v : Value} {x : Int} {S m : Nat} (h : Got w B v x S) (hx : x < pw m) : Got w B v x m := by
  obtain ⟨xs, h1, h2, h3, h4⟩ := h
  refine ⟨xs, h1, h2, h3, ?_⟩
  rcases Nat.lt_or_ge m xs.length with h5 | h5
  · have h6 := val_ge h2.1 (by rw [h2.2]; omega)
    have h7 := pw_mono (a := m) (b := tlen xs - 1) (by rw [h2.2]; omega)
    omega
  · exact h5
theorem Got.val {w : World} {B : Nat} {v : Value} {x y : Int} {S : Nat} (h : Got w B v x S) (e : x = y) : Got w B v y S := e ▸ h
set_option maxHeartbeats 400000 in
theorem ofG (v : Int) (w : World) (h0 : 0 ≤ v) (h1 : v < 18446744073709551616) :
    Calls Tryz.prog 39 #[.int .u64 v] w fun e w' => ∃ a n cap, e = .returned (.slice a n cap) ∧ Got w' w.heap.size (.slice a n cap) v 1 ∧ Below w.heap.size w w' := by
  have hw : AllW [v] := fun x hx => by simp at hx; subst hx; exact ⟨h0, h1⟩
  have ev : Go.Proofs.YtfelogbfijomiabGreatDoor.val [v] = v := by simp [Go.Proofs.YtfelogbfijomiabGreatDoor.val, vS, lm, pw]
  by_cases hv : v = 0
  · subst hv
    go_enter Tryz.func39, Tryz.ntmps39
    go_wp2
    go_ret
    exact ⟨none, 0, 0, rfl, (Got.nil _ _).le (by omega), Below.refl _ _⟩
  · have t1 : (v == 0) = false := by simpa using hv
    go_enter Tryz.func39, Tryz.ntmps39
    go_wp2
    go_ret
    have e1 : tlen [v] = 1 := by simp [tlen, tl, lm, hv]
    have hbk : Blk (w.alloc (Obj.cells #[Value.int IntKind.u64 v] 49)) w.heap.size [v] := blk_new [v]
    have G := got_of_blk hbk hw (Nat.le_refl _) 1 rfl (S := 1) (by simp) (by simp)
    rw [e1, ev] at G
    exact ⟨some ⟨w.heap.size, 0, none⟩, 1, 1, rfl, G, (Below.refl _ _).alloc (Nat.le_refl _) _⟩
end Go.Proofs.YtfelogbfijomiabGreatDoor

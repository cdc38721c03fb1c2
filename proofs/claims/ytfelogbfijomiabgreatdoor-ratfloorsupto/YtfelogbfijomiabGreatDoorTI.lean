import Derived.Test.YtfelogbfijomiabGreatDoorWhG0
namespace Go.Proofs.YtfelogbfijomiabGreatDoor
open Go.RowKit

/-- The flag and the slice tell the whole number x, in whatever way, S limbs at the most. -/
def TI (w : World) (b : Bool) (a : Option Addr) (n c : Nat) (x : Int) (S : Nat) : Prop := ∃ m, Num w a n c m S ∧ ws b m = x
theorem TI.below {w w' : World} {b : Bool} {a : Option Addr} {n c : Nat} {x : Int} {S : Nat} (h : TI w b a n c x S) (hb : Below w.heap.size w w') : TI w' b a n c x S := by
  obtain ⟨m, h1, h2⟩ := h; exact ⟨m, h1.below hb, h2⟩
theorem TI.drewN {w : World} {b : Bool} {a : Option Addr} {n c : Nat} {x : Int} {S : Nat} (h : TI w b a n c x S) (j : Nat) : TI (w.drewN j) b a n c x S := h.below (belN (Below.refl _ _) j)
theorem GI.form {w : World} {B : Nat} {v : Value} {x : Int} {S : Nat} (h : GI w B v x S) : ∃ b a n c, v = .agg #[.bool b, .slice a n c] := by
  obtain ⟨a, n, c, h1, _⟩ := h; exact ⟨_, a, n, c, h1⟩
theorem GI.ti {w : World} {B : Nat} {b : Bool} {a : Option Addr} {n c : Nat} {x : Int} {S : Nat} (h : GI w B (.agg #[.bool b, .slice a n c]) x S) : TI w b a n c x S := by
  obtain ⟨h1, h2⟩ := h.parts
  exact ⟨_, h2.num, by rw [h1]; exact ws_sign x⟩
theorem addT {a b : Option Addr} {p q : Bool} {na nb ca cb : Nat} {x y : Int} {S R : Nat} (w : World) (ha : TI w p a na ca x S) (hb : TI w q b nb cb y R) (hS : S ≤ 10000000) (hR : R ≤ 10000000) :
    Calls Tryz.prog 40 #[.agg #[.bool p, .slice a na ca], .agg #[.bool q, .slice b nb cb]] w fun e w' => ∃ f c n d, e = .returned (.agg #[.bool f, .slice c n d]) ∧ GI w' w.heap.size (.agg #[.bool f, .slice c n d]) (x + y) (S + R + 1) ∧ Below w.heap.size w w' := by
  obtain ⟨m, h1, rfl⟩ := ha
  obtain ⟨k, h2, rfl⟩ := hb
  refine (addI p q w h1 h2 (by omega) (by omega)).mono ?_
  rintro e w' ⟨v, rfl, G, hb⟩
  obtain ⟨f, c, n, d, rfl⟩ := G.form
  exact ⟨f, c, n, d, rfl, G, hb⟩
theorem subT {a b : Option Addr} {p q : Bool} {na nb ca cb : Nat} {x y : Int} {S R : Nat} (w : World) (ha : TI w p a na ca x S) (hb : TI w q b nb cb y R) (hS : S ≤ 10000000) (hR : R ≤ 10000000) :
    Calls Tryz.prog 72 #[.agg #[.bool p, .slice a na ca], .agg #[.bool q, .slice b nb cb]] w fun e w' => ∃ f c n d, e = .returned (.agg #[.bool f, .slice c n d]) ∧ GI w' w.heap.size (.agg #[.bool f, .slice c n d]) (x - y) (S + R + 1) ∧ Below w.heap.size w w' := by
  obtain ⟨m, h1, rfl⟩ := ha
  obtain ⟨k, h2, rfl⟩ := hb
  refine (subI p q w h1 h2 (by omega) (by omega)).mono ?_
  rintro e w' ⟨v, rfl, G, hb⟩
  obtain ⟨f, c, n, d, rfl⟩ := G.form
  exact ⟨f, c, n, d, rfl, G, hb⟩
theorem mulT {a b : Option Addr} {p q : Bool} {na nb ca cb : Nat} {x y : Int} {S R : Nat} (w : World) (ha : TI w p a na ca x S) (hb : TI w q b nb cb y R) (hS : S ≤ 10000000) (hR : R ≤ 10000000) :
    Calls Tryz.prog 41 #[.agg #[.bool p, .slice a na ca], .agg #[.bool q, .slice b nb cb]] w fun e w' => ∃ f c n d, e = .returned (.agg #[.bool f, .slice c n d]) ∧ GI w' w.heap.size (.agg #[.bool f, .slice c n d]) (x * y) (S + R) ∧ Below w.heap.size w w' := by
  obtain ⟨m, h1, rfl⟩ := ha
  obtain ⟨k, h2, rfl⟩ := hb
  refine (mulI p q w h1 h2 (by omega) (by omega)).mono ?_
  rintro e w' ⟨v, rfl, G, hb⟩
  obtain ⟨f, c, n, d, rfl⟩ := G.form
  exact ⟨f, c, n, d, rfl, G, hb⟩
theorem signT {a : Option Addr} {p : Bool} {na ca : Nat} {x : Int} {S : Nat} (w : World) (ha : TI w p a na ca x S) (hS : S ≤ 10000000) :
    Calls Tryz.prog 45 #[.agg #[.bool p, .slice a na ca]] w fun e w' => e = .returned (.int .i64 x.sign) ∧ Below w.heap.size w w' := by
  obtain ⟨m, h1, rfl⟩ := ha
  exact signI p w h1 (by omega)
theorem cmpT {a b : Option Addr} {p q : Bool} {na nb ca cb : Nat} {x y : Int} {S R : Nat} (w : World) (ha : TI w p a na ca x S) (hb : TI w q b nb cb y R) (hS : S ≤ 10000000) (hR : R ≤ 10000000) :
    Calls Tryz.prog 48 #[.agg #[.bool p, .slice a na ca], .agg #[.bool q, .slice b nb cb]] w fun e w' => e = .returned (.int .i64 (x - y).sign) ∧ Below w.heap.size w w' := by
  obtain ⟨m, h1, rfl⟩ := ha
  obtain ⟨k, h2, rfl⟩ := hb
  exact wcmpI p q w h1 h2 (by omega) (by omega)
theorem ofT (v : Int) (w : World) (h0 : -9223372036854775808 ≤ v) (h1 : v < 9223372036854775808) :
    Calls Tryz.prog 38 #[.int .i64 v] w fun e w' => ∃ f c n d, e = .returned (.agg #[.bool f, .slice c n d]) ∧ GI w' w.heap.size (.agg #[.bool f, .slice c n d]) (v) (1) ∧ Below w.heap.size w w' := by
  refine (ofI v w h0 h1).mono ?_
  rintro e w' ⟨u, rfl, G, hb⟩
  obtain ⟨f, c, n, d, rfl⟩ := G.form
  exact ⟨f, c, n, d, rfl, G, hb⟩
end Go.Proofs.YtfelogbfijomiabGreatDoor

import Derived.Test.YtbkkepbmaadomaaGreatDoorRatAll
import Derived.Test.YtbkkepbmaadomaaGreatDoorR2All
import Derived.Test.YtbkkepbmaadomaaGreatDoorWhEAll
namespace Go.Proofs.YtbkkepbmaadomaaGreatDoor
open Go.RowKit

def isum (X : Nat → Int) : Nat → Int
  | 0 => 0
  | k + 1 => isum X k + X k
theorem isum_le {X : Nat → Int} {M : Int} : ∀ {n : Nat}, (∀ i, i < n → ((X i).natAbs : Int) ≤ M) → ((isum X n).natAbs : Int) ≤ n * M := by
  intro n
  induction n with
  | zero => intro _; simp [isum]
  | succ n ih =>
    intro h
    have h1 := ih fun i hi => h i (by omega)
    have h2 := h n (by omega)
    have e : ((n + 1 : Nat) : Int) * M = n * M + M := by rw [Int.natCast_add, Int.add_mul]; simp
    rw [e]
    show ((isum X n + X n).natAbs : Int) ≤ _
    omega
theorem isum_pw {X : Nat → Int} {S n : Nat} (hn : n ≤ 1000000000000) (h : ∀ i, i < n → ((X i).natAbs : Int) < pw S) : ((isum X n).natAbs : Int) < pw (S + 1) := by
  have h1 := isum_le (X := X) (M := pw S) (n := n) fun i hi => Int.le_of_lt (h i hi)
  have h2 := pw_pos S
  have h3 : (n : Int) * pw S ≤ 1000000000000 * pw S := Int.mul_le_mul_of_nonneg_right (by omega) (by omega)
  rw [pw_succ]
  omega
theorem Below.size_le {B : Nat} {w w' : World} (h : Below B w w') : w.heap.size ≤ w'.heap.size := h.size

end Go.Proofs.YtbkkepbmaadomaaGreatDoor

namespace Go.Proofs.YtbkkepbmaadomaaGreatDoor
open Go.RowKit

theorem bY1 (w : World) : Below w.heap.size w w.drew := belN (Below.refl _ w) 1
theorem bY0 (w : World) (o : Obj) : Below w.heap.size w (w.alloc o) := (Below.refl _ w).alloc (Nat.le_refl _) o
theorem Got.offY {w w' : World} {B R : Nat} {v : Value} {x : Int} {S : Nat} (h : Got w B v x S) (ho : Off R w w') (hR : v.ownBlock ≠ some R) : Got w' B v x S := by
  obtain ⟨xs, h1, h2⟩ := h
  refine ⟨xs, ?_, h2⟩
  refine ⟨h1.1, ?_⟩
  rcases h1.2 with hn | ⟨g, cap, cur, e1, e2, hgb, rest⟩
  · exact .inl hn
  · refine .inr ⟨g, cap, cur, e1, e2, (ho.block g (fun e => hR ?_)).trans hgb, rest⟩
    subst e; rw [e1]; rfl
theorem TI.upY {w : World} {b : Bool} {a : Option Addr} {n c : Nat} {x : Int} {S R : Nat} (h : TI w b a n c x S) (hR : S ≤ R) : TI w b a n c x R := by
  obtain ⟨m, ⟨xs, h1, h2, h3, h4, h5, h6⟩, h7⟩ := h
  exact ⟨m, ⟨xs, h1, h2, h3, h4, h5, by omega⟩, h7⟩
theorem GI.gotY {w : World} {B : Nat} {f : Bool} {c : Option Addr} {n k : Nat} {x : Int} {S : Nat} (h : GI w B (.agg #[.bool f, .slice c n k]) x S) : f = decide (x < 0) ∧ Got w B (.slice c n k) (x.natAbs : Int) S := by
  obtain ⟨a', n2, c2, h1, h2⟩ := h
  simp only [Value.agg.injEq, Array.mk.injEq, List.cons.injEq, and_true] at h1
  obtain ⟨h0, h1⟩ := h1
  simp only [Value.slice.injEq] at h1
  obtain ⟨rfl, rfl, rfl⟩ := h1
  simp only [Value.bool.injEq] at h0
  exact ⟨h0, h2⟩
/-- A whole number in the one form, no limb of which lies in block R. -/
def GY (w : World) (B R : Nat) (f : Bool) (c : Option Addr) (n k : Nat) (x : Int) (S : Nat) : Prop := GI w B (.agg #[.bool f, .slice c n k]) x S ∧ (Value.slice c n k).ownBlock ≠ some R
theorem GY.off {w w' : World} {B R : Nat} {f : Bool} {c : Option Addr} {n k : Nat} {x : Int} {S : Nat} (h : GY w B R f c n k x S) (ho : Off R w w') : GY w' B R f c n k x S := by
  obtain ⟨h1, h2⟩ := h.1.gotY
  exact ⟨⟨c, n, k, by rw [h1], h2.offY ho h.2⟩, h.2⟩
theorem GY.below {w w' : World} {B R : Nat} {f : Bool} {c : Option Addr} {n k : Nat} {x : Int} {S : Nat} (h : GY w B R f c n k x S) (hb : Below w.heap.size w w') : GY w' B R f c n k x S := ⟨h.1.below hb, h.2⟩
theorem GI.gy {w : World} {B R : Nat} {f : Bool} {c : Option Addr} {n k : Nat} {x : Int} {S : Nat} (h : GI w B (.agg #[.bool f, .slice c n k]) x S) (hR : R < B ∨ w.heap.size ≤ R) : GY w B R f c n k x S :=
  ⟨h, fun e => by have := h.gotY.2.lt R e; omega⟩
/-- A list of whole numbers, to be read. -/
def LI (w : World) (a : Option Addr) (n : Nat) (P : Nat → Bool) (A : Nat → Option Addr) (N C : Nat → Nat) : Prop :=
  n = 0 ∨ ∃ b o, a = some ⟨b, o, none⟩ ∧ ∀ i, i < n → w.cell? ⟨b, o + i * 2, none⟩ = some (.bool (P i)) ∧ w.cell? ⟨b, o + i * 2 + 1, none⟩ = some (.slice (A i) (N i) (C i))
theorem LI.below {w w' : World} {a : Option Addr} {n : Nat} {P : Nat → Bool} {A : Nat → Option Addr} {N C : Nat → Nat} (h : LI w a n P A N C) (hb : Below w.heap.size w w') : LI w' a n P A N C := by
  rcases h with h | ⟨b, o, rfl, h⟩
  · exact .inl h
  · exact .inr ⟨b, o, rfl, fun i hi => ⟨kept_c hb (h i hi).1, kept_c hb (h i hi).2⟩⟩
end Go.Proofs.YtbkkepbmaadomaaGreatDoor

import Derived.Test.YtpngkbljalnfjaaGreatDoorR3S
import Derived.Test.YtpngkbljalnfjaaGreatDoorR3SN
import Derived.Test.YtpngkbljalnfjaaGreatDoorR3SM
import Derived.Test.YtpngkbljalnfjaaGreatDoorBeAll
import Derived.Test.YtpngkbljalnfjaaGreatDoorR3Cm
namespace Go.Proofs.YtpngkbljalnfjaaGreatDoor
open Go.RowKit

theorem wp_cut {P : Program} {c : Code} {Q : Exit → Act → World → Prop} {a : Act} {w : World} (J : Act → Act → World → Prop) (h1 : c.wp P (fun e a' w' => e = .normal ∧ J a a' w') a w) (h2 : ∀ a' w', J a a' w' → Q .normal a' w') : c.wp P Q a w :=
  Code.wp_mono (fun e a' w' h => by obtain ⟨rfl, h⟩ := h; exact h2 a' w' h) h1
theorem eqs {q x y z : Rat} (h : q = x ∨ q = y ∨ q = z) : q = x ∨ (q ≠ x ∧ q = y) ∨ (q ≠ x ∧ q ≠ y ∧ q = z) := by
  by_cases h1 : q = x
  · exact .inl h1
  · by_cases h2 : q = y
    · exact .inr (.inl ⟨h1, h2⟩)
    · rcases h with h | h | h
      · exact absurd h h1
      · exact absurd h h2
      · exact .inr (.inr ⟨h1, h2, h⟩)
end Go.Proofs.YtpngkbljalnfjaaGreatDoor

import Derived.Test.YtjlmboakeigmpaaDoorLentAll
import Derived.Test.YtjlmboakeigmpaaDoorRefAll
namespace Go.Proofs.YtjlmboakeigmpaaDoor
open Go.RowKit

theorem lnatG (w : World) (r gf cf gw cw n : Nat) (fs ws : List Int) (h : Lnt w r gf cf gw cw n fs ws) :
    Calls Tryd.prog 27 #[.pointer (some ⟨r, 0, none⟩)] w fun e w' => e = .returned (.slice (some ⟨gf, 0, none⟩) n cf) ∧ Below w.heap.size w w' := by
  refine (lnat_any w r gf cf gw cw n fs ws h).mono ?_
  rintro e w' ⟨rfl, m, rfl⟩
  exact ⟨rfl, belN (Below.refl _ _) m⟩

/-! ### half limbs as numbers -/
end Go.Proofs.YtjlmboakeigmpaaDoor

import Derived.Test.YtkbbdfflodiddabDoorDvsE
namespace Go.Proofs.YtkbbdfflodiddabDoor
open Go.RowKit

/-- NatDivisors, of a list that came in. -/
theorem divisors_call (al : Option Addr) (m cl : Nat) (w : World) (hm : m ≤ 1048576) (h : m = 0 ∨ ∃ b o, al = some ⟨b, o, none⟩ ∧ ∀ j, j < m → ∃ a' n c xs, w.cell? ⟨b, o + j, none⟩ = some (.slice a' n c) ∧ n = xs.length ∧ n ≤ c ∧ Reads w a' xs ∧ AllW xs ∧ n ≤ 1048576) (hT : TabAt 5 Lib.deBruijn64tab w) (hgt : 5 < w.heap.size) :
    Calls Tryd.prog 4 #[.slice al m cl] w fun e w' => e = .returned (.bool true) ∧ Below w.heap.size w w' := by
  rcases h with h0 | ⟨b, o, rfl, h⟩
  · subst h0
    exact divisors_walk al 0 cl (fun _ => none) (fun _ => 0) (fun _ => 0) (fun _ => []) (fun _ => 0) w (.inl rfl) (fun j hj => by omega) (fun j hj => by omega) hm hT hgt
  · have hP : ∀ j, ∃ t : Option Addr × Nat × Nat × List Int, j < m → w.cell? ⟨b, o + j, none⟩ = some (.slice t.1 t.2.1 t.2.2.1) ∧ t.2.1 = t.2.2.2.length ∧ t.2.1 ≤ t.2.2.1 ∧ Reads w t.1 t.2.2.2 ∧ AllW t.2.2.2 ∧ t.2.1 ≤ 1048576 := fun j => by
      rcases Decidable.em (j < m) with hj | hj
      · obtain ⟨a', n, c, xs, h1⟩ := h j hj
        exact ⟨(a', n, c, xs), fun _ => h1⟩
      · exact ⟨(none, 0, 0, []), fun h => absurd h hj⟩
    obtain ⟨f, hf⟩ : ∃ f : Nat → Option Addr × Nat × Nat × List Int, ∀ j, j < m → w.cell? ⟨b, o + j, none⟩ = some (.slice (f j).1 (f j).2.1 (f j).2.2.1) ∧ (f j).2.1 = (f j).2.2.2.length ∧ (f j).2.1 ≤ (f j).2.2.1 ∧ Reads w (f j).1 (f j).2.2.2 ∧ AllW (f j).2.2.2 ∧ (f j).2.1 ≤ 1048576 := ⟨fun j => (hP j).choose, fun j => (hP j).choose_spec⟩
    refine divisors_walk _ m cl (fun j => (f j).1) (fun j => (f j).2.1) (fun j => (f j).2.2.1) (fun j => (f j).2.2.2) (fun j => (val (f j).2.2.2).toNat) w (.inr ⟨b, o, rfl, fun j hj => (hf j hj).1⟩) (fun j hj => (hf j hj).2) (fun j hj => ?_) hm hT hgt
    have := val_nn (hf j hj).2.2.2.2.1
    omega
end Go.Proofs.YtkbbdfflodiddabDoor

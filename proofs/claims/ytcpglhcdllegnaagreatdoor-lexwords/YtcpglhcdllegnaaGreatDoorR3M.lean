import Derived.Test.YtcpglhcdllegnaaGreatDoorRatAll
namespace Go.Proofs.YtcpglhcdllegnaaGreatDoor
open Go.RowKit

theorem TR.neg {w : World} {p : Bool} {a : Option Addr} {na ca : Nat} {d : Option Addr} {nd cd : Nat} {r : Rat} {S : Nat} (h : TR w p a na ca d nd cd r S) : TR w (!p) a na ca d nd cd (-r) S := by
  obtain ⟨x, y, ⟨m, h1, h2⟩, h3, h4⟩ := h
  exact ⟨-x, y, ⟨m, h1, by rw [ws_not, h2]⟩, h3, by rw [← h4, Rat.neg_divInt]⟩
theorem box_rrii (w : World) (u v z u' v' z' u2 v2 u3 v3 : Value) (t t' : TypeId) : Var3 ((((w.alloc (.cells #[u, v, z] t)).alloc (.cells #[u', v', z'] t)).alloc (.cells #[u2, v2] t')).alloc (.cells #[u3, v3] t')) w.heap.size u v z ∧ Var3 ((((w.alloc (.cells #[u, v, z] t)).alloc (.cells #[u', v', z'] t)).alloc (.cells #[u2, v2] t')).alloc (.cells #[u3, v3] t')) (w.heap.size + 1) u' v' z' ∧
    Var2 ((((w.alloc (.cells #[u, v, z] t)).alloc (.cells #[u', v', z'] t)).alloc (.cells #[u2, v2] t')).alloc (.cells #[u3, v3] t')) (w.heap.size + 2) u2 v2 ∧ Var2 ((((w.alloc (.cells #[u, v, z] t)).alloc (.cells #[u', v', z'] t)).alloc (.cells #[u2, v2] t')).alloc (.cells #[u3, v3] t')) (w.heap.size + 3) u3 v3 ∧
    Below w.heap.size w ((((w.alloc (.cells #[u, v, z] t)).alloc (.cells #[u', v', z'] t)).alloc (.cells #[u2, v2] t')).alloc (.cells #[u3, v3] t')) ∧ ((((w.alloc (.cells #[u, v, z] t)).alloc (.cells #[u', v', z'] t)).alloc (.cells #[u2, v2] t')).alloc (.cells #[u3, v3] t')).heap.size = w.heap.size + 4 := by
  obtain ⟨a1, a2, a3, a4⟩ := box_rr w u v z u' v' z' t
  obtain ⟨b1, b2, b3, b4⟩ := box2 ((w.alloc (.cells #[u, v, z] t)).alloc (.cells #[u', v', z'] t)) u2 v2 u3 v3 t'
  rw [a4] at b1 b2
  exact ⟨a1.below b3, a2.below b3, b1, b2, bel_tr a3 b3, by simp⟩
end Go.Proofs.YtcpglhcdllegnaaGreatDoor

import Derived.Test.YtcocjcjjlgcbcaaGreatDoorPvFAll
import Derived.Test.YtcocjcjjlgcbcaaGreatDoorQ3OAll
import Derived.Test.YtcocjcjjlgcbcaaGreatDoorGuardS
import Derived.Test.YtcocjcjjlgcbcaaGreatDoorLaid3
namespace Go.Proofs.YtcocjcjjlgcbcaaGreatDoor
open Go.RowKit

theorem wp_cutK {P : Program} {c : Code} {Q : Exit → Act → World → Prop} {a : Act} {w : World} (J : Act → Act → World → Prop) (h1 : c.wp P (fun e a' w' => e = .normal ∧ J a a' w') a w) (h2 : ∀ a' w', J a a' w' → Q .normal a' w') : c.wp P Q a w :=
  Code.wp_mono (fun e a' w' h => by obtain ⟨rfl, h⟩ := h; exact h2 a' w' h) h1
theorem lq_one {w : World} {p : Bool} {a : Option Addr} {na ca : Nat} {d : Option Addr} {nd cd : Nat} {r : Rat} {S : Nat} (h : TR w p a na ca d nd cd r S) : LQ (w.alloc (.cells #[.bool p, .slice a na ca, .slice d nd cd] 27)) (some ⟨w.heap.size, 0, none⟩) 1 (fun _ => r) (fun _ => S) := by
  have hb := bel_d0 w (.cells #[.bool p, .slice a na ca, .slice d nd cd] 27)
  obtain ⟨c0, c1, c2, _, _, _⟩ := var3_new w (.bool p) (.slice a na ca) (.slice d nd cd) 27
  refine .inr ⟨_, 0, rfl, fun i hi => ?_⟩
  obtain rfl : i = 0 := by omega
  exact ⟨p, a, na, ca, d, nd, cd, c0, c1, c2, h.below hb⟩
end Go.Proofs.YtcocjcjjlgcbcaaGreatDoor

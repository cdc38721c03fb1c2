import Derived.Test.YtcpglhcdllegnaaGreatDoorR3Su
import Derived.Test.YtcpglhcdllegnaaGreatDoorR3Pg
namespace Go.Proofs.YtcpglhcdllegnaaGreatDoor
open Go.RowKit

theorem bel_a {w w1 : World} {o : Obj} (h : Below w.heap.size w w1) : Below w.heap.size w (w1.alloc o) := bel_tr h (bel_d0 _ _)
theorem bel_dr {w w1 : World} {B : Nat} (h : Below B w w1) : Below B w w1.drew := belN h 1
theorem bel_s {w w1 : World} {B R : Nat} {u v : Value} (h : Below B w w1) (hR : B ≤ R) : Below B w ((w1.setCell ⟨R, 0, none⟩ u).setCell ⟨R, 1, none⟩ v) := h.trans ((((Off.refl _ _).set 0 u).set 1 v).below hR)
theorem GI.offX {w w' : World} {B R : Nat} {f : Bool} {c : Option Addr} {n k : Nat} {x : Int} {S : Nat} (h : GI w B (.agg #[.bool f, .slice c n k]) x S) (ho : Off R w w') (hR : (Value.slice c n k).ownBlock ≠ some R) : GI w' B (.agg #[.bool f, .slice c n k]) x S := by
  obtain ⟨a', n2, c2, h1, h2⟩ := h
  simp only [Value.agg.injEq, Array.mk.injEq, List.cons.injEq, and_true] at h1
  obtain ⟨h0, h1⟩ := h1
  simp only [Value.slice.injEq] at h1
  obtain ⟨rfl, rfl, rfl⟩ := h1
  exact ⟨c, n, k, by rw [h0], h2.offX ho hR⟩
theorem Num.valE {w : World} {a : Option Addr} {n c : Nat} {x y : Int} {S : Nat} (h : Num w a n c x S) (e : x = y) : Num w a n c y S := e ▸ h
/-- A region's end, told by itself. -/
theorem wp_cut {P : Program} {c : Code} {Q : Exit → Act → World → Prop} {a : Act} {w : World} (J : Act → Act → World → Prop) (h1 : c.wp P (fun e a' w' => e = .normal ∧ J a a' w') a w) (h2 : ∀ a' w', J a a' w' → Q .normal a' w') : c.wp P Q a w :=
  Code.wp_mono (fun e a' w' h => by obtain ⟨rfl, h⟩ := h; exact h2 a' w' h) h1
end Go.Proofs.YtcpglhcdllegnaaGreatDoor

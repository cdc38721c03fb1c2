import Derived.Test.YtkbbdfflodiddabDoorWhEAll
namespace Go.Proofs.YtkbbdfflodiddabDoor
open Go.RowKit

theorem TI.lt {w : World} {b : Bool} {a : Option Addr} {n c : Nat} {x : Int} {S : Nat} (h : TI w b a n c x S) : (x.natAbs : Int) < pw S := by
  obtain ⟨m, ⟨xs, h1, h2, h3, h4, h5, h6⟩, rfl⟩ := h
  have h7 := val_lt h4
  have h8 := pw_mono (show xs.length ≤ S by omega)
  have h9 := val_nn h4
  rw [ws_abs (by omega)]; omega
theorem GI.shrink {w : World} {B : Nat} {v : Value} {x : Int} {S m : Nat} (h : GI w B v x S) (hx : (x.natAbs : Int) < pw m) : GI w B v x m := by
  obtain ⟨a, n, c, h1, h2⟩ := h; exact ⟨a, n, c, h1, h2.shrink hx⟩
theorem GI.nil (w : World) (B : Nat) : GI w B (.agg #[.bool false, .slice none 0 0]) 0 0 := ⟨none, 0, 0, rfl, Got.nil w B⟩
end Go.Proofs.YtkbbdfflodiddabDoor

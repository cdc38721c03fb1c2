import Derived.Test.YtogdpgfccbohnabDoorEnds
import Derived.LaidEql
namespace Go.Proofs.YtogdpgfccbohnabDoor
open Go.RowKit

/-- An error that stands in a package's variable. -/
def Errs (w : World) (g : Nat) (v : Value) : Prop := w.cell? ⟨g, 0, none⟩ = some v ∧ ∃ p, v = .iface 105 (.pointer (some p))
theorem Errs.below {w w' : World} {g : Nat} {v : Value} (h : Errs w g v) (hb : Below w.heap.size w w') : Errs w' g v := ⟨by rw [hb.cell (World.block_lt_of_cell? _ _ h.1)]; exact h.1, h.2⟩
theorem Tryd.errComp : (Tryd.prog.info? 105).map (·.comparable) = some true := by kernel_rfl
theorem Tryd.errSize : (Tryd.prog.info? 122).map (·.size) = some 1 := by kernel_rfl
set_option maxHeartbeats 400000 in
theorem isG {a b : Option Addr} {na nb ca cb B B' : Nat} {x y : Int} {S R : Nat} (w : World) (ha : Got w B (.slice a na ca) x S) (hb : Got w B' (.slice b nb cb) y R) (hxy : x = y) (hS : S ≤ 1000000000000) :
    Calls Tryd.prog 15 #[.slice a na ca, .nilIface, .slice b nb cb] w fun e w' => e = .returned (.bool true) ∧ Below w.heap.size w w' := by
  have SM := sameG w ha hb hxy hS
  clear ha hb hxy
  go_enter Tryd.func15, Tryd.ntmps15
  go_wp2_with fail
  refine SM.mono ?_
  rintro e w1 ⟨rfl, hb⟩
  go_wp2
  go_ret
  exact ⟨rfl, hb⟩
set_option maxHeartbeats 400000 in
theorem refusedE {ev : Value} {g : Nat} (w : World) (hE : Errs w g ev) :
    Calls Tryd.prog 14 #[.slice none 0 0, ev, ev] w fun e w' => e = .returned (.bool true) ∧ w = w' := by
  obtain ⟨_, p, rfl⟩ := hE
  obtain ⟨i, hi, hcmp⟩ := Option.map_eq_some_iff.1 Tryd.errComp
  obtain ⟨j, hj, _⟩ := Option.map_eq_some_iff.1 Tryd.errSize
  have heq := run_eql_iface_ptr_same (P := Tryd.prog) w p Tryd.underlying28 Tryd.underlying105 hi hcmp hj
  go_enter Tryd.func14, Tryd.ntmps14
  go_wp2
  go_ret
  exact ⟨rfl, rfl⟩
end Go.Proofs.YtogdpgfccbohnabDoor

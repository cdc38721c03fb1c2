import Derived.Test.YtogdpgfccbohnaaDoorEnds
import Derived.LaidEql
namespace Go.Proofs.YtogdpgfccbohnaaDoor
open Go.RowKit

/-- An error that stands in a package's variable. -/
def Errs (w : World) (g : Nat) (v : Value) : Prop := w.cell? ⟨g, 0, none⟩ = some v ∧ ∃ p, v = .iface 85 (.pointer (some p))
theorem Errs.below {w w' : World} {g : Nat} {v : Value} (h : Errs w g v) (hb : Below w.heap.size w w') : Errs w' g v := ⟨by rw [hb.cell (World.block_lt_of_cell? _ _ h.1)]; exact h.1, h.2⟩
theorem Tryd.errComp : (Tryd.prog.info? 85).map (·.comparable) = some true := by kernel_rfl
theorem Tryd.errSize : (Tryd.prog.info? 103).map (·.size) = some 1 := by kernel_rfl
set_option maxHeartbeats 400000 in
theorem isG {a b : Option Addr} {na nb ca cb B B' : Nat} {x y : Int} {S R : Nat} (w : World) (ha : Got w B (.slice a na ca) x S) (hb : Got w B' (.slice b nb cb) y R) (hxy : x = y) (hS : S ≤ 1000000000000) :
    Calls Tryd.prog 33 #[.slice a na ca, .nilIface, .slice b nb cb] w fun e w' => e = .returned (.bool true) ∧ Below w.heap.size w w' := by
  have SM := sameG w ha hb hxy hS
  clear ha hb hxy
  go_enter Tryd.func33, Tryd.ntmps33
  go_wp2_with fail
  refine SM.mono ?_
  rintro e w1 ⟨rfl, hb⟩
  go_wp2
  go_ret
  exact ⟨rfl, hb⟩
set_option maxHeartbeats 400000 in
theorem refusedE {ev : Value} {g : Nat} (w : World) (hE : Errs w g ev) :
    Calls Tryd.prog 35 #[.slice none 0 0, ev, ev] w fun e w' => e = .returned (.bool true) ∧ w = w' := by
  obtain ⟨_, p, rfl⟩ := hE
  obtain ⟨i, hi, hcmp⟩ := Option.map_eq_some_iff.1 Tryd.errComp
  obtain ⟨j, hj, _⟩ := Option.map_eq_some_iff.1 Tryd.errSize
  have heq := run_eql_iface_ptr_same (P := Tryd.prog) w p Tryd.underlying45 Tryd.underlying85 hi hcmp hj
  go_enter Tryd.func35, Tryd.ntmps35
  go_wp2
  go_ret
  exact ⟨rfl, rfl⟩
end Go.Proofs.YtogdpgfccbohnaaDoor

/-
  DERIVED. GIVEN WITH THE SEED: THE PROGRAM's TIES (one call each: nine closed facts by the kernel) AND EACH ROW's TIE, after the 31st guide's Derived/Test/Toyas{Tie, Card}.lean. No idea stands in it: it is a product of the set-up. Laid BY PROGRAM, IN A SANDBOX (cutbox-door.mjs). By AI agents, Wed Nov 11 2026. No macro, syntax, notation, axiom, sorry.
-/
import Derived.Test.YtnokmjmefipplaaGreatDoorRows
import Derived.LaidByTextLater
import Derived.SevenTiedAt
import Derived.LaidSub
import Derived.LaidOnce
namespace Go.Proofs.YtnokmjmefipplaaGreatDoor
open Go
set_option maxRecDepth 100000
theorem seatTie1 : Tryz.prog.laidByTextLater [("math/bits.deBruijn64tab", Rows.laid_math_bits_deBruijn64tab), ("vertex/api.ErrDivide", Rows.laid_vertex_api_ErrDivide), ("vertex/api.ErrBelow", Rows.laid_vertex_api_ErrBelow), ("vertex/api.ErrShape", Rows.laid_vertex_api_ErrShape), ("vertex/api.ErrPoint", Rows.laid_vertex_api_ErrPoint), ("vertex/api.ErrValue", Rows.laid_vertex_api_ErrValue), ("vertex/api.ErrBound", Rows.laid_vertex_api_ErrBound), ("vertex/api.ErrRay", Rows.laid_vertex_api_ErrRay), ("vertex/api.ErrVerdict", Rows.laid_vertex_api_ErrVerdict), ("vertex/api.ErrOpen", Rows.laid_vertex_api_ErrOpen), ("vertex/api.ErrTree", Rows.laid_vertex_api_ErrTree), ("vertex/api.ErrWhole", Rows.laid_vertex_api_ErrWhole)] [.data, .sentinel, .sentinel, .sentinel, .sentinel, .sentinel, .sentinel, .sentinel, .sentinel, .sentinel, .sentinel, .sentinel] true :=
  Program.laidByTextLater_by_one 223 8 65 (by kernel_rfl) (by kernel_rfl) (by kernel_rfl) (by kernel_rfl) (by kernel_rfl) (by kernel_rfl) (fun _ _ => by kernel_rfl)
theorem noOwnUnsafe : Tryz.pinned.checked.prog.headLifts.contains "ownunsafe" = false := by kernel_rfl
theorem tie : Tryz.prog.laidByTextLater [("math/bits.deBruijn64tab", Rows.laid_math_bits_deBruijn64tab), ("vertex/api.ErrDivide", Rows.laid_vertex_api_ErrDivide), ("vertex/api.ErrBelow", Rows.laid_vertex_api_ErrBelow), ("vertex/api.ErrShape", Rows.laid_vertex_api_ErrShape), ("vertex/api.ErrPoint", Rows.laid_vertex_api_ErrPoint), ("vertex/api.ErrValue", Rows.laid_vertex_api_ErrValue), ("vertex/api.ErrBound", Rows.laid_vertex_api_ErrBound), ("vertex/api.ErrRay", Rows.laid_vertex_api_ErrRay), ("vertex/api.ErrVerdict", Rows.laid_vertex_api_ErrVerdict), ("vertex/api.ErrOpen", Rows.laid_vertex_api_ErrOpen), ("vertex/api.ErrTree", Rows.laid_vertex_api_ErrTree), ("vertex/api.ErrWhole", Rows.laid_vertex_api_ErrWhole)] [.data, .sentinel, .sentinel, .sentinel, .sentinel, .sentinel, .sentinel, .sentinel, .sentinel, .sentinel, .sentinel, .sentinel] true :=
  Program.laidByTextLater.sub seatTie1 ["math/bits.deBruijn64tab", "vertex/api.ErrDivide", "vertex/api.ErrBelow", "vertex/api.ErrShape", "vertex/api.ErrPoint", "vertex/api.ErrValue", "vertex/api.ErrBound", "vertex/api.ErrRay", "vertex/api.ErrVerdict", "vertex/api.ErrOpen", "vertex/api.ErrTree", "vertex/api.ErrWhole"] (by kernel_rfl) (by kernel_rfl)
theorem topTree_row_tie : Rows.topTreeRow.laidByTextAt .later Tryz.pinned [.data, .sentinel, .sentinel, .sentinel, .sentinel, .sentinel, .sentinel, .sentinel, .sentinel, .sentinel, .sentinel, .sentinel] true :=
  OpenClaim.laidByTextAt_later rfl rfl tie noOwnUnsafe
theorem topTreeUpto_row_tie : Rows.topTreeUptoRow.laidByTextAt .later Tryz.pinned [.data, .sentinel, .sentinel, .sentinel, .sentinel, .sentinel, .sentinel, .sentinel, .sentinel, .sentinel, .sentinel, .sentinel] true :=
  OpenClaim.laidByTextAt_later rfl rfl tie noOwnUnsafe
end Go.Proofs.YtnokmjmefipplaaGreatDoor

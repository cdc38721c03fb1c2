/-
  DERIVED. GIVEN WITH THE SEED: THE PROGRAM's TIES (one call each: nine closed facts by the kernel) AND EACH ROW's TIE, after the 31st guide's Derived/Test/Toyas{Tie, Card}.lean. No idea stands in it: it is a product of the set-up. Laid BY PROGRAM, IN A SANDBOX (cutbox-door.mjs). By AI agents, Wed Nov 11 2026. No macro, syntax, notation, axiom, sorry.
-/
import Derived.Test.YtjlmboakeigmpaaDoorRows
import Derived.LaidByTextLater
import Derived.SevenTiedAt
import Derived.LaidSub
import Derived.LaidOnce
namespace Go.Proofs.YtjlmboakeigmpaaDoor
open Go
set_option maxRecDepth 100000
theorem seatTie1 : Tryd.prog.laidByTextLater [("math/bits.deBruijn64tab", Rows.laid_math_bits_deBruijn64tab), ("vertex/api.ErrArg", Rows.laid_vertex_api_ErrArg), ("vertex/api.ErrLong", Rows.laid_vertex_api_ErrLong), ("vertex/api.ErrDivide", Rows.laid_vertex_api_ErrDivide), ("vertex/api.ErrBelow", Rows.laid_vertex_api_ErrBelow), ("vertex/api.ErrFloat", Rows.laid_vertex_api_ErrFloat)] [.data, .sentinel, .sentinel, .sentinel, .sentinel, .sentinel] true :=
  Program.laidByTextLater_by_one 109 8 65 (by kernel_rfl) (by kernel_rfl) (by kernel_rfl) (by kernel_rfl) (by kernel_rfl) (by kernel_rfl) (fun _ _ => by kernel_rfl)
theorem noOwnUnsafe : Tryd.pinned.checked.prog.headLifts.contains "ownunsafe" = false := by kernel_rfl
theorem tie : Tryd.prog.laidByTextLater [("math/bits.deBruijn64tab", Rows.laid_math_bits_deBruijn64tab), ("vertex/api.ErrArg", Rows.laid_vertex_api_ErrArg), ("vertex/api.ErrLong", Rows.laid_vertex_api_ErrLong), ("vertex/api.ErrDivide", Rows.laid_vertex_api_ErrDivide), ("vertex/api.ErrFloat", Rows.laid_vertex_api_ErrFloat)] [.data, .sentinel, .sentinel, .sentinel, .sentinel] true :=
  Program.laidByTextLater.sub seatTie1 ["math/bits.deBruijn64tab", "vertex/api.ErrArg", "vertex/api.ErrLong", "vertex/api.ErrDivide", "vertex/api.ErrFloat"] (by kernel_rfl) (by kernel_rfl)
theorem nearFloats_row_tie : Rows.nearFloatsRow.laidByTextAt .later Tryd.pinned [.data, .sentinel, .sentinel, .sentinel, .sentinel] true :=
  OpenClaim.laidByTextAt_later rfl rfl tie noOwnUnsafe
theorem nearRises_row_tie : Rows.nearRisesRow.laidByTextAt .later Tryd.pinned [.data, .sentinel, .sentinel, .sentinel, .sentinel] true :=
  OpenClaim.laidByTextAt_later rfl rfl tie noOwnUnsafe
theorem tie2 : Tryd.prog.laidByTextLater [("math/bits.deBruijn64tab", Rows.laid_math_bits_deBruijn64tab), ("vertex/api.ErrArg", Rows.laid_vertex_api_ErrArg), ("vertex/api.ErrLong", Rows.laid_vertex_api_ErrLong), ("vertex/api.ErrDivide", Rows.laid_vertex_api_ErrDivide), ("vertex/api.ErrBelow", Rows.laid_vertex_api_ErrBelow), ("vertex/api.ErrFloat", Rows.laid_vertex_api_ErrFloat)] [.data, .sentinel, .sentinel, .sentinel, .sentinel, .sentinel] true :=
  Program.laidByTextLater.sub seatTie1 ["math/bits.deBruijn64tab", "vertex/api.ErrArg", "vertex/api.ErrLong", "vertex/api.ErrDivide", "vertex/api.ErrBelow", "vertex/api.ErrFloat"] (by kernel_rfl) (by kernel_rfl)
theorem nearNeighbours_row_tie : Rows.nearNeighboursRow.laidByTextAt .later Tryd.pinned [.data, .sentinel, .sentinel, .sentinel, .sentinel, .sentinel] true :=
  OpenClaim.laidByTextAt_later rfl rfl tie2 noOwnUnsafe
theorem nearFloatsUpto_row_tie : Rows.nearFloatsUptoRow.laidByTextAt .later Tryd.pinned [.data, .sentinel, .sentinel, .sentinel, .sentinel] true :=
  OpenClaim.laidByTextAt_later rfl rfl tie noOwnUnsafe
theorem nearNeighboursUpto_row_tie : Rows.nearNeighboursUptoRow.laidByTextAt .later Tryd.pinned [.data, .sentinel, .sentinel, .sentinel, .sentinel, .sentinel] true :=
  OpenClaim.laidByTextAt_later rfl rfl tie2 noOwnUnsafe
theorem nearRisesUpto_row_tie : Rows.nearRisesUptoRow.laidByTextAt .later Tryd.pinned [.data, .sentinel, .sentinel, .sentinel, .sentinel] true :=
  OpenClaim.laidByTextAt_later rfl rfl tie noOwnUnsafe
end Go.Proofs.YtjlmboakeigmpaaDoor

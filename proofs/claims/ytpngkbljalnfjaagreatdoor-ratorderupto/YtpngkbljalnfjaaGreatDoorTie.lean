/-
  DERIVED. GIVEN WITH THE SEED: THE PROGRAM's TIES (one call each: nine closed facts by the kernel) AND EACH ROW's TIE, after the 31st guide's Derived/Test/Toyas{Tie, Card}.lean. No idea stands in it: it is a product of the set-up. Laid BY PROGRAM, IN A SANDBOX (cutbox-door.mjs). By AI agents, Wed Nov 11 2026. No macro, syntax, notation, axiom, sorry.
-/
import Derived.Test.YtpngkbljalnfjaaGreatDoorRows
import Derived.LaidByTextLater
import Derived.SevenTiedAt
import Derived.LaidSub
import Derived.LaidOnce
namespace Go.Proofs.YtpngkbljalnfjaaGreatDoor
open Go
set_option maxRecDepth 100000
theorem seatTie1 : Tryz.prog.laidByTextLater [("math/bits.deBruijn64tab", Rows.laid_math_bits_deBruijn64tab), ("vertex/api.ErrArg", Rows.laid_vertex_api_ErrArg), ("vertex/api.ErrDivide", Rows.laid_vertex_api_ErrDivide), ("vertex/api.ErrBelow", Rows.laid_vertex_api_ErrBelow), ("vertex/api.ErrNumber", Rows.laid_vertex_api_ErrNumber), ("vertex/api.ErrExponent", Rows.laid_vertex_api_ErrExponent)] [.data, .sentinel, .sentinel, .sentinel, .sentinel, .sentinel] true :=
  Program.laidByTextLater_by_one 109 8 65 (by kernel_rfl) (by kernel_rfl) (by kernel_rfl) (by kernel_rfl) (by kernel_rfl) (by kernel_rfl) (fun _ _ => by kernel_rfl)
theorem noOwnUnsafe : Tryz.pinned.checked.prog.headLifts.contains "ownunsafe" = false := by kernel_rfl
theorem tie : Tryz.prog.laidByTextLater [("math/bits.deBruijn64tab", Rows.laid_math_bits_deBruijn64tab), ("vertex/api.ErrDivide", Rows.laid_vertex_api_ErrDivide), ("vertex/api.ErrBelow", Rows.laid_vertex_api_ErrBelow), ("vertex/api.ErrNumber", Rows.laid_vertex_api_ErrNumber), ("vertex/api.ErrExponent", Rows.laid_vertex_api_ErrExponent)] [.data, .sentinel, .sentinel, .sentinel, .sentinel] true :=
  Program.laidByTextLater.sub seatTie1 ["math/bits.deBruijn64tab", "vertex/api.ErrDivide", "vertex/api.ErrBelow", "vertex/api.ErrNumber", "vertex/api.ErrExponent"] (by kernel_rfl) (by kernel_rfl)
theorem ratOrder_row_tie : Rows.ratOrderRow.laidByTextAt .later Tryz.pinned [.data, .sentinel, .sentinel, .sentinel, .sentinel] true :=
  OpenClaim.laidByTextAt_later rfl rfl tie noOwnUnsafe
theorem ratLowest_row_tie : Rows.ratLowestRow.laidByTextAt .later Tryz.pinned [.data, .sentinel, .sentinel, .sentinel, .sentinel] true :=
  OpenClaim.laidByTextAt_later rfl rfl tie noOwnUnsafe
theorem ratAdds_row_tie : Rows.ratAddsRow.laidByTextAt .later Tryz.pinned [.data, .sentinel, .sentinel, .sentinel, .sentinel] true :=
  OpenClaim.laidByTextAt_later rfl rfl tie noOwnUnsafe
theorem tie2 : Tryz.prog.laidByTextLater [("math/bits.deBruijn64tab", Rows.laid_math_bits_deBruijn64tab), ("vertex/api.ErrArg", Rows.laid_vertex_api_ErrArg), ("vertex/api.ErrDivide", Rows.laid_vertex_api_ErrDivide), ("vertex/api.ErrBelow", Rows.laid_vertex_api_ErrBelow), ("vertex/api.ErrNumber", Rows.laid_vertex_api_ErrNumber), ("vertex/api.ErrExponent", Rows.laid_vertex_api_ErrExponent)] [.data, .sentinel, .sentinel, .sentinel, .sentinel, .sentinel] true :=
  Program.laidByTextLater.sub seatTie1 ["math/bits.deBruijn64tab", "vertex/api.ErrArg", "vertex/api.ErrDivide", "vertex/api.ErrBelow", "vertex/api.ErrNumber", "vertex/api.ErrExponent"] (by kernel_rfl) (by kernel_rfl)
theorem ratForms_row_tie : Rows.ratFormsRow.laidByTextAt .later Tryz.pinned [.data, .sentinel, .sentinel, .sentinel, .sentinel, .sentinel] true :=
  OpenClaim.laidByTextAt_later rfl rfl tie2 noOwnUnsafe
theorem ratDivides_row_tie : Rows.ratDividesRow.laidByTextAt .later Tryz.pinned [.data, .sentinel, .sentinel, .sentinel, .sentinel, .sentinel] true :=
  OpenClaim.laidByTextAt_later rfl rfl tie2 noOwnUnsafe
theorem ratOrderUpto_row_tie : Rows.ratOrderUptoRow.laidByTextAt .later Tryz.pinned [.data, .sentinel, .sentinel, .sentinel, .sentinel] true :=
  OpenClaim.laidByTextAt_later rfl rfl tie noOwnUnsafe
theorem ratLowestUpto_row_tie : Rows.ratLowestUptoRow.laidByTextAt .later Tryz.pinned [.data, .sentinel, .sentinel, .sentinel, .sentinel] true :=
  OpenClaim.laidByTextAt_later rfl rfl tie noOwnUnsafe
theorem ratAddsUpto_row_tie : Rows.ratAddsUptoRow.laidByTextAt .later Tryz.pinned [.data, .sentinel, .sentinel, .sentinel, .sentinel] true :=
  OpenClaim.laidByTextAt_later rfl rfl tie noOwnUnsafe
theorem ratFormsUpto_row_tie : Rows.ratFormsUptoRow.laidByTextAt .later Tryz.pinned [.data, .sentinel, .sentinel, .sentinel, .sentinel, .sentinel] true :=
  OpenClaim.laidByTextAt_later rfl rfl tie2 noOwnUnsafe
theorem ratDividesUpto_row_tie : Rows.ratDividesUptoRow.laidByTextAt .later Tryz.pinned [.data, .sentinel, .sentinel, .sentinel, .sentinel, .sentinel] true :=
  OpenClaim.laidByTextAt_later rfl rfl tie2 noOwnUnsafe
end Go.Proofs.YtpngkbljalnfjaaGreatDoor

import Derived.Test.YtcpglhcdllegnabGreatDoorLzC
import Derived.Test.YtcpglhcdllegnabGreatDoorLyJ
import Derived.Lay
import Derived.Test.YtcpglhcdllegnabGreatDoorOpAll
namespace Go.Proofs.YtcpglhcdllegnabGreatDoor.lexNumbersP
open Go.ChangeShapes Go.WideShapes Go.ChangeAt Go.RowKit

set_option maxRecDepth 100000 in
theorem contract (H : Type) (enc : TypeId × Value → H) (W : World) (base : Nat) (args : Array Value) (ds gs : List (DataW H)) (before : List MemPlace)
    (hval : ∀ (j : Nat) t v, Tryz.f3.params[j]? = some t → args[j]? = some v → Value.okWide Tryz.prog W .any base t v)
    (hW : DataW.Whole enc Tryz.prog Tryz.f3.params.toList Rows.lexNumbersSpec.vars false W args.toList ds gs before) (hk : Rows.uptoSmall H (ds ++ gs) = true) (hL : laidMetH Tryz.prog Rows.lexNumbersUptoRow.laid W) :
    Calls Tryz.prog 3 args W fun e W' => ∃ v, e = .returned v ∧ Rows.lexNumbersSpec.post enc Tryz.prog Tryz.f3 false true false false W args v W' := by
  have hW' := hW
  obtain ⟨p, q, hA0, hV, rfl, hfz, hnd⟩ := hW
  have hA : DataW.TrodAll enc Tryz.prog W 0 (fun _ => true) true Tryz.f3.params.toList args.toList ds p := hA0
  rw [Tryz.params3] at hA hval
  obtain ⟨v0, vs0, d0, ds0, p0, q0, hargs, rfl, rfl, h0, r0⟩ := trodAll_cons hA
  obtain ⟨v1, vs1, d1, ds1, p1, q1, rfl, rfl, rfl, h1, r1⟩ := trodAll_cons r0
  obtain ⟨rfl, rfl, rfl⟩ := trodAll_nil r1
  obtain rfl : args = #[v0, v1] := by cases args; simp_all
  obtain ⟨rfl, rfl⟩ := trodVars_none hV
  have hb := of_decide_eq_true hk
  simp only [List.append_nil, Rows.uptoBulkAll] at hb
  obtain ⟨b0, a0, n0, c0, a'0, n'0, c'0, r0q, rfl, R0⟩ := open_rat (hval 0 27 v0 rfl rfl) h0 (by omega)
  obtain ⟨x1, rfl, rfl, rfl, w1⟩ := open_int Tryz.underlying3 (hval 1 3 v1 rfl rfl) h1
  have hT : Tabs W := ⟨pairs_head (T := wordT) (n := (Rows.lexNumbersUptoRow.laid.getD 10 ("", .nil)).1) (g := 2) (t := 107) (e := 106) (m := 28) (by kernel_rfl) (by kernel_rfl) Tryz.underlying107 Tryz.underlying106 Tryz.underlying9 Tryz.underlying3 rfl rfl (by kernel_rfl) (by kernel_rfl) (by kernel_rfl) (by kernel_rfl) (laid_one hL (n := (Rows.lexNumbersUptoRow.laid.getD 10 ("", .nil)).1) (d := prD wordT) (by kernel_rfl) (by kernel_rfl)), pairs_head (T := sgT) (n := (Rows.lexNumbersUptoRow.laid.getD 9 ("", .nil)).1) (g := 3) (t := 150) (e := 149) (m := 10) (by kernel_rfl) (by kernel_rfl) Tryz.underlying150 Tryz.underlying149 Tryz.underlying9 Tryz.underlying3 rfl rfl (by kernel_rfl) (by kernel_rfl) (by kernel_rfl) (by kernel_rfl) (laid_one hL (n := (Rows.lexNumbersUptoRow.laid.getD 9 ("", .nil)).1) (d := prD sgT) (by kernel_rfl) (by kernel_rfl)), tab_head (n := (Rows.lexNumbersUptoRow.laid.getD 0 ("", .nil)).1) (g := 13) (tab := Lib.deBruijn64tab) (by kernel_rfl) (by kernel_rfl) rfl (laid_one hL (n := (Rows.lexNumbersUptoRow.laid.getD 0 ("", .nil)).1) (d := .agg (Lib.deBruijn64tab.map fun (k : Nat) => .lit (.int .u8 (k : Int)))) (by kernel_rfl) (by kernel_rfl))⟩
  obtain ⟨a3, E3⟩ := errs_head (n := (Rows.lexNumbersUptoRow.laid.getD 5 ("", .nil)).1) (g := 0) (by kernel_rfl) (by kernel_rfl) (laid_one hL (n := (Rows.lexNumbersUptoRow.laid.getD 5 ("", .nil)).1) (d := Rows.laid_vertex_api_ErrDivide) (by kernel_rfl) (by kernel_rfl))
  have hg : W.cell? ⟨1, 0, none⟩ = some (.iface 122 (.agg #[.pointer (some ⟨16, 33, none⟩)])) := laid_handle hL (n := (Rows.lexNumbersUptoRow.laid.getD 2 ("", .nil)).1) (d := Rows.laid_errors_errorType) (by kernel_rfl) (by kernel_rfl) (by kernel_rfl) (N := Tryz.prog.types.size) rfl (by kernel_rfl) (by kernel_rfl) (by kernel_rfl)
  refine (numbers_walk x1 W R0 (int_wf w1).1 (Int.lt_add_one_of_le (int_wf w1).2) hT E3 hg).mono fun e W' ⟨he, bel⟩ => ?_
  subst he
  exact ⟨_, rfl, _, _, _, [], _, [], hW', trodAll_mk1 (shut_bool Tryz.underlying4 _), trodAll_cons_mk (trod_rat h0 bel) (trodAll_cons_mk (shut_int Tryz.underlying3 w1) trodAll_mk0), rfl, bel.frame _, fun h => by cases h⟩

theorem laid_met (os : Os) (args : Array Value) : laidMetH Tryz.prog Rows.lexNumbersUptoRow.laid ((({ World.holding Tryz.prog os ⟨#[], #[], []⟩ with heap := (World.holding Tryz.prog os ⟨#[], #[], []⟩).heap.modify 1 fun | .cells _ t fr => .cells #[.iface 122 (.agg #[.pointer (some ⟨16, 33, none⟩)])] t fr | o => o } : World).layVars Tryz.prog (Rows.lexNumbersUptoRow.laid.filter fun x => x.2.handleName?.isNone)).forCall (fun _ _ => 0) ⟨#[], args, []⟩).memory :=
  laidMetH_of_parts3 (fuel := 8) (laidMet_all2 args (by kernel_rfl) (by kernel_rfl)) (by kernel_rfl) (by kernel_rfl)
theorem reads (os : Os) {H : Type} (enc : TypeId × Value → H) : ∃ places, DataW.whole enc Tryz.prog ((({ World.holding Tryz.prog os ⟨#[], #[], []⟩ with heap := (World.holding Tryz.prog os ⟨#[], #[], []⟩).heap.modify 1 fun | .cells _ t fr => .cells #[.iface 122 (.agg #[.pointer (some ⟨16, 33, none⟩)])] t fr | o => o } : World).layVars Tryz.prog (Rows.lexNumbersUptoRow.laid.filter fun x => x.2.handleName?.isNone)).forCall (fun _ _ => 0) ⟨#[], #[.agg #[.bool false, .slice none 0 0, .slice none 0 0], .int .i64 0], []⟩).memory Tryz.f3.params.toList Rows.lexNumbersSpec.vars false #[Value.agg #[.bool false, .slice none 0 0, .slice none 0 0], .int .i64 0].toList 8 = some ([.agg [.agg [.lit (.bool false), .nil], .nil], .lit (.int .i64 0)], [], places) :=
  ⟨[], by kernel_rfl⟩

set_option maxRecDepth 100000 in
theorem liftedUpto (os : Os) (started : os.Started) (H : Type) (enc : TypeId × Value → H) (F : Stop.Interp) :
    ReturnsInHanded {} Tryz.checked os 3 .any ((Rows.OpenSpec.upto Rows.lexNumbersSpec).preRow enc Tryz.prog Tryz.f3 Rows.lexNumbersUptoRow.domain false Rows.lexNumbersUptoRow.laid) (((Rows.OpenSpec.upto Rows.lexNumbersSpec).at F).post enc Tryz.prog Tryz.f3 false true false false) := by
  obtain ⟨places, hx⟩ := reads os enc
  refine returnsInHanded_of_row (C := Tryz.checked) (s := Rows.OpenSpec.upto Rows.lexNumbersSpec) own started (by kernel_rfl) Tryz.func3
    (witness_row_atRef (enc := enc) (C := Tryz.checked) false (({ World.holding Tryz.prog os ⟨#[], #[], []⟩ with heap := (World.holding Tryz.prog os ⟨#[], #[], []⟩).heap.modify 1 fun | .cells _ t fr => .cells #[.iface 122 (.agg #[.pointer (some ⟨16, 33, none⟩)])] t fr | o => o } : World).layVars Tryz.prog (Rows.lexNumbersUptoRow.laid.filter fun x => x.2.handleName?.isNone)) #[.agg #[.bool false, .slice none 0 0, .slice none 0 0], .int .i64 0] (World.layVars_os _ _ _) (by kernel_rfl) (by kernel_rfl) (by kernel_rfl)
      (OpenSpec.preRow_of_cond 8 hx (by kernel_rfl) (fun k hk => by cases hk; kernel_rfl) (by kernel_rfl) (laid_met os _))) ?_
  intro W base args ds gs before hval hW _ hcond _ hL _ _
  exact contract H enc W base args ds gs before hval hW (hcond _ rfl) hL

theorem saidUpto : Rows.LexNumbersUptoSaid :=
  OpenClaim.holds_of_cond 3 Tryz.f3 rfl rfl rfl rfl rfl rfl rfl ⟨rfl, rfl, rfl, rfl, rfl⟩ rfl rfl rfl rfl rfl (by kernel_rfl) Tryz.func3 (by kernel_rfl)
    (of_decide_eq_true (by kernel_rfl)) (by unfold Func.isWrapper; first | (rw [if_pos (by decide +kernel)]; kernel_rfl) | (rw [if_neg (by decide +kernel)]; exact ⟨rfl, rfl⟩))
    (fun os started H enc _ F => by rw [OpenClaim.pre_eq_preRow]; exact liftedUpto os started H enc F)

theorem plain (f : FuncId) (fn : Func) (hf : Tryz.pinned.checked.prog.funcNamed Rows.lexNumbersUptoRow.func = some f) (hfn : Tryz.pinned.checked.prog.funcs[f]? = some fn) :
    true = Tryz.pinned.checked.prog.looks [] ∧ ∀ (j : Nat) t, fn.params[j]? = some t → Tryz.pinned.checked.prog.wantsStandIn t = false := by
  obtain rfl : f = 3 := Option.some.inj ((show Tryz.prog.funcNamed Rows.lexNumbersUptoRow.func = some 3 by kernel_rfl).symm.trans hf) |>.symm
  obtain rfl : fn = Tryz.f3 := (Option.some.inj (Tryz.func3.symm.trans hfn)).symm
  refine ⟨by kernel_rfl, fun j t ht => ?_⟩
  rw [Tryz.params3] at ht
  have hm := Array.mem_of_getElem? ht
  have hm2 : t = 27 ∨ t = 3 := by simpa using hm
  rcases hm2 with rfl | rfl
  · exact (show Tryz.prog.wantsStandIn 27 = false by kernel_rfl)
  · exact (show Tryz.prog.wantsStandIn 3 = false by kernel_rfl)

theorem cardUpto : Rows.LexNumbersUptoCardSaid :=
  Claim7.holds_tied_plain_at .later [] _ _ _ _ saidUpto (fun _ h => by cases h) (by kernel_rfl) (fun _ h => by cases h) lexNumbersUpto_row_tie rfl ⟨rfl, rfl⟩ (by kernel_rfl) rfl plain (by kernel_rfl)
end Go.Proofs.YtcpglhcdllegnabGreatDoor.lexNumbersP
namespace Go.Proofs.YtcpglhcdllegnabGreatDoor
theorem lexNumbers_upto : Rows.LexNumbersUptoCardSaid := lexNumbersP.cardUpto
end Go.Proofs.YtcpglhcdllegnabGreatDoor

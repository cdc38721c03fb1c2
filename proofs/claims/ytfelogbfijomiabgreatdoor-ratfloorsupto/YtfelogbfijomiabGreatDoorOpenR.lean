import Derived.Test.YtfelogbfijomiabGreatDoorOpenI
import Derived.Test.YtfelogbfijomiabGreatDoorRatAll
namespace Go.Proofs.YtfelogbfijomiabGreatDoor
open Go.ChangeShapes Go.WideShapes Go.ChangeAt Go.RowKit

theorem cellsRat : Tryz.prog.cellsOf 30 = 3 := by kernel_rfl
set_option maxRecDepth 100000 in
/-- A fraction that came in: what it tells. -/
theorem open_rat {H : Type} {enc : TypeId × Value → H} {W : World} {base : Nat} {v : Value} {d : DataW H} {p : List MemPlace} (hv : Value.okWide Tryz.prog W .any base 30 v)
    (h : DataW.Trod enc Tryz.prog W 0 (fun _ => true) true 30 v d p) (hk : Rows.uptoBulk d ≤ 1048576) :
    ∃ b a n cap a' n' cap' r, v = .agg #[.bool b, .slice a n cap, .slice a' n' cap'] ∧ TR W b a n cap a' n' cap' r 1048576 := by
  obtain ⟨cs, rfl, hsz⟩ := okWide_struct Tryz.underlying30 hv
  obtain ⟨fuel, hf⟩ := h
  rw [cellsRat] at hsz
  obtain ⟨y0, y1, m, hx, _, hy0, hy1⟩ := trod_struct2 Tryz.underlying30 hf
  obtain ⟨l⟩ := cs
  match l, hsz with
  | [u0, u1, u2], _ =>
    simp only [Value.cells, cellsInt, cellsNatI, List.drop_zero, List.drop_succ_cons, List.take_succ_cons, List.take_zero] at hy0 hy1
    have hd : d = .agg [y0.1, y1.1] := (Prod.mk.inj hx).1
    obtain ⟨z0, z1, m', hx', _, hz0, hz1⟩ := trod_struct2 Tryz.underlying28 hy0
    simp only [cellsBool, cellsNatI, List.drop_zero, List.drop_succ_cons, List.take_succ_cons, List.take_zero] at hz0 hz1
    have hd' : y0.1 = .agg [z0.1, z1.1] := by rw [hx']
    have hb2 : Rows.uptoBulk y0.1 ≤ 1048576 ∧ Rows.uptoBulk y1.1 ≤ 1048576 := by
      rw [hd] at hk
      have := bulk_agg (H := H) [y0.1, y1.1]
      simp only [Rows.uptoBulkAll] at this
      omega
    have hb1 : Rows.uptoBulk z1.1 ≤ 1048576 := by
      have h1 := hb2.1
      rw [hd'] at h1
      have := bulk_agg (H := H) [z0.1, z1.1]
      simp only [Rows.uptoBulkAll] at this
      omega
    obtain ⟨a, n, cap, xs, rfl, h1, h2, h3, h4, h5⟩ := open_natc hz1 hb1
    obtain ⟨a', n', cap', ys, rfl, k1, k2, k3, k4, k5⟩ := open_natc hy1 hb2.2
    have hbool : ∃ b, u0 = .bool b := by
      cases m' with
      | zero => simp [DataW.trod] at hz0
      | succ m' =>
        simp only [DataW.trod, Tryz.underlying4] at hz0
        cases u0 <;> simp_all
    obtain ⟨b, rfl⟩ := hbool
    exact ⟨b, a, n, cap, a', n', cap', _, rfl, _, _, ⟨_, ⟨xs, h1, h2, h3, h4, rfl, h5⟩, rfl⟩, ⟨ys, k1, k2, k3, k4, rfl, k5⟩, rfl⟩
set_option maxRecDepth 100000 in
theorem trod_rat {H : Type} {enc : TypeId × Value → H} {W W' : World} {v : Value} {d : DataW H} {p : List MemPlace} (h : DataW.Trod enc Tryz.prog W 0 (fun _ => true) true 30 v d p) (bel : Below W.heap.size W W') :
    DataW.Trod enc Tryz.prog W' 0 (fun b => decide (b < W.heap.size)) true 30 v d p :=
  Below.trod laidOut (by kernel_rfl) (of_decide_eq_true (by kernel_rfl)) h bel (trod_blocks h)
end Go.Proofs.YtfelogbfijomiabGreatDoor

import Derived.Test.YtjapbhdoemfgkaaGreatDoorOpRAll
namespace Go.Proofs.YtjapbhdoemfgkaaGreatDoor
open Go.ChangeShapes Go.WideShapes Go.ChangeAt Go.RowKit

section
variable {H : Type} {enc : TypeId × Value → H} {W : World}
set_option maxRecDepth 100000 in
/-- A list of variables that came in. -/
theorem open_varsV {base : Nat} {v : Value} {dd : DataW H} {pl : List MemPlace} (hv : Value.okWide Tryz.prog W .any base 22 v) (h : DataW.Trod enc Tryz.prog W 0 (fun _ => true) true 22 v dd pl) :
    ∃ a m cap V Z, v = .slice a m cap ∧ m ≤ cap ∧ LV W a m V Z ∧ tot Z m ≤ Rows.uptoBulk dd := by
  obtain ⟨a, m, cap, rfl⟩ := okWide_slice Tryz.underlying22 hv
  obtain ⟨fuel, hf⟩ := h
  exact open_vars (x := (dd, pl)) (by simpa [Value.cells] using hf)
theorem trod_vars {W' : World} {v : Value} {d : DataW H} {p : List MemPlace} (h : DataW.Trod enc Tryz.prog W 0 (fun _ => true) true 22 v d p) (bel : Below W.heap.size W W') :
    DataW.Trod enc Tryz.prog W' 0 (fun b => decide (b < W.heap.size)) true 22 v d p :=
  Below.trod laidOut (by kernel_rfl) (of_decide_eq_true (by kernel_rfl)) h bel (trod_blocks h)
set_option maxRecDepth 100000 in
/-- A fraction that came in, its limbs counted alone. -/
theorem open_rat4 {base : Nat} {v : Value} {d : DataW H} {p : List MemPlace} (hv : Value.okWide Tryz.prog W .any base 28 v)
    (h : DataW.Trod enc Tryz.prog W 0 (fun _ => true) true 28 v d p) :
    ∃ b a n cap a' n' cap' r, v = .agg #[.bool b, .slice a n cap, .slice a' n' cap'] ∧ TR W b a n cap a' n' cap' r (Rows.uptoBulk d - 4) ∧ 5 ≤ Rows.uptoBulk d := by
  obtain ⟨cs, rfl, hsz⟩ := okWide_struct Tryz.underlying28 hv
  obtain ⟨fuel, hf⟩ := h
  rw [cellsRat] at hsz
  obtain ⟨l⟩ := cs
  obtain ⟨y0, y1, m, hx, _, hy0, hy1⟩ := trod_struct2 (cs := l) (x := (d, p)) Tryz.underlying28 (by simpa [Value.cells] using hf)
  match l, (show l.length = 3 by simpa using hsz) with
  | [u0, u1, u2], _ =>
    simp only [cellsInt, cellsNatI, List.drop_zero, List.drop_succ_cons, List.take_succ_cons, List.take_zero] at hy0 hy1
    have hd : d = .agg [y0.1, y1.1] := by injection hx
    obtain ⟨z0, z1, m', hx', _, hz0, hz1⟩ := trod_struct2 Tryz.underlying26 hy0
    simp only [cellsBool, cellsNatI, List.drop_zero, List.drop_succ_cons, List.take_succ_cons, List.take_zero] at hz0 hz1
    have hd' : y0.1 = .agg [z0.1, z1.1] := by rw [hx']
    have hB : Rows.uptoBulk d = Rows.uptoBulk y0.1 + (Rows.uptoBulk y1.1 + 0) + 1 := by rw [hd]; simp only [Rows.uptoBulk, Rows.uptoBulkAll]
    have hB' : Rows.uptoBulk y0.1 = Rows.uptoBulk z0.1 + (Rows.uptoBulk z1.1 + 0) + 1 := by rw [hd']; simp only [Rows.uptoBulk, Rows.uptoBulkAll]
    obtain ⟨a, n, cap, xs, rfl, h1, h2, h3, h4, h5⟩ := open_natK hz1 (Nat.le_refl _)
    obtain ⟨a', n', cap', ys, rfl, k1, k2, k3, k4, k5⟩ := open_natK hy1 (Nat.le_refl _)
    have l0 := bulk_one z0.1
    have l1 := bulk_one z1.1
    have l2 := bulk_one y1.1
    have hbool : ∃ b, u0 = .bool b := by
      cases m' with
      | zero => simp [DataW.trod] at hz0
      | succ m' =>
        simp only [DataW.trod, Tryz.underlying4] at hz0
        cases u0 <;> simp_all
    obtain ⟨b, rfl⟩ := hbool
    exact ⟨b, a, n, cap, a', n', cap', _, rfl, ⟨_, _, ⟨_, ⟨xs, h1, h2, h3, h4, rfl, by omega⟩, rfl⟩, ⟨ys, k1, k2, k3, k4, rfl, by omega⟩, rfl⟩, by omega⟩
end
end Go.Proofs.YtjapbhdoemfgkaaGreatDoor

import Derived.Test.YtcocjcjjlgcbcaaGreatDoorOpRAll
import Derived.Test.YtcocjcjjlgcbcaaGreatDoorPvFAll
namespace Go.Proofs.YtcocjcjjlgcbcaaGreatDoor
open Go.ChangeShapes Go.WideShapes Go.ChangeAt Go.RowKit

section
variable {H : Type} {enc : TypeId × Value → H} {W : World}
theorem cellsCert : Tryz.prog.cellsOf 34 = 7 := by kernel_rfl
theorem cellsRatL : Tryz.prog.cellsOf 32 = 1 := by kernel_rfl
theorem open_ratsc {fuel : Nat} {u : Value} {x : DataW H × List MemPlace} (hf : DataW.trod enc Tryz.prog W 0 (fun _ => true) true fuel 32 [u] = some x) :
    ∃ a m cap X Z, u = .slice a m cap ∧ m ≤ cap ∧ LQ W a m X Z ∧ (∀ i, i < m → 1 ≤ Z i ∧ SzR (X i) (Z i)) ∧ tot Z m ≤ Rows.uptoBulk x.1 := by
  obtain ⟨a, m, cap, ys, rfl, hm, hl, hb, h⟩ := open_slicec Tryz.underlying32 cellsRat (by decide) hf
  have ht := tot_bulk ys
  rw [hl] at ht
  rcases h with h0 | ⟨b, o, rfl, h⟩
  · exact ⟨a, m, cap, fun _ => 0, bulkAt ys, rfl, hm, .inl h0, fun i hi => by omega, by omega⟩
  · obtain ⟨X, hX⟩ := pick (0 : Rat) (P := fun j r => C3 W b (o + j * 3) r (bulkAt ys j) ∧ SzR r (bulkAt ys j) ∧ 1 ≤ bulkAt ys j) (fun j hj => by
      obtain ⟨cs, n, y, e1, e2, e3, e4⟩ := h j hj
      obtain ⟨r, c1, s1, g1⟩ := open_c3 e2 e3 e4
      exact ⟨r, by rw [bulkAt_eq e1]; exact ⟨c1, s1, by omega⟩⟩)
    exact ⟨_, m, cap, X, bulkAt ys, rfl, hm, .inr ⟨b, o, rfl, fun j hj => (hX j hj).1⟩, fun i hi => ⟨(hX i hi).2.2, (hX i hi).2.1⟩, by omega⟩
set_option maxRecDepth 100000 in
/-- A certificate that came in. -/
theorem open_cert {base : Nat} {v : Value} {dd : DataW H} {pl : List MemPlace} (hv : Value.okWide Tryz.prog W .any base 34 v) (h : DataW.Trod enc Tryz.prog W 0 (fun _ => true) true 34 v dd pl) :
    ∃ C : Crt, v = C.val ∧ CQ W C ∧ C.K = Rows.uptoBulk dd := by
  obtain ⟨cs, rfl, hsz⟩ := okWide_struct Tryz.underlying34 hv
  obtain ⟨fuel, hf⟩ := h
  rw [cellsCert] at hsz
  obtain ⟨l⟩ := cs
  obtain ⟨y0, y1, y2, y3, y4, m, hx, hy0, hy1, hy2, hy3, hy4⟩ := trod_struct5 (cs := l) (x := (dd, pl)) Tryz.underlying34 (by simpa [Value.cells] using hf)
  have hB : Rows.uptoBulk dd = Rows.uptoBulk y0.1 + (Rows.uptoBulk y1.1 + (Rows.uptoBulk y2.1 + (Rows.uptoBulk y3.1 + (Rows.uptoBulk y4.1 + 0)))) + 1 := by
    have hx' : dd = .agg [y0.1, y1.1, y2.1, y3.1, y4.1] := hx
    rw [hx']; simp only [Rows.uptoBulk, Rows.uptoBulkAll]
  match l, hsz with
  | [u0, u1, u2, u3, u4, u5, u6], _ =>
    simp only [cellsIntg, cellsRat, cellsRatL, List.drop_zero, List.drop_succ_cons, List.take_succ_cons, List.take_zero] at hy0 hy1 hy2 hy3 hy4
    obtain ⟨k, e0, _, _⟩ := DataW.trod_int Tryz.underlying3 hy0
    simp only [List.cons.injEq, and_true] at e0
    subst e0
    obtain ⟨p, a, na, ca, d, nd, cd, r, e2, hT, h2⟩ := open_ratc rfl hy1
    simp only [List.cons.injEq, and_true] at e2
    obtain ⟨rfl, rfl, rfl⟩ := e2
    obtain ⟨xa, xn, xc, X, ZX, rfl, hxc, hX, hzx, htx⟩ := open_ratsc hy2
    obtain ⟨ya, yn, yc, Y, ZY, rfl, hyc, hY, hzy, hty⟩ := open_ratsc hy3
    obtain ⟨za, zn, zc, Z, ZZ, rfl, hzc, hZ, hzz, htz⟩ := open_ratsc hy4
    exact ⟨⟨k, p, a, na, ca, d, nd, cd, xa, xn, xc, ya, yn, yc, za, zn, zc, r, X, Y, Z, ZX, ZY, ZZ, Rows.uptoBulk y1.1 - 1, Rows.uptoBulk dd⟩, rfl, ⟨hT, by show 1 ≤ Rows.uptoBulk y1.1 - 1; omega, hT.sz (by omega), hX, hzx, hY, hzy, hZ, hzz, by show Rows.uptoBulk y1.1 - 1 + tot ZX xn + tot ZY yn + tot ZZ zn ≤ Rows.uptoBulk dd; omega, hxc, hzc⟩, rfl⟩
theorem trod_cert {W' : World} {v : Value} {d : DataW H} {p : List MemPlace} (h : DataW.Trod enc Tryz.prog W 0 (fun _ => true) true 34 v d p) (bel : Below W.heap.size W W') :
    DataW.Trod enc Tryz.prog W' 0 (fun b => decide (b < W.heap.size)) true 34 v d p :=
  Below.trod laidOut (by kernel_rfl) (of_decide_eq_true (by kernel_rfl)) h bel (trod_blocks h)
end
end Go.Proofs.YtcocjcjjlgcbcaaGreatDoor

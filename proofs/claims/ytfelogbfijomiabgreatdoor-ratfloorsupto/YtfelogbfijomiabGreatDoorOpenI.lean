import Derived.Test.YtfelogbfijomiabGreatDoorOpen
namespace Go.Proofs.YtfelogbfijomiabGreatDoor
open Go.ChangeShapes Go.WideShapes Go.ChangeAt Go.RowKit

theorem cellsInt : Tryz.prog.cellsOf 28 = 2 := by kernel_rfl
theorem cellsBool : Tryz.prog.cellsOf 4 = 1 := by kernel_rfl
theorem cellsNatI : Tryz.prog.cellsOf 26 = 1 := by kernel_rfl
set_option maxRecDepth 100000 in
/-- A number's one cell, read as data. -/
theorem open_natc {H : Type} {enc : TypeId × Value → H} {W : World} {fuel : Nat} {u : Value} {x : DataW H × List MemPlace}
    (hf : DataW.trod enc Tryz.prog W 0 (fun _ => true) true fuel 26 [u] = some x) (hk : Rows.uptoBulk x.1 ≤ 1048576) :
    ∃ a n cap xs, u = .slice a n cap ∧ n = xs.length ∧ n ≤ cap ∧ Reads W a xs ∧ AllW xs ∧ n ≤ 1048576 := by
  rcases open_ints Tryz.underlying26 Tryz.underlying49 cellsU64 hf with ⟨hcs, _⟩ | ⟨p, n, c, zs, hcs, _, hl, hm, hz, hx, hcell, hwz⟩
  · simp only [List.cons.injEq, and_true] at hcs
    exact ⟨_, _, _, [], hcs, rfl, Nat.le_refl _, .inl rfl, AllW.nil, Nat.zero_le _⟩
  · simp only [List.cons.injEq, and_true] at hcs
    simp only [if_true] at hz
    rw [hx] at hk
    have hlen : (zs.take n).length = n := by rw [List.length_take]; omega
    have hb : n ≤ 1048576 := by
      have := bulk_slice (H := H) (lits .u64 (zs.take n)) (lits .u64 (zs.drop n))
      have hk2 : Rows.uptoBulk (H := H) (.slice (lits .u64 (zs.take n)) (lits .u64 (zs.drop n))) ≤ 1048576 := hk
      have e1 : (lits (H := H) .u64 (zs.take n)).length = (zs.take n).length := by simp [lits]
      omega
    refine ⟨_, _, _, zs.take n, hcs, hlen.symm, hl, ?_, ?_, hb⟩
    · by_cases h0 : n = 0
      · exact .inl (by simp [h0])
      · obtain ⟨b, o, spot⟩ := p
        have hc := hcell 0 (by omega)
        have hspot : spot = none := by simpa [Addr.add] using World.cell?_spot hc
        subst hspot
        refine .inr ⟨b, o, rfl, fun i hi => ?_⟩
        rw [lm_take (by omega)]
        have := hcell i (by omega)
        by_cases hi0 : i = 0
        · subst hi0; simpa [Addr.add, lm] using this
        · simpa [Addr.add, lm, hi0] using this
    · intro y hy
      have := hwz y (List.mem_of_mem_take hy)
      simp [Lit.wf, IntKind.min, IntKind.max, IntKind.signed, IntKind.bits] at this
      exact ⟨by omega, by omega⟩
theorem bulk_agg {H : Type} (l : List (DataW H)) : Rows.uptoBulkAll l ≤ Rows.uptoBulk (.agg l) := by simp only [Rows.uptoBulk]; omega
set_option maxRecDepth 100000 in
/-- A whole number that came in: its sign and its limbs. -/
theorem open_whole {H : Type} {enc : TypeId × Value → H} {W : World} {base : Nat} {v : Value} {d : DataW H} {p : List MemPlace} (hv : Value.okWide Tryz.prog W .any base 28 v)
    (h : DataW.Trod enc Tryz.prog W 0 (fun _ => true) true 28 v d p) (hk : Rows.uptoBulk d ≤ 1048576) :
    ∃ b a n cap xs, v = .agg #[.bool b, .slice a n cap] ∧ n = xs.length ∧ n ≤ cap ∧ Reads W a xs ∧ AllW xs ∧ n ≤ 1048576 := by
  obtain ⟨cs, rfl, hsz⟩ := okWide_struct Tryz.underlying28 hv
  obtain ⟨fuel, hf⟩ := h
  rw [cellsInt] at hsz
  obtain ⟨y0, y1, m, hx, _, hy0, hy1⟩ := trod_struct2 Tryz.underlying28 hf
  obtain ⟨l⟩ := cs
  match l, hsz with
  | [u0, u1], _ =>
    simp only [Value.cells, cellsBool, cellsNatI, List.drop_zero, List.drop_succ_cons, List.take_succ_cons, List.take_zero] at hy0 hy1
    have hd : d = .agg [y0.1, y1.1] := (Prod.mk.inj hx).1
    have hb : Rows.uptoBulk y1.1 ≤ 1048576 := by
      rw [hd] at hk
      have := bulk_agg (H := H) [y0.1, y1.1]
      simp only [Rows.uptoBulkAll] at this
      omega
    obtain ⟨a, n, cap, xs, rfl, h1, h2, h3, h4, h5⟩ := open_natc hy1 hb
    have hbool : ∃ b, u0 = .bool b := by
      cases m with
      | zero => simp [DataW.trod] at hy0
      | succ m =>
        simp only [DataW.trod, Tryz.underlying4] at hy0
        cases u0 <;> simp_all
    obtain ⟨b, rfl⟩ := hbool
    exact ⟨b, a, n, cap, xs, rfl, h1, h2, h3, h4, h5⟩
set_option maxRecDepth 100000 in
theorem trod_whole {H : Type} {enc : TypeId × Value → H} {W W' : World} {v : Value} {d : DataW H} {p : List MemPlace} (h : DataW.Trod enc Tryz.prog W 0 (fun _ => true) true 28 v d p) (bel : Below W.heap.size W W') :
    DataW.Trod enc Tryz.prog W' 0 (fun b => decide (b < W.heap.size)) true 28 v d p :=
  Below.trod laidOut (by kernel_rfl) (of_decide_eq_true (by kernel_rfl)) h bel (trod_blocks h)
end Go.Proofs.YtfelogbfijomiabGreatDoor

import Derived.Test.YtcakohejaboplaaGreatDoorNumAll
import Derived.Test.YtcakohejaboplaaGreatDoorCards
import Derived.Test.YtcakohejaboplaaGreatDoorTie
import Derived.ProofKit
import Derived.OpenShut
import Derived.LaidMore
import Derived.Deep.DeepHandedRow
import Derived.Deep.DeepWitnessRowRef
import Derived.Test.YtcakohejaboplaaGreatDoorRatAll
import Derived.Stop.LaidErr
import Derived.MakeChecks
import Derived.Shelf.Spec.TrailingZeros
namespace Go.Proofs.YtcakohejaboplaaGreatDoor
open Go.ChangeShapes Go.WideShapes Go.ChangeAt Go.RowKit

theorem own : ownKnob Tryz.prog.godebug = none := by kernel_rfl
theorem laidOut : laidOutB Tryz.prog = true := by kernel_rfl
theorem cellsU64 : Tryz.prog.cellsOf 94 = 1 := by kernel_rfl

theorem word_wf {x : Int} (h : (Lit.int .u64 x).wf = true) : 0 ≤ x ∧ x < 18446744073709551616 := by
  simp [Lit.wf, IntKind.min, IntKind.max, IntKind.signed, IntKind.bits] at h
  exact ⟨by omega, by omega⟩
theorem int_wf {x : Int} (h : (Lit.int .i64 x).wf = true) : -9223372036854775808 ≤ x ∧ x ≤ 9223372036854775807 := by
  simp [Lit.wf, IntKind.min, IntKind.max, IntKind.signed, IntKind.bits] at h
  exact ⟨by omega, by omega⟩
theorem bulk_one {H : Type} (d : DataW H) : 1 ≤ Rows.uptoBulk d := by
  cases d with
  | lit l => cases l <;> simp [Rows.uptoBulk]
  | nil => simp [Rows.uptoBulk]
  | ptr d => simp [Rows.uptoBulk]
  | slice elems spare => simp [Rows.uptoBulk]
  | agg parts => simp [Rows.uptoBulk]
  | iface t d => simp [Rows.uptoBulk]
  | map entries => simp [Rows.uptoBulk]
  | held h => simp [Rows.uptoBulk]
theorem bulk_length {H : Type} (l : List (DataW H)) : l.length ≤ Rows.uptoBulkAll l := by
  induction l with
  | nil => simp [Rows.uptoBulkAll]
  | cons x r ih => have := bulk_one x; simp only [Rows.uptoBulkAll, List.length_cons]; omega
theorem bulk_slice {H : Type} (elems spare : List (DataW H)) : elems.length + spare.length ≤ Rows.uptoBulk (.slice elems spare) := by
  have h1 := bulk_length elems
  have h2 := bulk_length spare
  simp only [Rows.uptoBulk]
  omega

set_option maxRecDepth 100000 in
/-- A number that came in: its limbs. -/
theorem open_nat {H : Type} {enc : TypeId × Value → H} {W : World} {base : Nat} {v : Value} {d : DataW H} {p : List MemPlace} (hv : Value.okWide Tryz.prog W .any base 23 v)
    (h : DataW.Trod enc Tryz.prog W 0 (fun _ => true) true 23 v d p) (hk : Rows.uptoBulk d ≤ 1048576) :
    ∃ a n cap xs, v = .slice a n cap ∧ n = xs.length ∧ n ≤ cap ∧ Reads W a xs ∧ AllW xs ∧ n ≤ 1048576 := by
  obtain ⟨a, n, cap, rfl⟩ := okWide_slice Tryz.underlying23 hv
  obtain ⟨fuel, hf⟩ := h
  rcases open_ints Tryz.underlying23 Tryz.underlying94 cellsU64 hf with ⟨hcs, _⟩ | ⟨x, l, c, zs, hcs, _, hl, hm, hz, hx, hcell, hwz⟩
  · simp [Value.cells] at hcs
    obtain ⟨rfl, rfl, rfl⟩ := hcs
    exact ⟨_, _, _, [], rfl, rfl, Nat.le_refl _, .inl rfl, AllW.nil, Nat.zero_le _⟩
  · simp [Value.cells] at hcs
    obtain ⟨rfl, rfl, rfl⟩ := hcs
    simp only [if_true] at hz
    simp only [Prod.mk.injEq] at hx
    have hlen : (zs.take n).length = n := by rw [List.length_take]; omega
    have hb : n ≤ 1048576 := by
      have := bulk_slice (H := H) (lits .u64 (zs.take n)) (lits .u64 (zs.drop n))
      rw [← hx.1] at this
      simp only [lits, List.length_map] at this
      omega
    refine ⟨_, _, _, zs.take n, rfl, hlen.symm, hl, ?_, ?_, hb⟩
    · by_cases h0 : n = 0
      · exact .inl (by simp [h0])
      · obtain ⟨b, o, spot⟩ := x
        have hc := hcell 0 (by omega)
        have hspot : spot = none := by simpa [Addr.add] using World.cell?_spot hc
        subst hspot
        refine .inr ⟨b, o, rfl, fun i hi => ?_⟩
        rw [lm_take (by omega)]
        have := hcell i (by omega)
        by_cases hi0 : i = 0
        · subst hi0; simpa [Addr.add, lm] using this
        · simpa [Addr.add, lm, hi0] using this
    · intro y hy
      have := hwz y (List.mem_of_mem_take hy)
      simp [Lit.wf, IntKind.min, IntKind.max, IntKind.signed, IntKind.bits] at this
      exact ⟨by omega, by omega⟩
theorem trod_blocks {H : Type} {enc : TypeId × Value → H} {W : World} {t : TypeId} {v : Value} {d : DataW H} {p : List MemPlace} (h : DataW.Trod enc Tryz.prog W 0 (fun _ => true) true t v d p) : ∀ x ∈ p, x.block < W.heap.size := by
  obtain ⟨m, hm⟩ := h; exact DataW.trod_lt m _ _ _ hm
set_option maxRecDepth 100000 in
theorem trod_nat {H : Type} {enc : TypeId × Value → H} {W W' : World} {v : Value} {d : DataW H} {p : List MemPlace} (h : DataW.Trod enc Tryz.prog W 0 (fun _ => true) true 23 v d p) (bel : Below W.heap.size W W') :
    DataW.Trod enc Tryz.prog W' 0 (fun b => decide (b < W.heap.size)) true 23 v d p :=
  Below.trod laidOut (by kernel_rfl) (of_decide_eq_true (by kernel_rfl)) h bel (trod_blocks h)
end Go.Proofs.YtcakohejaboplaaGreatDoor

namespace Go.Proofs.YtcakohejaboplaaGreatDoor
open Go.ChangeShapes Go.WideShapes Go.ChangeAt Go.RowKit

theorem cellsInt : Tryz.prog.cellsOf 25 = 2 := by kernel_rfl
theorem cellsBool : Tryz.prog.cellsOf 4 = 1 := by kernel_rfl
theorem cellsNatI : Tryz.prog.cellsOf 23 = 1 := by kernel_rfl
set_option maxRecDepth 100000 in
/-- A number's one cell, read as data. -/
theorem open_natc {H : Type} {enc : TypeId × Value → H} {W : World} {fuel : Nat} {u : Value} {x : DataW H × List MemPlace}
    (hf : DataW.trod enc Tryz.prog W 0 (fun _ => true) true fuel 23 [u] = some x) (hk : Rows.uptoBulk x.1 ≤ 1048576) :
    ∃ a n cap xs, u = .slice a n cap ∧ n = xs.length ∧ n ≤ cap ∧ Reads W a xs ∧ AllW xs ∧ n ≤ 1048576 := by
  rcases open_ints Tryz.underlying23 Tryz.underlying94 cellsU64 hf with ⟨hcs, _⟩ | ⟨p, n, c, zs, hcs, _, hl, hm, hz, hx, hcell, hwz⟩
  · simp only [List.cons.injEq, and_true] at hcs
    exact ⟨_, _, _, [], hcs, rfl, Nat.le_refl _, .inl rfl, AllW.nil, Nat.zero_le _⟩
  · simp only [List.cons.injEq, and_true] at hcs
    simp only [if_true] at hz
    rw [hx] at hk
    have hlen : (zs.take n).length = n := by rw [List.length_take]; omega
    have hb : n ≤ 1048576 := by
      have := bulk_slice (H := H) (lits .u64 (zs.take n)) (lits .u64 (zs.drop n))
      have hk2 : Rows.uptoBulk (H := H) (.slice (lits .u64 (zs.take n)) (lits .u64 (zs.drop n))) ≤ 1048576 := hk
      have e1 : (lits (H := H) .u64 (zs.take n)).length = (zs.take n).length := by simp [lits]
      omega
    refine ⟨_, _, _, zs.take n, hcs, hlen.symm, hl, ?_, ?_, hb⟩
    · by_cases h0 : n = 0
      · exact .inl (by simp [h0])
      · obtain ⟨b, o, spot⟩ := p
        have hc := hcell 0 (by omega)
        have hspot : spot = none := by simpa [Addr.add] using World.cell?_spot hc
        subst hspot
        refine .inr ⟨b, o, rfl, fun i hi => ?_⟩
        rw [lm_take (by omega)]
        have := hcell i (by omega)
        by_cases hi0 : i = 0
        · subst hi0; simpa [Addr.add, lm] using this
        · simpa [Addr.add, lm, hi0] using this
    · intro y hy
      have := hwz y (List.mem_of_mem_take hy)
      simp [Lit.wf, IntKind.min, IntKind.max, IntKind.signed, IntKind.bits] at this
      exact ⟨by omega, by omega⟩
theorem bulk_agg {H : Type} (l : List (DataW H)) : Rows.uptoBulkAll l ≤ Rows.uptoBulk (.agg l) := by simp only [Rows.uptoBulk]; omega
set_option maxRecDepth 100000 in
/-- A whole number that came in: its sign and its limbs. -/
theorem open_whole {H : Type} {enc : TypeId × Value → H} {W : World} {base : Nat} {v : Value} {d : DataW H} {p : List MemPlace} (hv : Value.okWide Tryz.prog W .any base 25 v)
    (h : DataW.Trod enc Tryz.prog W 0 (fun _ => true) true 25 v d p) (hk : Rows.uptoBulk d ≤ 1048576) :
    ∃ b a n cap xs, v = .agg #[.bool b, .slice a n cap] ∧ n = xs.length ∧ n ≤ cap ∧ Reads W a xs ∧ AllW xs ∧ n ≤ 1048576 := by
  obtain ⟨cs, rfl, hsz⟩ := okWide_struct Tryz.underlying25 hv
  obtain ⟨fuel, hf⟩ := h
  rw [cellsInt] at hsz
  obtain ⟨y0, y1, m, hx, _, hy0, hy1⟩ := trod_struct2 Tryz.underlying25 hf
  obtain ⟨l⟩ := cs
  match l, hsz with
  | [u0, u1], _ =>
    simp only [Value.cells, cellsBool, cellsNatI, List.drop_zero, List.drop_succ_cons, List.take_succ_cons, List.take_zero] at hy0 hy1
    have hd : d = .agg [y0.1, y1.1] := (Prod.mk.inj hx).1
    have hb : Rows.uptoBulk y1.1 ≤ 1048576 := by
      rw [hd] at hk
      have := bulk_agg (H := H) [y0.1, y1.1]
      simp only [Rows.uptoBulkAll] at this
      omega
    obtain ⟨a, n, cap, xs, rfl, h1, h2, h3, h4, h5⟩ := open_natc hy1 hb
    have hbool : ∃ b, u0 = .bool b := by
      cases m with
      | zero => simp [DataW.trod] at hy0
      | succ m =>
        simp only [DataW.trod, Tryz.underlying4] at hy0
        cases u0 <;> simp_all
    obtain ⟨b, rfl⟩ := hbool
    exact ⟨b, a, n, cap, xs, rfl, h1, h2, h3, h4, h5⟩
set_option maxRecDepth 100000 in
theorem trod_whole {H : Type} {enc : TypeId × Value → H} {W W' : World} {v : Value} {d : DataW H} {p : List MemPlace} (h : DataW.Trod enc Tryz.prog W 0 (fun _ => true) true 25 v d p) (bel : Below W.heap.size W W') :
    DataW.Trod enc Tryz.prog W' 0 (fun b => decide (b < W.heap.size)) true 25 v d p :=
  Below.trod laidOut (by kernel_rfl) (of_decide_eq_true (by kernel_rfl)) h bel (trod_blocks h)
end Go.Proofs.YtcakohejaboplaaGreatDoor

namespace Go.Proofs.YtcakohejaboplaaGreatDoor
open Go.ChangeShapes Go.WideShapes Go.ChangeAt Go.RowKit

theorem cellsRat : Tryz.prog.cellsOf 27 = 3 := by kernel_rfl
set_option maxRecDepth 100000 in
/-- A fraction that came in: what it tells. -/
theorem open_rat {H : Type} {enc : TypeId × Value → H} {W : World} {base : Nat} {v : Value} {d : DataW H} {p : List MemPlace} (hv : Value.okWide Tryz.prog W .any base 27 v)
    (h : DataW.Trod enc Tryz.prog W 0 (fun _ => true) true 27 v d p) (hk : Rows.uptoBulk d ≤ 1048576) :
    ∃ b a n cap a' n' cap' r, v = .agg #[.bool b, .slice a n cap, .slice a' n' cap'] ∧ TR W b a n cap a' n' cap' r 1048576 := by
  obtain ⟨cs, rfl, hsz⟩ := okWide_struct Tryz.underlying27 hv
  obtain ⟨fuel, hf⟩ := h
  rw [cellsRat] at hsz
  obtain ⟨y0, y1, m, hx, _, hy0, hy1⟩ := trod_struct2 Tryz.underlying27 hf
  obtain ⟨l⟩ := cs
  match l, hsz with
  | [u0, u1, u2], _ =>
    simp only [Value.cells, cellsInt, cellsNatI, List.drop_zero, List.drop_succ_cons, List.take_succ_cons, List.take_zero] at hy0 hy1
    have hd : d = .agg [y0.1, y1.1] := (Prod.mk.inj hx).1
    obtain ⟨z0, z1, m', hx', _, hz0, hz1⟩ := trod_struct2 Tryz.underlying25 hy0
    simp only [cellsBool, cellsNatI, List.drop_zero, List.drop_succ_cons, List.take_succ_cons, List.take_zero] at hz0 hz1
    have hd' : y0.1 = .agg [z0.1, z1.1] := by rw [hx']
    have hb2 : Rows.uptoBulk y0.1 ≤ 1048576 ∧ Rows.uptoBulk y1.1 ≤ 1048576 := by
      rw [hd] at hk
      have := bulk_agg (H := H) [y0.1, y1.1]
      simp only [Rows.uptoBulkAll] at this
      omega
    have hb1 : Rows.uptoBulk z1.1 ≤ 1048576 := by
      have h1 := hb2.1
      rw [hd'] at h1
      have := bulk_agg (H := H) [z0.1, z1.1]
      simp only [Rows.uptoBulkAll] at this
      omega
    obtain ⟨a, n, cap, xs, rfl, h1, h2, h3, h4, h5⟩ := open_natc hz1 hb1
    obtain ⟨a', n', cap', ys, rfl, k1, k2, k3, k4, k5⟩ := open_natc hy1 hb2.2
    have hbool : ∃ b, u0 = .bool b := by
      cases m' with
      | zero => simp [DataW.trod] at hz0
      | succ m' =>
        simp only [DataW.trod, Tryz.underlying4] at hz0
        cases u0 <;> simp_all
    obtain ⟨b, rfl⟩ := hbool
    exact ⟨b, a, n, cap, a', n', cap', _, rfl, _, _, ⟨_, ⟨xs, h1, h2, h3, h4, rfl, h5⟩, rfl⟩, ⟨ys, k1, k2, k3, k4, rfl, k5⟩, rfl⟩
set_option maxRecDepth 100000 in
theorem trod_rat {H : Type} {enc : TypeId × Value → H} {W W' : World} {v : Value} {d : DataW H} {p : List MemPlace} (h : DataW.Trod enc Tryz.prog W 0 (fun _ => true) true 27 v d p) (bel : Below W.heap.size W W') :
    DataW.Trod enc Tryz.prog W' 0 (fun b => decide (b < W.heap.size)) true 27 v d p :=
  Below.trod laidOut (by kernel_rfl) (of_decide_eq_true (by kernel_rfl)) h bel (trod_blocks h)
end Go.Proofs.YtcakohejaboplaaGreatDoor

namespace Go.Proofs.YtcakohejaboplaaGreatDoor
open Go.ChangeShapes Go.WideShapes Go.ChangeAt Go.RowKit

theorem errStar : "*" ++ "errors.errorString" = "*errors.errorString" := by decide
theorem errRow (u : TypeId) (h : Tryz.prog.typeName? 3 u = some "*errors.errorString") : u = 141 :=
  typeName_ptr_named (nm := "errors.errorString") (by rw [errStar]; kernel_rfl) (by kernel_rfl) (by decide) u (by rw [errStar]; exact h)
theorem errCells : Tryz.prog.cellsOf 159 = 1 := by kernel_rfl
theorem strCells : Tryz.prog.cellsOf 9 = 1 := by kernel_rfl
/-- What the list of laid variables gives at an error. -/
theorem errs_head {n : String} {text : List UInt8} {r : List (String × DataW Unit)} {W : World} {g : Nat} (hg : Tryz.prog.globalNamed n = some g) (ht : (Tryz.prog.globals[g]?).map (·.type) = some 35)
    (h : laidMet Tryz.prog ((n, .iface "*errors.errorString" (.ptr (.agg [.lit (.string text)]))) :: r) W) : ∃ ev, Errs W g ev := by
  obtain ⟨a, s, h1, _⟩ := laid_sentinel h hg ht Tryz.underlying35 errRow Tryz.underlying141 Tryz.underlying159 rfl rfl Tryz.underlying9 errCells strCells
  exact ⟨_, World.var?_cell hg h1 0, a, rfl⟩
end Go.Proofs.YtcakohejaboplaaGreatDoor

namespace Go.Proofs.YtcakohejaboplaaGreatDoor
open Go.ChangeShapes Go.WideShapes Go.ChangeAt Go.RowKit

theorem u8Cells : Tryz.prog.cellsOf 5 = 1 := by kernel_rfl
/-- What the list of laid variables gives at the table. -/
theorem tab_head {n : String} {tab : List Nat} {r : List (String × DataW Unit)} {W : World} {g : Nat} (hg : Tryz.prog.globalNamed n = some g) (ht : (Tryz.prog.globals[g]?).map (·.type) = some 137) (hl : tab.length = 64)
    (h : laidMet Tryz.prog ((n, .agg (tab.map fun (k : Nat) => .lit (.int .u8 (k : Int)))) :: r) W) : TabAt g tab W ∧ g < W.heap.size := by
  obtain ⟨ps, ⟨g0, t0, cs0, f0, p0, q0, hg0, ht0, hv0, hd0, _, e0⟩, _, hrows⟩ := h
  obtain rfl := Option.some.inj (hg.symm.trans hg0)
  obtain rfl := Option.some.inj (ht.symm.trans ht0)
  obtain ⟨xs, m, rfl, hx, hlen, hn, hel⟩ := DataW.trod_array Tryz.underlying137 hd0
  have hmap : tab.map (fun (k : Nat) => (DataW.lit (.int .u8 (k : Int)) : DataW Unit)) = xs.map (·.1) := by
    have := congrArg Prod.fst hx
    simpa using this
  have hT : TabAt g tab W := fun j hj => by
    have hj' : j < 64 := by omega
    have e1 := hel j hj'
    rw [u8Cells, List.getElem?_eq_getElem (by omega)] at e1
    obtain ⟨z, hz1, hz2, _⟩ := DataW.trod_int Tryz.underlying5 e1
    have e2 := congrArg (fun l => l[j]?) hmap
    simp only [List.getElem?_map, List.getElem?_eq_getElem hj, List.getElem?_eq_getElem (show j < xs.length by omega), Option.map_some, hz2] at e2
    have e3 : (tab[j] : Int) = z := by
      have := Option.some.inj e2
      simp only [DataW.lit.injEq, Lit.int.injEq, true_and] at this
      exact this
    have e4 : cs0.toList[j]? = some (.int .u8 z) := by
      have := congrArg (fun l => l[0]?) hz1
      simp only [Nat.mul_one] at this
      rw [List.getElem?_take_of_lt (by omega), List.getElem?_drop, Nat.add_zero] at this
      simpa using this
    have e5 := World.var?_cell hg hv0 j
    rw [e5]
    have e6 : cs0[j]? = some (.int .u8 z) := by simpa using e4
    rw [e6, ← e3]
    simp [List.getD, List.getElem?_eq_getElem hj]
  exact ⟨hT, World.block_lt_of_cell? _ _ (hT 0 (by omega))⟩
end Go.Proofs.YtcakohejaboplaaGreatDoor

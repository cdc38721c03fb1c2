import Derived.Test.YtimdohckhfmhiaaGreatDoorOpAll
import Derived.Test.YtimdohckhfmhiaaGreatDoorR3Li
namespace Go.Proofs.YtimdohckhfmhiaaGreatDoor
open Go.ChangeShapes Go.WideShapes Go.ChangeAt Go.RowKit

set_option maxRecDepth 100000 in
/-- A number's one cell, read as data, its bound a letter. -/
theorem open_natK {H : Type} {enc : TypeId × Value → H} {W : World} {fuel : Nat} {u : Value} {x : DataW H × List MemPlace}
    (hf : DataW.trod enc Tryz.prog W 0 (fun _ => true) true fuel 23 [u] = some x) {K : Nat} (hk : Rows.uptoBulk x.1 ≤ K) :
    ∃ a n cap xs, u = .slice a n cap ∧ n = xs.length ∧ n ≤ cap ∧ Reads W a xs ∧ AllW xs ∧ n ≤ K := by
  rcases open_ints Tryz.underlying23 Tryz.underlying65 cellsU64 hf with ⟨hcs, _⟩ | ⟨p, n, c, zs, hcs, _, hl, hm, hz, hx, hcell, hwz⟩
  · simp only [List.cons.injEq, and_true] at hcs
    exact ⟨_, _, _, [], hcs, rfl, Nat.le_refl _, .inl rfl, AllW.nil, Nat.zero_le _⟩
  · simp only [List.cons.injEq, and_true] at hcs
    simp only [if_true] at hz
    rw [hx] at hk
    have hlen : (zs.take n).length = n := by rw [List.length_take]; omega
    have hb : n ≤ K := by
      have := bulk_slice (H := H) (lits .u64 (zs.take n)) (lits .u64 (zs.drop n))
      have hk2 : Rows.uptoBulk (H := H) (.slice (lits .u64 (zs.take n)) (lits .u64 (zs.drop n))) ≤ K := hk
      have e1 : (lits (H := H) .u64 (zs.take n)).length = (zs.take n).length := by simp [lits]
      omega
    refine ⟨_, _, _, zs.take n, hcs, hlen.symm, hl, ?_, ?_, hb⟩
    · by_cases h0 : n = 0
      · exact .inl (by simp [h0])
      · obtain ⟨b, o, spot⟩ := p
        have hc := hcell 0 (by omega)
        have hspot : spot = none := by simpa [Addr.add] using World.cell?_spot hc
        subst hspot
        refine .inr ⟨b, o, rfl, fun i hi => ?_⟩
        rw [lm_take (by omega)]
        have := hcell i (by omega)
        by_cases hi0 : i = 0
        · subst hi0; simpa [Addr.add, lm] using this
        · simpa [Addr.add, lm, hi0] using this
    · intro y hy
      have := hwz y (List.mem_of_mem_take hy)
      simp [Lit.wf, IntKind.min, IntKind.max, IntKind.signed, IntKind.bits] at this
      exact ⟨by omega, by omega⟩
set_option maxRecDepth 100000 in
/-- A fraction's three cells, read as data. -/
theorem open_ratc {H : Type} {enc : TypeId × Value → H} {W : World} {fuel : Nat} {cs : List Value} {x : DataW H × List MemPlace} (hsz : cs.length = 3)
    (hf : DataW.trod enc Tryz.prog W 0 (fun _ => true) true fuel 27 cs = some x) :
    ∃ b a n cap a' n' cap' r, cs = [.bool b, .slice a n cap, .slice a' n' cap'] ∧ TR W b a n cap a' n' cap' r (Rows.uptoBulk x.1 - 1) ∧ 2 ≤ Rows.uptoBulk x.1 := by
  obtain ⟨y0, y1, m, hx, _, hy0, hy1⟩ := trod_struct2 Tryz.underlying27 hf
  match cs, hsz with
  | [u0, u1, u2], _ =>
    simp only [cellsInt, cellsNatI, List.drop_zero, List.drop_succ_cons, List.take_succ_cons, List.take_zero] at hy0 hy1
    have hd : x.1 = .agg [y0.1, y1.1] := by rw [hx]
    obtain ⟨z0, z1, m', hx', _, hz0, hz1⟩ := trod_struct2 Tryz.underlying25 hy0
    simp only [cellsBool, cellsNatI, List.drop_zero, List.drop_succ_cons, List.take_succ_cons, List.take_zero] at hz0 hz1
    have hd' : y0.1 = .agg [z0.1, z1.1] := by rw [hx']
    have hB : Rows.uptoBulk x.1 = Rows.uptoBulk y0.1 + (Rows.uptoBulk y1.1 + 0) + 1 := by rw [hd]; simp only [Rows.uptoBulk, Rows.uptoBulkAll]
    have hB' : Rows.uptoBulk y0.1 = Rows.uptoBulk z0.1 + (Rows.uptoBulk z1.1 + 0) + 1 := by rw [hd']; simp only [Rows.uptoBulk, Rows.uptoBulkAll]
    obtain ⟨a, n, cap, xs, rfl, h1, h2, h3, h4, h5⟩ := open_natK hz1 (Nat.le_refl _)
    obtain ⟨a', n', cap', ys, rfl, k1, k2, k3, k4, k5⟩ := open_natK hy1 (Nat.le_refl _)
    have hbool : ∃ b, u0 = .bool b := by
      cases m' with
      | zero => simp [DataW.trod] at hz0
      | succ m' =>
        simp only [DataW.trod, Tryz.underlying4] at hz0
        cases u0 <;> simp_all
    obtain ⟨b, rfl⟩ := hbool
    exact ⟨b, a, n, cap, a', n', cap', _, rfl, ⟨_, _, ⟨_, ⟨xs, h1, h2, h3, h4, rfl, by omega⟩, rfl⟩, ⟨ys, k1, k2, k3, k4, rfl, by omega⟩, rfl⟩, by omega⟩
set_option maxRecDepth 100000 in
/-- A fraction that came in, its bound what was read. -/
theorem open_ratB {H : Type} {enc : TypeId × Value → H} {W : World} {base : Nat} {v : Value} {d : DataW H} {p : List MemPlace} (hv : Value.okWide Tryz.prog W .any base 27 v)
    (h : DataW.Trod enc Tryz.prog W 0 (fun _ => true) true 27 v d p) :
    ∃ b a n cap a' n' cap' r, v = .agg #[.bool b, .slice a n cap, .slice a' n' cap'] ∧ TR W b a n cap a' n' cap' r (Rows.uptoBulk d - 1) ∧ 2 ≤ Rows.uptoBulk d := by
  obtain ⟨cs, rfl, hsz⟩ := okWide_struct Tryz.underlying27 hv
  obtain ⟨fuel, hf⟩ := h
  rw [cellsRat] at hsz
  obtain ⟨l⟩ := cs
  obtain ⟨b, a, n, cap, a', n', cap', r, e, hT, h2⟩ := open_ratc (cs := l) (x := (d, p)) (by simpa using hsz) (by simpa [Value.cells] using hf)
  subst e
  exact ⟨b, a, n, cap, a', n', cap', r, rfl, hT, h2⟩
/-- How much the i-th of some data is, but one. -/
def bulkAt {H : Type} (l : List (DataW H)) (i : Nat) : Nat := match l[i]? with
  | some d => Rows.uptoBulk d - 1
  | none => 0
theorem bulk_take {H : Type} (l : List (DataW H)) (n : Nat) : Rows.uptoBulkAll (l.take n) ≤ Rows.uptoBulkAll l := by
  induction l generalizing n with
  | nil => simp
  | cons x r ih =>
    cases n with
    | zero => simp [Rows.uptoBulkAll]
    | succ n => simp only [List.take_succ_cons, Rows.uptoBulkAll]; have := ih n; omega
theorem bulk_snoc {H : Type} (l : List (DataW H)) (d : DataW H) : Rows.uptoBulkAll (l ++ [d]) = Rows.uptoBulkAll l + Rows.uptoBulk d := by
  induction l with
  | nil => simp [Rows.uptoBulkAll]
  | cons x r ih => simp only [List.cons_append, Rows.uptoBulkAll, ih]; omega
theorem bulk_tot {H : Type} (l : List (DataW H)) (h : ∀ d ∈ l, 1 ≤ Rows.uptoBulk d) (n : Nat) (hn : n ≤ l.length) : tot (bulkAt l) n ≤ Rows.uptoBulkAll (l.take n) + 1 := by
  induction n with
  | zero => simp [tot, Rows.uptoBulkAll]
  | succ n ih =>
    have hlt : n < l.length := hn
    have h1 := ih (by omega)
    have h2 := h l[n] (List.getElem_mem hlt)
    rw [List.take_succ_eq_append_getElem hlt, bulk_snoc]
    show tot (bulkAt l) n + bulkAt l n + 1 ≤ _
    have e : bulkAt l n = Rows.uptoBulk l[n] - 1 := by unfold bulkAt; rw [List.getElem?_eq_getElem hlt]
    omega
set_option maxRecDepth 100000 in
/-- A list of fractions that came in. -/
theorem open_rats {H : Type} {enc : TypeId × Value → H} {W : World} {base : Nat} {v : Value} {d : DataW H} {p : List MemPlace} (hv : Value.okWide Tryz.prog W .any base 43 v)
    (h : DataW.Trod enc Tryz.prog W 0 (fun _ => true) true 43 v d p) :
    ∃ a m cap X Z, v = .slice a m cap ∧ m ≤ cap ∧ m ≤ Rows.uptoBulk d ∧ LQ W a m X Z ∧ (∀ i, i < m → 1 ≤ Z i ∧ SzR (X i) (Z i)) ∧ tot Z m ≤ Rows.uptoBulk d := by
  obtain ⟨a, m, cap, rfl⟩ := okWide_slice Tryz.underlying43 hv
  obtain ⟨fuel, hf⟩ := h
  rcases DataW.trod_slice Tryz.underlying43 hf with ⟨hcs, hx⟩ | ⟨ad, len, cap', elems, rest, n, _, hcs, hx, _, hl, _, hlen, hel, _⟩
  · simp [Value.cells] at hcs
    obtain ⟨rfl, rfl, rfl⟩ := hcs
    refine ⟨_, _, _, fun _ => 0, fun _ => 0, rfl, Nat.le_refl _, Nat.zero_le _, .inl rfl, fun i hi => by omega, ?_⟩
    exact bulk_one d
  · simp [Value.cells] at hcs
    obtain ⟨rfl, rfl, rfl⟩ := hcs
    simp only [Prod.mk.injEq] at hx
    obtain ⟨rfl, _⟩ := hx
    have hb := bulk_slice (elems.map (·.1)) (rest.map (·.1))
    simp only [List.length_map] at hb
    have key : ∀ j, j < m → ∃ cs y, elems[j]? = some y ∧ cs.length = 3 ∧ (∀ i u, cs[i]? = some u → W.cell? ((ad.add (j * 3)).add i) = some u) ∧ DataW.trod enc Tryz.prog W 0 (fun _ => true) true n 27 cs = some y := by
      intro j hj
      have hE := hel j hj
      rw [cellsRat, List.getElem?_eq_getElem (by omega)] at hE
      simp only [Option.bind_eq_some_iff] at hE
      obtain ⟨c1, hc1, hy1⟩ := hE
      obtain ⟨_, hlen1, hcell1⟩ := World.cells?_some hc1
      refine ⟨c1, _, List.getElem?_eq_getElem (by omega), hlen1, fun i u hu => ?_, hy1⟩
      have hi : i < c1.length := (List.getElem?_eq_some_iff.1 hu).1
      rw [hcell1 i (by omega)]; exact hu
    have key2 : ∀ j, j < m → ∃ b a n cap a' n' cap' r y, elems[j]? = some y ∧ W.cell? (ad.add (j * 3)) = some (.bool b) ∧ W.cell? ((ad.add (j * 3)).add 1) = some (.slice a n cap) ∧ W.cell? ((ad.add (j * 3)).add 2) = some (.slice a' n' cap') ∧ TR W b a n cap a' n' cap' r (Rows.uptoBulk y.1 - 1) ∧ 2 ≤ Rows.uptoBulk y.1 := by
      intro j hj
      obtain ⟨cs, y, hy, hc3, hcell, htr⟩ := key j hj
      obtain ⟨b, a, n, cap, a', n', cap', r, rfl, hTR, h2⟩ := open_ratc hc3 htr
      refine ⟨b, a, n, cap, a', n', cap', r, y, hy, ?_, hcell 1 _ rfl, hcell 2 _ rfl, hTR, h2⟩
      have := hcell 0 _ rfl
      simpa [Addr.add] using this
    have hX : ∃ X : Nat → Rat, ∀ j, j < m → ∃ b a n cap a' n' cap' y, elems[j]? = some y ∧ W.cell? (ad.add (j * 3)) = some (.bool b) ∧ W.cell? ((ad.add (j * 3)).add 1) = some (.slice a n cap) ∧ W.cell? ((ad.add (j * 3)).add 2) = some (.slice a' n' cap') ∧ TR W b a n cap a' n' cap' (X j) (Rows.uptoBulk y.1 - 1) ∧ 2 ≤ Rows.uptoBulk y.1 := by
      refine ⟨fun j => if h : j < m then (key2 j h).choose_spec.choose_spec.choose_spec.choose_spec.choose_spec.choose_spec.choose_spec.choose else 0, fun j hj => ?_⟩
      simp only [dif_pos hj]
      exact ⟨_, _, _, _, _, _, _, (key2 j hj).choose_spec.choose_spec.choose_spec.choose_spec.choose_spec.choose_spec.choose_spec.choose_spec⟩
    obtain ⟨X, hX⟩ := hX
    have hZ : ∀ j y, elems[j]? = some y → bulkAt (elems.map (·.1)) j = Rows.uptoBulk y.1 - 1 := by
      intro j y hy
      unfold bulkAt
      rw [List.getElem?_map, hy]; rfl
    refine ⟨_, m, _, X, bulkAt (elems.map (·.1)), rfl, hl, by omega, ?_, fun i hi => ?_, ?_⟩
    · rcases Nat.eq_zero_or_pos m with h0 | h0
      · exact .inl h0
      · right
        obtain ⟨b, o, spot⟩ := ad
        have hspot : spot = none := by
          obtain ⟨_, _, _, _, _, _, _, _, _, hc, _⟩ := hX 0 h0
          simpa [Addr.add] using World.cell?_spot hc
        subst hspot
        refine ⟨b, o, rfl, fun j hj => ?_⟩
        obtain ⟨b1, a1, n1, c1, a2, n2, c2, y, hy, e0, e1, e2, hTR, _⟩ := hX j hj
        have g0 : (Addr.mk b o none).add (j * 3) = ⟨b, o + j * 3, none⟩ := by
          rcases Nat.eq_zero_or_pos j with rfl | hj0
          · simp [Addr.add]
          · simp [Addr.add]; omega
        rw [g0] at e0 e1 e2
        refine ⟨b1, a1, n1, c1, a2, n2, c2, e0, ?_, ?_, by rw [hZ j y hy]; exact hTR⟩
        · simpa [Addr.add] using e1
        · simpa [Addr.add] using e2
    · obtain ⟨b1, a1, n1, c1, a2, n2, c2, y, hy, e0, e1, e2, hTR, h2⟩ := hX i hi
      rw [hZ i y hy]
      exact ⟨by omega, hTR.sz (by omega)⟩
    · have h1 := bulk_tot (elems.map (·.1)) (fun d _ => bulk_one d) m (by simp; omega)
      have h3 := bulk_take (elems.map (·.1)) m
      simp only [Rows.uptoBulk]
      omega
theorem trod_rats {H : Type} {enc : TypeId × Value → H} {W W' : World} {v : Value} {d : DataW H} {p : List MemPlace} (h : DataW.Trod enc Tryz.prog W 0 (fun _ => true) true 43 v d p) (bel : Below W.heap.size W W') :
    DataW.Trod enc Tryz.prog W' 0 (fun b => decide (b < W.heap.size)) true 43 v d p :=
  Below.trod laidOut (by kernel_rfl) (of_decide_eq_true (by kernel_rfl)) h bel (trod_blocks h)
end Go.Proofs.YtimdohckhfmhiaaGreatDoor

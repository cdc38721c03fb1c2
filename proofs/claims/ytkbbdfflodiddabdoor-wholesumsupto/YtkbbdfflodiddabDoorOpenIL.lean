import Derived.Test.YtkbbdfflodiddabDoorOpAll
import Derived.Test.YtkbbdfflodiddabDoorW2S
namespace Go.Proofs.YtkbbdfflodiddabDoor
open Go.ChangeShapes Go.WideShapes Go.ChangeAt Go.RowKit

set_option maxRecDepth 100000 in
/-- A whole number's two cells, read as data. -/
theorem open_intc {H : Type} {enc : TypeId × Value → H} {W : World} {fuel : Nat} {cs : List Value} {x : DataW H × List MemPlace} (hsz : cs.length = 2)
    (hf : DataW.trod enc Tryd.prog W 0 (fun _ => true) true fuel 30 cs = some x) (hk : Rows.uptoBulk x.1 ≤ 1048576) :
    ∃ b a n cap xs, cs = [.bool b, .slice a n cap] ∧ n = xs.length ∧ n ≤ cap ∧ Reads W a xs ∧ AllW xs ∧ n ≤ 1048576 := by
  obtain ⟨y0, y1, m, hx, _, hy0, hy1⟩ := trod_struct2 Tryd.underlying30 hf
  match cs, hsz with
  | [u0, u1], _ =>
    simp only [cellsBool, cellsNatI, List.drop_zero, List.drop_succ_cons, List.take_succ_cons, List.take_zero] at hy0 hy1
    have hd : x.1 = .agg [y0.1, y1.1] := by rw [hx]
    have hb : Rows.uptoBulk y1.1 ≤ 1048576 := by
      rw [hd] at hk
      have := bulk_agg (H := H) [y0.1, y1.1]
      simp only [Rows.uptoBulkAll] at this
      omega
    obtain ⟨a, n, cap, xs, rfl, h1, h2, h3, h4, h5⟩ := open_natc hy1 hb
    have hbool : ∃ b, u0 = .bool b := by
      cases m with
      | zero => simp [DataW.trod] at hy0
      | succ m =>
        simp only [DataW.trod, Tryd.underlying4] at hy0
        cases u0 <;> simp_all
    obtain ⟨b, rfl⟩ := hbool
    exact ⟨b, a, n, cap, xs, rfl, h1, h2, h3, h4, h5⟩
theorem bulk_memI {H : Type} : ∀ (l : List (DataW H)) (d : DataW H), d ∈ l → Rows.uptoBulk d ≤ Rows.uptoBulkAll l
  | x :: r, d, h => by
    simp only [Rows.uptoBulkAll]
    rcases List.mem_cons.1 h with e | e
    · subst e; omega
    · have := bulk_memI r d e; omega
set_option maxRecDepth 100000 in
/-- A list of whole numbers that came in. -/
theorem open_wholes {H : Type} {enc : TypeId × Value → H} {W : World} {base : Nat} {v : Value} {d : DataW H} {p : List MemPlace} (hv : Value.okWide Tryd.prog W .any base 22 v)
    (h : DataW.Trod enc Tryd.prog W 0 (fun _ => true) true 22 v d p) (hk : Rows.uptoBulk d ≤ 1048576) :
    ∃ (a : Option Addr) (m cap : Nat) (P : Nat → Bool) (A : Nat → Option Addr) (N C : Nat → Nat) (X : Nat → List Int), v = .slice a m cap ∧ m ≤ 1048576 ∧ LI W a m P A N C ∧ ∀ i, i < m → N i = (X i).length ∧ N i ≤ C i ∧ Reads W (A i) (X i) ∧ AllW (X i) ∧ N i ≤ 1048576 := by
  obtain ⟨a, m, cap, rfl⟩ := okWide_slice Tryd.underlying22 hv
  obtain ⟨fuel, hf⟩ := h
  rcases DataW.trod_slice Tryd.underlying22 hf with ⟨hcs, hx⟩ | ⟨ad, len, cap', elems, rest, n, _, hcs, hx, _, hl, _, hlen, hel, _⟩
  · simp [Value.cells] at hcs
    obtain ⟨rfl, rfl, rfl⟩ := hcs
    exact ⟨_, _, _, fun _ => false, fun _ => none, fun _ => 0, fun _ => 0, fun _ => [], rfl, Nat.zero_le _, .inl rfl, fun i hi => by omega⟩
  · simp [Value.cells] at hcs
    obtain ⟨rfl, rfl, rfl⟩ := hcs
    simp only [Prod.mk.injEq] at hx
    obtain ⟨rfl, _⟩ := hx
    have hb := bulk_slice (elems.map (·.1)) (rest.map (·.1))
    simp only [List.length_map] at hb
    have key : ∀ j, j < m → ∃ b a n cap xs, W.cell? (ad.add (j * 2)) = some (.bool b) ∧ W.cell? ((ad.add (j * 2)).add 1) = some (.slice a n cap) ∧ n = (xs : List Int).length ∧ n ≤ cap ∧ Reads W a xs ∧ AllW xs ∧ n ≤ 1048576 := by
      intro j hj
      have hE := hel j hj
      rw [cellsInt, List.getElem?_eq_getElem (by omega)] at hE
      simp only [Option.bind_eq_some_iff] at hE
      obtain ⟨c1, hc1, hy1⟩ := hE
      obtain ⟨_, hlen1, hcell1⟩ := World.cells?_some hc1
      have hmem : (elems[j]'(by omega)).1 ∈ elems.map (·.1) := List.mem_map.2 ⟨_, List.getElem_mem (by omega), rfl⟩
      have hbd := bulk_memI _ _ hmem
      have hbk : Rows.uptoBulk (elems[j]'(by omega)).1 ≤ 1048576 := by simp only [Rows.uptoBulk] at hk; omega
      obtain ⟨b, a, n, cap, xs, rfl, h1, h2, h3, h4, h5⟩ := open_intc hlen1 hy1 hbk
      have e0 := hcell1 0 (by decide)
      have e1 := hcell1 1 (by decide)
      refine ⟨b, a, n, cap, xs, ?_, e1, h1, h2, h3, h4, h5⟩
      simpa [Addr.add] using e0
    have hP : ∀ j, ∃ t : Bool × Option Addr × Nat × Nat × List Int, j < m → W.cell? (ad.add (j * 2)) = some (.bool t.1) ∧ W.cell? ((ad.add (j * 2)).add 1) = some (.slice t.2.1 t.2.2.1 t.2.2.2.1) ∧ t.2.2.1 = t.2.2.2.2.length ∧ t.2.2.1 ≤ t.2.2.2.1 ∧ Reads W t.2.1 t.2.2.2.2 ∧ AllW t.2.2.2.2 ∧ t.2.2.1 ≤ 1048576 := fun j => by
      rcases Decidable.em (j < m) with hj | hj
      · obtain ⟨b, a, n, cap, xs, h1⟩ := key j hj
        exact ⟨(b, a, n, cap, xs), fun _ => h1⟩
      · exact ⟨(false, none, 0, 0, []), fun h => absurd h hj⟩
    obtain ⟨f, hf⟩ : ∃ f : Nat → Bool × Option Addr × Nat × Nat × List Int, ∀ j, j < m → W.cell? (ad.add (j * 2)) = some (.bool (f j).1) ∧ W.cell? ((ad.add (j * 2)).add 1) = some (.slice (f j).2.1 (f j).2.2.1 (f j).2.2.2.1) ∧ (f j).2.2.1 = (f j).2.2.2.2.length ∧ (f j).2.2.1 ≤ (f j).2.2.2.1 ∧ Reads W (f j).2.1 (f j).2.2.2.2 ∧ AllW (f j).2.2.2.2 ∧ (f j).2.2.1 ≤ 1048576 := ⟨fun j => (hP j).choose, fun j => (hP j).choose_spec⟩
    refine ⟨_, m, _, fun j => (f j).1, fun j => (f j).2.1, fun j => (f j).2.2.1, fun j => (f j).2.2.2.1, fun j => (f j).2.2.2.2, rfl, by omega, ?_, fun j hj => (hf j hj).2.2⟩
    rcases Nat.eq_zero_or_pos m with h0 | h0
    · exact .inl h0
    · right
      obtain ⟨b, o, spot⟩ := ad
      have hspot : spot = none := by
        have hc := (hf 0 h0).1
        simpa [Addr.add] using World.cell?_spot hc
      subst hspot
      refine ⟨b, o, rfl, fun j hj => ?_⟩
      obtain ⟨e0, e1, _⟩ := hf j hj
      have g0 : (Addr.mk b o none).add (j * 2) = ⟨b, o + j * 2, none⟩ := by
        rcases Nat.eq_zero_or_pos j with rfl | hj0
        · simp [Addr.add]
        · simp [Addr.add]; omega
      rw [g0] at e0 e1
      exact ⟨e0, by simpa [Addr.add] using e1⟩
set_option maxRecDepth 100000 in
theorem trod_wholes {H : Type} {enc : TypeId × Value → H} {W W' : World} {v : Value} {d : DataW H} {p : List MemPlace} (h : DataW.Trod enc Tryd.prog W 0 (fun _ => true) true 22 v d p) (bel : Below W.heap.size W W') :
    DataW.Trod enc Tryd.prog W' 0 (fun b => decide (b < W.heap.size)) true 22 v d p :=
  Below.trod laidOut (by kernel_rfl) (of_decide_eq_true (by kernel_rfl)) h bel (trod_blocks h)
end Go.Proofs.YtkbbdfflodiddabDoor

import Derived.Test.YtkbbdfflodiddabDoorOpAll
namespace Go.Proofs.YtkbbdfflodiddabDoor
open Go.ChangeShapes Go.WideShapes Go.ChangeAt Go.RowKit

theorem cellsNat : Tryd.prog.cellsOf 28 = 1 := by kernel_rfl
set_option maxRecDepth 100000 in
/-- A number that was read in a cell. -/
theorem open_cell {H : Type} {enc : TypeId × Value → H} {W : World} {base : Nat} {sp : Nat → Bool} {fuel : Nat} {v : Value} {d : DataW H} {p : List MemPlace} (hsp : ∀ b, sp b = true)
    (hf : DataW.trod enc Tryd.prog W base sp true fuel 28 [v] = some (d, p)) (hk : Rows.uptoBulk d ≤ 1048576) :
    ∃ a n cap xs, v = .slice a n cap ∧ n = xs.length ∧ n ≤ cap ∧ Reads W a xs ∧ AllW xs ∧ n ≤ 1048576 := by
  rcases open_ints Tryd.underlying28 Tryd.underlying43 cellsU64 hf with ⟨hcs, _⟩ | ⟨x, l, c, zs, hcs, _, hl, hm, hz, hx, hcell, hwz⟩
  · simp at hcs
    subst hcs
    exact ⟨_, _, _, [], rfl, rfl, Nat.le_refl _, .inl rfl, AllW.nil, Nat.zero_le _⟩
  · simp at hcs
    subst hcs
    simp only [hsp, if_true] at hz
    simp only [Prod.mk.injEq] at hx
    have hlen : (zs.take l).length = l := by rw [List.length_take]; omega
    have hb : l ≤ 1048576 := by
      have := bulk_slice (H := H) (lits .u64 (zs.take l)) (lits .u64 (zs.drop l))
      rw [← hx.1] at this
      simp only [lits, List.length_map] at this
      omega
    refine ⟨_, _, _, zs.take l, rfl, hlen.symm, hl, ?_, ?_, hb⟩
    · by_cases h0 : l = 0
      · exact .inl (by simp [h0])
      · obtain ⟨b, o, spot⟩ := x
        have hc := hcell 0 (by omega)
        have hspot : spot = none := by simpa [Addr.add] using World.cell?_spot hc
        subst hspot
        refine .inr ⟨b, o, rfl, fun i hi => ?_⟩
        rw [lm_take (by omega)]
        have := hcell i (by omega)
        by_cases hi0 : i = 0
        · subst hi0; simpa [Addr.add, lm] using this
        · simpa [Addr.add, lm, hi0] using this
    · intro y hy
      have := hwz y (List.mem_of_mem_take hy)
      simp [Lit.wf, IntKind.min, IntKind.max, IntKind.signed, IntKind.bits] at this
      exact ⟨by omega, by omega⟩
theorem bulk_mem {H : Type} : ∀ (l : List (DataW H)) (d : DataW H), d ∈ l → Rows.uptoBulk d ≤ Rows.uptoBulkAll l
  | x :: r, d, h => by
    simp only [Rows.uptoBulkAll]
    rcases List.mem_cons.1 h with e | e
    · subst e; omega
    · have := bulk_mem r d e; omega
set_option maxRecDepth 100000 in
/-- A list of numbers that came in. -/
theorem open_nats {H : Type} {enc : TypeId × Value → H} {W : World} {base : Nat} {v : Value} {d : DataW H} {p : List MemPlace} (hv : Value.okWide Tryd.prog W .any base 37 v)
    (h : DataW.Trod enc Tryd.prog W 0 (fun _ => true) true 37 v d p) (hk : Rows.uptoBulk d ≤ 1048576) :
    ∃ a m cap, v = .slice a m cap ∧ m ≤ cap ∧ m ≤ 1048576 ∧ (m = 0 ∨ ∃ b o, a = some ⟨b, o, none⟩ ∧ ∀ j, j < m → ∃ a' n c xs, W.cell? ⟨b, o + j, none⟩ = some (.slice a' n c) ∧ n = xs.length ∧ n ≤ c ∧ Reads W a' xs ∧ AllW xs ∧ n ≤ 1048576) := by
  obtain ⟨a, m, cap, rfl⟩ := okWide_slice Tryd.underlying37 hv
  obtain ⟨fuel, hf⟩ := h
  rcases DataW.trod_slice Tryd.underlying37 hf with ⟨hcs, _⟩ | ⟨ad, len, cap', elems, rest, n, _, hcs, hx, _, hl, _, hlen, hel, _⟩
  · simp [Value.cells] at hcs
    obtain ⟨rfl, rfl, rfl⟩ := hcs
    exact ⟨_, _, _, rfl, Nat.le_refl _, Nat.zero_le _, .inl rfl⟩
  · simp [Value.cells] at hcs
    obtain ⟨rfl, rfl, rfl⟩ := hcs
    simp only [Prod.mk.injEq] at hx
    obtain ⟨rfl, _⟩ := hx
    have hb := bulk_slice (elems.map (·.1)) (rest.map (·.1))
    simp only [List.length_map] at hb
    refine ⟨_, _, _, rfl, hl, by omega, ?_⟩
    rcases Nat.eq_zero_or_pos m with h0 | h0
    · exact .inl h0
    · right
      have key : ∀ j, j < m → ∃ c q, W.cell? (ad.add j) = some c ∧ ∃ d', DataW.trod enc Tryd.prog W 0 (fun _ => true) true n 28 [c] = some (d', q) ∧ d' ∈ elems.map (·.1) := by
        intro j hj
        have hE := hel j hj
        rw [cellsNat, Nat.mul_one, List.getElem?_eq_getElem (by omega)] at hE
        simp only [Option.bind_eq_some_iff] at hE
        obtain ⟨c1, hc1, hy1⟩ := hE
        have e0 : (ad.add j).add 0 = ad.add j := by simp [Addr.add]
        have : ∃ c, c1 = [c] ∧ W.cell? (ad.add j) = some c := by
          unfold World.cells? at hc1
          split at hc1
          · simp only [List.range_succ, List.range_zero, List.nil_append, List.mapM_cons, List.mapM_nil, e0] at hc1
            cases hcc : W.cell? (ad.add j) with
            | none => simp [hcc] at hc1
            | some c => simp [hcc] at hc1; exact ⟨c, hc1.symm, rfl⟩
          · cases hc1
        obtain ⟨c, rfl, hcell⟩ := this
        exact ⟨c, _, hcell, _, hy1, List.mem_map.2 ⟨_, List.getElem_mem (by omega), rfl⟩⟩
      obtain ⟨b, o, spot⟩ := ad
      have hspot : spot = none := by
        obtain ⟨c, _, hc, _⟩ := key 0 h0
        simpa [Addr.add] using World.cell?_spot hc
      subst hspot
      refine ⟨b, o, rfl, fun j hj => ?_⟩
      obtain ⟨c, q, hc, d', hd, hmem⟩ := key j hj
      have hbd := bulk_mem _ _ hmem
      have hbk : Rows.uptoBulk d' ≤ 1048576 := by simp only [Rows.uptoBulk] at hk; omega
      obtain ⟨a', n', c', xs, rfl, g1, g2, g3, g4, g5⟩ := open_cell (fun _ => rfl) hd hbk
      refine ⟨a', n', c', xs, ?_, g1, g2, g3, g4, g5⟩
      by_cases hj0 : j = 0
      · subst hj0; simpa [Addr.add] using hc
      · simpa [Addr.add, hj0] using hc
set_option maxRecDepth 100000 in
theorem trod_nats {H : Type} {enc : TypeId × Value → H} {W W' : World} {v : Value} {d : DataW H} {p : List MemPlace} (h : DataW.Trod enc Tryd.prog W 0 (fun _ => true) true 37 v d p) (bel : Below W.heap.size W W') :
    DataW.Trod enc Tryd.prog W' 0 (fun b => decide (b < W.heap.size)) true 37 v d p :=
  Below.trod laidOut (by kernel_rfl) (of_decide_eq_true (by kernel_rfl)) h bel (trod_blocks h)
end Go.Proofs.YtkbbdfflodiddabDoor

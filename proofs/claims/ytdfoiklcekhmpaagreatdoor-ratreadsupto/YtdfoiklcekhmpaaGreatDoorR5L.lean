import Derived.Test.YtdfoiklcekhmpaaGreatDoorR5K
namespace Go.Proofs.YtdfoiklcekhmpaaGreatDoor
open Go.RowKit Go.Shelf

theorem parseN_no {x : ByteArray} (hs : x.size ≤ 1100000) (h : ¬ IOk x) (w : World) (ev : Value) (E : Errs w 2 ev) : Calls Tryz.prog 49 #[.string x] w fun e w' => e = .returned (.tuple #[.agg #[.bool false, .slice none 0 0], ev]) ∧ Below w.heap.size w w' := parseN x w ev (by omega) h E
/-- What is no literal is no number. -/
theorem prNum {s : ByteArray} {p0 i : Nat} (hs : s.size ≤ 1048576) (h0 : sgJ s 0 = p0) (hR : Run s p0 i) (hA : ¬ (p0 < i ∧ i < s.size ∧ byt s i = 47)) (hN : ∀ j, ¬ Shp s p0 i j) : Fails s 2 := by
  intro w ev E
  obtain ⟨k, k1, k2, k3⟩ := firstOr s.size (fun t => byt s t = 47)
  rcases k3 with rfl | ⟨k3, k4⟩
  · -- no stroke
    have hno : (47 : UInt8) ∉ s.data.toList := no47L k2
    clear k1 k2 hA
    obtain ⟨j, j1, j2, j3⟩ := firstOr s.size (fun t => byt s t = 101 ∨ byt s t = 69)
    obtain ⟨q, q1, q2, q3⟩ := firstOr j (fun t => byt s t = 46)
    have hE := cutsE_ix hs j1 (fun t ht => ⟨fun e => j2 t ht (.inl e), fun e => j2 t ht (.inr e)⟩) j3
    have hC := cutsP_ix hs j1 q1 q2 q3
    have hza : (s.extract 0 q).size = q := by rw [size_extract _ _ _ (by omega)]; omega
    have hzb : (if q < j then s.extract (q + 1) j else ⟨#[]⟩ : ByteArray).size ≤ 1048576 := by
      split
      · rw [size_extract _ _ _ j1]; omega
      · decide
    by_cases c1 : ∃ t, q < t ∧ t < j ∧ (byt s t = 43 ∨ byt s t = 45)
    · obtain ⟨t, t1, t2, t3⟩ := c1
      rw [if_pos (by omega)] at hC
      refine parseDF w hno E fun w E => decN1 w E hE hC fun w => ?_
      have hz : (s.extract (q + 1) j).size = j - (q + 1) := size_extract _ _ _ j1
      have hb : ∀ i, i < j - (q + 1) → byt (s.extract (q + 1) j) i = byt s (q + 1 + i) := fun i hi => byt_extract _ _ _ _ j1 (by omega)
      obtain ⟨m, m1, m2, m3⟩ := firstOr (j - (q + 1)) (fun t => byt s (q + 1 + t) = 43 ∨ byt s (q + 1 + t) = 45)
      have hm : m < j - (q + 1) ∧ (byt s (q + 1 + m) = 43 ∨ byt s (q + 1 + m) = 45) := by
        rcases m3 with rfl | m3
        · exact absurd (by rw [show q + 1 + (t - (q + 1)) = t by omega]; exact t3) (m2 (t - (q + 1)) (by omega))
        · exact m3
      have := canyB (s.extract (q + 1) j) ⟨#[43, 45]⟩ w rfl (by omega) ascS
      rw [show Lib.indexAny (s.extract (q + 1) j).data.toList (⟨#[43, 45]⟩ : ByteArray).data.toList = (m : Int) from ia_at (by omega) (by rw [hb m hm.1]; exact hm.2) fun i hi => by
        rw [hb i (by omega)]; exact ⟨fun e => m2 i hi (.inl e), fun e => m2 i hi (.inr e)⟩, show decide ((0 : Int) ≤ (m : Int)) = true from decide_eq_true (by omega)] at this
      exact this
    · have hns : ∀ t, q < t → t < j → byt s t ≠ 43 ∧ byt s t ≠ 45 := fun t t1 t2 => ⟨fun e => c1 ⟨t, t1, t2, .inl e⟩, fun e => c1 ⟨t, t1, t2, .inr e⟩⟩
      have hS := noSign_ix hs j1 hns
      by_cases c2 : IOk (s.extract 0 q ++ (if q < j then s.extract (q + 1) j else ⟨#[]⟩))
      · -- the digits are fine: the exponent isn't
        have hP := parsesI_ok (by rw [ByteArray.size_append, hza]; have : q ≤ 1048576 := by omega
                                  split
                                  · rw [size_extract _ _ _ j1]; omega
                                  · show q + 0 ≤ _; omega) c2
        have hsh : (j = s.size ∨ (j < s.size ∧ (byt s j = 101 ∨ byt s j = 69) ∧ sgJ s (j + 1) < s.size ∧ ∀ t, sgJ s (j + 1) ≤ t → t < s.size → isDg s t)) → False := by
          intro hen
          have hstop : j < s.size → ¬ isDg s j ∧ byt s j ≠ 46 := fun hl => by
            rcases j3 with j3 | ⟨_, j3⟩
            · omega
            · unfold isDg; omega
          rcases q3 with rfl | ⟨q3, q4⟩
          · rw [if_neg (by omega), app_nil] at c2
            rcases Nat.eq_zero_or_pos q with rfl | hp
            · exact iokZ (by rw [hza]) c2
            · obtain ⟨d1, d2⟩ := (iokW hp j1).1.1 c2
              rw [h0] at d1 d2
              obtain rfl : i = q := hR.uniq ⟨by omega, j1, d2, fun hl => (hstop hl).1⟩
              exact hN i ⟨h0, hR, .inl ⟨rfl, fun h => (hstop h.1).2 h.2⟩, hen, by omega⟩
          · rw [if_pos q3] at c2
            obtain ⟨d1, d2, d3⟩ := (iokP q3 j1 q4 hns).1.1 c2
            rw [h0] at d1 d2
            have hp0 : p0 ≤ q := by
              rw [← h0]; unfold sgJ; split
              · rename_i h
                rcases Nat.eq_zero_or_pos q with rfl | hp
                · omega
                · omega
              · omega
            obtain rfl : i = q := hR.uniq ⟨hp0, by omega, d2, fun _ hd => by unfold isDg at hd; omega⟩
            exact hN j ⟨h0, hR, .inr ⟨by omega, q4, ⟨by omega, j1, fun t t1 t2 => d3 t (by omega) t2, fun hl => (hstop hl).1⟩⟩, hen, d1⟩
        rcases j3 with j3 | ⟨j3, j4⟩
        · exact (hsh (.inl j3)).elim
        · rw [if_pos j3] at hE
          have hz : (s.extract (j + 1) s.size).size = s.size - (j + 1) := size_extract _ _ _ (Nat.le_refl _)
          have hx : ¬ IOk (s.extract (j + 1) s.size) := fun hx => by
            rcases Nat.lt_or_ge (j + 1) s.size with hl | hl
            · obtain ⟨e1, e2⟩ := (iokW hl (Nat.le_refl _)).1.1 hx
              exact hsh (.inr ⟨j3, j4, e1, e2⟩)
            · exact iokZ (by omega) hx
          exact parseDF w hno E fun w E => decX3 w hE hC hS hP E (fun w E => parseXN _ w E (by omega) hx) (by omega) (by omega)
      · have hzx : (s.extract 0 q ++ (if q < j then s.extract (q + 1) j else ⟨#[]⟩ : ByteArray)).size ≤ 1100000 := by
          rw [ByteArray.size_append, hza]
          split
          · rw [size_extract _ _ _ j1]; omega
          · show q + 0 ≤ _; omega
        exact parseDF w hno E fun w E => decN2 w E hE hC hS (fun w E => parseN_no hzx c2 w ev E) (by omega) (by omega)
  · -- a stroke
    have hza : (s.extract 0 k).size = k := by rw [size_extract _ _ _ (by omega)]; omega
    refine parseSF w (ib_at k3 k4 k2) k3 (by omega) E fun w E => quoN1 w E (by omega) fun hI => ?_
    rcases Nat.eq_zero_or_pos k with rfl | hp
    · exact iokZ hza hI
    · obtain ⟨d1, d2⟩ := (iokW hp k1).1.1 hI
      rw [h0] at d1 d2
      obtain rfl : i = k := hR.uniq ⟨by omega, k1, d2, fun _ hd => by unfold isDg at hd; omega⟩
      exact hA ⟨d1, k3, k4⟩
end Go.Proofs.YtdfoiklcekhmpaaGreatDoor

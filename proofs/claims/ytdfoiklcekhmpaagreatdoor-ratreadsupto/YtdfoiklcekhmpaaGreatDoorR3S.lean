import Derived.Test.YtdfoiklcekhmpaaGreatDoorLawAll
namespace Go.Proofs.YtdfoiklcekhmpaaGreatDoor
open Go.RowKit

theorem Tryz.errCompR : (Tryz.prog.info? 172).map (·.comparable) = some true := by kernel_rfl
theorem Tryz.errSizeR : (Tryz.prog.info? 186).map (·.size) = some 1 := by kernel_rfl
theorem tx5 : txtI 5 = ⟨#[53]⟩ := by
  unfold txtI
  rw [if_neg (by decide), txt_small (by decide) (by decide)]; rfl
theorem tx6 : txt 6 = ⟨#[54]⟩ := by rw [txt_small (by decide) (by decide)]; rfl
theorem tx2 : txt 2 = ⟨#[50]⟩ := by rw [txt_small (by decide) (by decide)]; rfl
theorem txm1 : txtI (-1) = ⟨#[45, 49]⟩ := by
  unfold txtI
  rw [if_pos (by decide), txt_small (by decide) (by decide)]; rfl
theorem q56 : (Rat.divInt 1 2 + Rat.divInt 1 3).num = 5 ∧ (Rat.divInt 1 2 + Rat.divInt 1 3).den = 6 := by
  rw [Rat.divInt_add_divInt _ _ (by decide) (by decide), Rat.num_divInt, Rat.den_divInt]; decide
theorem qm12 : (Rat.divInt (-50) 100).num = -1 ∧ (Rat.divInt (-50) 100).den = 2 := by
  rw [Rat.num_divInt, Rat.den_divInt]; decide
theorem txA : txtQ (Rat.divInt 1 2 + Rat.divInt 1 3) = ⟨#[53, 47, 54]⟩ := by
  unfold txtQ
  rw [q56.1, q56.2, if_neg (by decide), tx5, tx6]; rfl
theorem txB : txtQ (Rat.divInt (-50) 100) = ⟨#[45, 49, 47, 50]⟩ := by
  unfold txtQ
  rw [qm12.1, qm12.2, if_neg (by decide), txm1, tx2]; rfl
theorem cm32 : ((Rat.divInt 1 3).num * (Rat.divInt 1 2).den - (Rat.divInt 1 2).num * (Rat.divInt 1 3).den).sign = -1 := by
  rw [Rat.num_divInt, Rat.den_divInt, Rat.num_divInt, Rat.den_divInt]; decide
theorem Num.le1 {w : World} (h : Num w none 0 0 0 0) : Num w none 0 0 0 1 := by
  obtain ⟨xs, h1, h2, h3, h4, h5, h6⟩ := h
  exact ⟨xs, h1, h2, h3, h4, h5, by omega⟩
set_option maxRecDepth 100000 in
set_option maxHeartbeats 4000000 in
/-- Rows of the document's examples. -/
theorem shownQ (w : World) (hT : TB w) {ev : Value} (E : Errs w 1 ev) : Calls Tryz.prog 5 #[] w fun e w' => e = .returned (.bool true) ∧ Below w.heap.size w w' := by
  obtain ⟨i, hi, hcmp⟩ := Option.map_eq_some_iff.1 Tryz.errCompR
  obtain ⟨jj, hj, _⟩ := Option.map_eq_some_iff.1 Tryz.errSizeR
  have hb0 : Below w.heap.size w w := Below.refl _ _
  go_enter Tryz.func5, Tryz.ntmps5
  go_wp2_with fail
  refine (wordQ 1 2 _ (by decide) (by decide) (by decide) (by decide)).mono ?_
  rintro e w1 ⟨f1, c1, n1, k1, c2, n2, k2, rfl, T1, hx⟩
  replace hT := hT.below hx
  replace E := E.below hx
  replace hb0 := bel_tr hb0 hx
  have hsw1 : w.heap.size ≤ w1.heap.size := Below.size hx
  clear hx
  have hx := bel_d0 w1 (.cells #[.bool f1, .slice c1 n1 k1, .slice c2 n2 k2] 28)
  replace hT := hT.below hx
  replace E := E.below hx
  replace T1 := T1.below hx
  replace hb0 := bel_tr hb0 hx
  have V1 := var3_new w1 (.bool f1) (.slice c1 n1 k1) (.slice c2 n2 k2) 28
  clear hx
  obtain ⟨v1c0, v1c1, v1c2, v1c3, v1c4, v1c5⟩ := id V1
  go_wp2_with fail
  generalize w1.alloc (.cells #[.bool f1, .slice c1 n1 k1, .slice c2 n2 k2] 28) = w2 at *
  refine (wordQ 1 3 _ (by decide) (by decide) (by decide) (by decide)).mono ?_
  rintro e w3 ⟨f3, c3, n3, k3, c4, n4, k4, rfl, T2, hx⟩
  clear v1c0 v1c1 v1c2 v1c3 v1c4 v1c5
  replace hT := hT.below hx
  replace E := E.below hx
  replace T1 := T1.below hx
  replace V1 := V1.below hx
  replace hb0 := bel_tr hb0 hx
  have hsw3 : w2.heap.size ≤ w3.heap.size := Below.size hx
  clear hx
  obtain ⟨v1c0, v1c1, v1c2, v1c3, v1c4, v1c5⟩ := id V1
  have hx := bel_d0 w3 (.cells #[.bool f3, .slice c3 n3 k3, .slice c4 n4 k4] 28)
  clear v1c0 v1c1 v1c2 v1c3 v1c4 v1c5
  replace hT := hT.below hx
  replace E := E.below hx
  replace T1 := T1.below hx
  replace T2 := T2.below hx
  replace V1 := V1.below hx
  replace hb0 := bel_tr hb0 hx
  have V2 := var3_new w3 (.bool f3) (.slice c3 n3 k3) (.slice c4 n4 k4) 28
  clear hx
  obtain ⟨v1c0, v1c1, v1c2, v1c3, v1c4, v1c5⟩ := id V1
  obtain ⟨v2c0, v2c1, v2c2, v2c3, v2c4, v2c5⟩ := id V2
  go_wp2_with fail
  generalize w3.alloc (.cells #[.bool f3, .slice c3 n3 k3, .slice c4 n4 k4] 28) = w4 at *
  refine (addQ _ T1 T2 (by decide) (by decide) (by decide) hT).mono ?_
  rintro e w5 ⟨f5, c5, n5, k5, c6, n6, k6, rfl, GG, hx⟩
  clear v1c0 v1c1 v1c2 v1c3 v1c4 v1c5 v2c0 v2c1 v2c2 v2c3 v2c4 v2c5
  replace hT := hT.below hx
  replace E := E.below hx
  replace T1 := T1.below hx
  replace T2 := T2.below hx
  replace V1 := V1.below hx
  replace V2 := V2.below hx
  replace hb0 := bel_tr hb0 hx
  have hsw5 : w4.heap.size ≤ w5.heap.size := Below.size hx
  clear hx
  obtain ⟨v1c0, v1c1, v1c2, v1c3, v1c4, v1c5⟩ := id V1
  obtain ⟨v2c0, v2c1, v2c2, v2c3, v2c4, v2c5⟩ := id V2
  have hx := bel_d0 w5 (.cells #[.bool f5, .slice c5 n5 k5, .slice c6 n6 k6] 28)
  clear v1c0 v1c1 v1c2 v1c3 v1c4 v1c5 v2c0 v2c1 v2c2 v2c3 v2c4 v2c5
  replace hT := hT.below hx
  replace E := E.below hx
  replace T1 := T1.below hx
  replace T2 := T2.below hx
  replace GG := GG.below hx
  replace V1 := V1.below hx
  replace V2 := V2.below hx
  replace hb0 := bel_tr hb0 hx
  have V3 := var3_new w5 (.bool f5) (.slice c5 n5 k5) (.slice c6 n6 k6) 28
  clear hx
  obtain ⟨v1c0, v1c1, v1c2, v1c3, v1c4, v1c5⟩ := id V1
  obtain ⟨v2c0, v2c1, v2c2, v2c3, v2c4, v2c5⟩ := id V2
  obtain ⟨v3c0, v3c1, v3c2, v3c3, v3c4, v3c5⟩ := id V3
  go_wp2_with fail
  generalize w5.alloc (.cells #[.bool f5, .slice c5 n5 k5, .slice c6 n6 k6] 28) = w6 at *
  refine (textQ _ GG.tr (by decide) (by decide) hT).mono ?_
  rintro e w7 ⟨rfl, hx⟩
  clear v1c0 v1c1 v1c2 v1c3 v1c4 v1c5 v2c0 v2c1 v2c2 v2c3 v2c4 v2c5 v3c0 v3c1 v3c2 v3c3 v3c4 v3c5
  replace hT := hT.below hx
  replace E := E.below hx
  replace T1 := T1.below hx
  replace T2 := T2.below hx
  replace GG := GG.below hx
  replace V1 := V1.below hx
  replace V2 := V2.below hx
  replace V3 := V3.below hx
  replace hb0 := bel_tr hb0 hx
  have hsw7 : w6.heap.size ≤ w7.heap.size := Below.size hx
  clear hx
  rw [txA]
  obtain ⟨v1c0, v1c1, v1c2, v1c3, v1c4, v1c5⟩ := id V1
  obtain ⟨v2c0, v2c1, v2c2, v2c3, v2c4, v2c5⟩ := id V2
  obtain ⟨v3c0, v3c1, v3c2, v3c3, v3c4, v3c5⟩ := id V3
  clear v3c0 v3c1 v3c2 v3c3 v3c4 v3c5 V3
  clear GG
  go_wp2_with fail
  refine (cmpQ _ T2 T1 (by decide) (by decide) (by decide)).mono ?_
  rintro e w8 ⟨rfl, hx⟩
  clear v1c0 v1c1 v1c2 v1c3 v1c4 v1c5 v2c0 v2c1 v2c2 v2c3 v2c4 v2c5
  replace hT := hT.below hx
  replace E := E.below hx
  replace T1 := T1.below hx
  replace T2 := T2.below hx
  replace V1 := V1.below hx
  replace V2 := V2.below hx
  replace hb0 := bel_tr hb0 hx
  have hsw8 : w7.heap.size ≤ w8.heap.size := Below.size hx
  clear hx
  rw [cm32]
  obtain ⟨v1c0, v1c1, v1c2, v1c3, v1c4, v1c5⟩ := id V1
  obtain ⟨v2c0, v2c1, v2c2, v2c3, v2c4, v2c5⟩ := id V2
  clear v1c0 v1c1 v1c2 v1c3 v1c4 v1c5 V1
  clear v2c0 v2c1 v2c2 v2c3 v2c4 v2c5 V2
  clear T1
  clear T2
  go_wp2_with fail
  refine (parseHalf _ hT).mono ?_
  rintro e w9 ⟨f5, c5, n5, k5, c6, n6, k6, rfl, GG, hx⟩
  replace hT := hT.below hx
  replace E := E.below hx
  replace hb0 := bel_tr hb0 hx
  have hsw9 : w8.heap.size ≤ w9.heap.size := Below.size hx
  clear hx
  have hx := bel_d0 w9 (.cells #[.bool f5, .slice c5 n5 k5, .slice c6 n6 k6] 28)
  replace hT := hT.below hx
  replace E := E.below hx
  replace GG := GG.below hx
  replace hb0 := bel_tr hb0 hx
  have V6 := var3_new w9 (.bool f5) (.slice c5 n5 k5) (.slice c6 n6 k6) 28
  clear hx
  obtain ⟨v6c0, v6c1, v6c2, v6c3, v6c4, v6c5⟩ := id V6
  go_wp2_with fail
  generalize w9.alloc (.cells #[.bool f5, .slice c5 n5 k5, .slice c6 n6 k6] 28) = w10 at *
  refine (textQ _ GG.tr (by decide) (by decide) hT).mono ?_
  rintro e w11 ⟨rfl, hx⟩
  clear v6c0 v6c1 v6c2 v6c3 v6c4 v6c5
  replace hT := hT.below hx
  replace E := E.below hx
  replace GG := GG.below hx
  replace V6 := V6.below hx
  replace hb0 := bel_tr hb0 hx
  have hsw11 : w10.heap.size ≤ w11.heap.size := Below.size hx
  clear hx
  rw [txB]
  obtain ⟨v6c0, v6c1, v6c2, v6c3, v6c4, v6c5⟩ := id V6
  clear v6c0 v6c1 v6c2 v6c3 v6c4 v6c5 V6
  clear GG
  have Z0 : TR w11 false none 0 0 none 0 0 0 1 := ⟨0, 0, ((GI.nil _ 0).le (by decide)).ti, (Num.nil _).le1, by simp⟩
  go_wp2_with fail
  refine (invE _ Z0 (by decide) (by decide) rfl E).mono ?_
  rintro e w12 ⟨rfl, hx⟩
  replace hT := hT.below hx
  replace E := E.below hx
  replace hb0 := bel_tr hb0 hx
  have hsw12 : w11.heap.size ≤ w12.heap.size := Below.size hx
  clear hx
  clear Z0
  have hx := bel_d0 w12 (.cells #[.bool false, .slice none 0 0, .slice none 0 0] 28)
  replace hT := hT.below hx
  replace E := E.below hx
  replace hb0 := bel_tr hb0 hx
  have V9 := var3_new w12 (.bool false) (.slice none 0 0) (.slice none 0 0) 28
  clear hx
  obtain ⟨ec, pp, rfl⟩ := E
  have heq := run_eql_iface_ptr_same (P := Tryz.prog) (w12.alloc (.cells #[.bool false, .slice none 0 0, .slice none 0 0] 28)) pp Tryz.underlying30 Tryz.underlying172 hi hcmp hj
  obtain ⟨v9c0, v9c1, v9c2, v9c3, v9c4, v9c5⟩ := id V9
  go_wp2
  go_ret
  exact ⟨rfl, hb0⟩
end Go.Proofs.YtdfoiklcekhmpaaGreatDoor

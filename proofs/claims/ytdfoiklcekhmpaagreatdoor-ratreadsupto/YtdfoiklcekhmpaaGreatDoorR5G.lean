import Derived.Test.YtdfoiklcekhmpaaGreatDoorR5F
namespace Go.Proofs.YtdfoiklcekhmpaaGreatDoor
open Go.RowKit Go.Shelf

set_option maxRecDepth 100000 in
set_option maxHeartbeats 4000000 in
theorem dA5a {s : ByteArray} {p0 i : Nat} {neg : Bool} {N : Int} (w : World) (hs : s.size ≤ 1048576) (hat : sgJ s 0 = p0) (hneg : sgN s 0 = neg) (hi : runE s p0 = i) (hN : rdF s p0 (i - p0) = N) (ha0 : p0 ≤ s.size) (_hi0 : i ≤ s.size) (_hai0 : p0 ≤ i) (hai1 : p0 < i) (hil1 : i < s.size) (hB : byt s i = 47) {k : Nat} {D : Int} (hk : runE s (i + 1) = k) (hD : rdF s (i + 1) (k - (i + 1)) = D) (hke1 : k = i + 1) :
    Calls Tryz.prog 7 #[.string s] w fun e w' => e = .returned (.tuple #[.agg #[.bool false, .slice none 0 0, .slice none 0 0], .int .i64 5]) ∧ Below w.heap.size w w' := by
  have hai : (p0 : Int) < (i : Int) := by omega
  have hil : (i : Int) < (s.size : Int) := by omega
  have hii : (0 : Int) ≤ (i : Int) := by omega
  have hby := byt_get (s := s) (k := i) (by omega)
  rw [hB] at hby
  have hw1 : IntKind.i64.wrap ((i : Int) + 1) = (i : Int) + 1 := by rw [IntKind.wrap_i64]; omega
  have R0 := var3_new w (.bool false) (.slice none 0 0) (.slice none 0 0) 28
  have hb0 := bel_d0 w (.cells #[.bool false, .slice none 0 0, .slice none 0 0] 28)
  have hsz : w.heap.size + 1 ≤ (w.alloc (.cells #[.bool false, .slice none 0 0, .slice none 0 0] 28)).heap.size := by simp
  go_enter Tryz.func7, Tryz.ntmps7
  go_wp2_with fail
  generalize w.alloc (.cells #[.bool false, .slice none 0 0, .slice none 0 0] 28) = W0 at *
  refine (signY (i := 0) _ rfl hat hneg (Nat.zero_le _) hs).mono ?_
  rintro e w1 ⟨rfl, hx⟩
  replace R0 := R0.below hx
  replace hb0 := bel_tr hb0 hx
  replace hsz := Nat.le_trans hsz (Below.size hx)
  clear hx
  go_wp2_with fail
  refine (runY _ rfl hi hN ha0 hs).mono ?_
  rintro e w2 ⟨cN, nN, kN, rfl, GN, hx⟩
  replace R0 := R0.below hx
  replace hb0 := bel_tr hb0 hx
  replace GN := GN.mono (B' := w.heap.size + 1) hsz
  replace hsz := Nat.le_trans hsz (Below.size hx)
  clear hx
  go_wp2_with fail
  refine (runY (i := i + 1) _ (by simp) hk hD (by omega) hs).mono ?_
  rintro e w3 ⟨cD, nD, kD, rfl, GD, hx⟩
  replace R0 := R0.below hx
  replace GN := GN.below hx
  replace hb0 := bel_tr hb0 hx
  replace GD := GD.mono (B' := w.heap.size + 1) hsz
  replace hsz := Nat.le_trans hsz (Below.size hx)
  clear hx
  have hke : (k : Int) = (i : Int) + 1 := by omega
  have hkb : ((k : Int) == (i : Int) + 1) = true := by simp [hke]
  clear GN
  clear GD
  obtain ⟨r0c0, r0c1, r0c2, r0c3, r0c4, r0c5⟩ := id R0
  obtain ⟨V, O⟩ := R0.set (.bool false) (.slice none 0 0) (.slice none 0 0)
  have hw := hb0.trans (O.below (B := w.heap.size) (by omega))
  clear R0 O hb0
  go_wp2
  refine bodyPost_ret (v := .tuple #[.agg #[.bool false, .slice none 0 0, .slice none 0 0], .int .i64 5]) (by simp [results, Tryz.results7, go_sem, V.c0, V.c1, V.c2]) rfl ⟨rfl, hw⟩
set_option maxRecDepth 100000 in
set_option maxHeartbeats 4000000 in
theorem dA5b {s : ByteArray} {p0 i : Nat} {neg : Bool} {N : Int} (w : World) (hs : s.size ≤ 1048576) (hat : sgJ s 0 = p0) (hneg : sgN s 0 = neg) (hi : runE s p0 = i) (hN : rdF s p0 (i - p0) = N) (ha0 : p0 ≤ s.size) (_hi0 : i ≤ s.size) (_hai0 : p0 ≤ i) (hai1 : p0 < i) (hil1 : i < s.size) (hB : byt s i = 47) {k : Nat} {D : Int} (hk : runE s (i + 1) = k) (hD : rdF s (i + 1) (k - (i + 1)) = D) (hke1 : k ≠ i + 1) (hks1 : k < s.size) :
    Calls Tryz.prog 7 #[.string s] w fun e w' => e = .returned (.tuple #[.agg #[.bool false, .slice none 0 0, .slice none 0 0], .int .i64 5]) ∧ Below w.heap.size w w' := by
  have hai : (p0 : Int) < (i : Int) := by omega
  have hil : (i : Int) < (s.size : Int) := by omega
  have hii : (0 : Int) ≤ (i : Int) := by omega
  have hby := byt_get (s := s) (k := i) (by omega)
  rw [hB] at hby
  have hw1 : IntKind.i64.wrap ((i : Int) + 1) = (i : Int) + 1 := by rw [IntKind.wrap_i64]; omega
  have R0 := var3_new w (.bool false) (.slice none 0 0) (.slice none 0 0) 28
  have hb0 := bel_d0 w (.cells #[.bool false, .slice none 0 0, .slice none 0 0] 28)
  have hsz : w.heap.size + 1 ≤ (w.alloc (.cells #[.bool false, .slice none 0 0, .slice none 0 0] 28)).heap.size := by simp
  go_enter Tryz.func7, Tryz.ntmps7
  go_wp2_with fail
  generalize w.alloc (.cells #[.bool false, .slice none 0 0, .slice none 0 0] 28) = W0 at *
  refine (signY (i := 0) _ rfl hat hneg (Nat.zero_le _) hs).mono ?_
  rintro e w1 ⟨rfl, hx⟩
  replace R0 := R0.below hx
  replace hb0 := bel_tr hb0 hx
  replace hsz := Nat.le_trans hsz (Below.size hx)
  clear hx
  go_wp2_with fail
  refine (runY _ rfl hi hN ha0 hs).mono ?_
  rintro e w2 ⟨cN, nN, kN, rfl, GN, hx⟩
  replace R0 := R0.below hx
  replace hb0 := bel_tr hb0 hx
  replace GN := GN.mono (B' := w.heap.size + 1) hsz
  replace hsz := Nat.le_trans hsz (Below.size hx)
  clear hx
  go_wp2_with fail
  refine (runY (i := i + 1) _ (by simp) hk hD (by omega) hs).mono ?_
  rintro e w3 ⟨cD, nD, kD, rfl, GD, hx⟩
  replace R0 := R0.below hx
  replace GN := GN.below hx
  replace hb0 := bel_tr hb0 hx
  replace GD := GD.mono (B' := w.heap.size + 1) hsz
  replace hsz := Nat.le_trans hsz (Below.size hx)
  clear hx
  have hke : ¬ (k : Int) = (i : Int) + 1 := by omega
  have hkb : ((k : Int) == (i : Int) + 1) = false := by simpa using hke
  have hks : (k : Int) < (s.size : Int) := by omega
  clear GN
  clear GD
  obtain ⟨r0c0, r0c1, r0c2, r0c3, r0c4, r0c5⟩ := id R0
  obtain ⟨V, O⟩ := R0.set (.bool false) (.slice none 0 0) (.slice none 0 0)
  have hw := hb0.trans (O.below (B := w.heap.size) (by omega))
  clear R0 O hb0
  go_wp2
  refine bodyPost_ret (v := .tuple #[.agg #[.bool false, .slice none 0 0, .slice none 0 0], .int .i64 5]) (by simp [results, Tryz.results7, go_sem, V.c0, V.c1, V.c2]) rfl ⟨rfl, hw⟩
set_option maxRecDepth 100000 in
set_option maxHeartbeats 4000000 in
theorem dA3 {s : ByteArray} {p0 i : Nat} {neg : Bool} {N : Int} (w : World) (hs : s.size ≤ 1048576) (hat : sgJ s 0 = p0) (hneg : sgN s 0 = neg) (hi : runE s p0 = i) (hN : rdF s p0 (i - p0) = N) (ha0 : p0 ≤ s.size) (_hi0 : i ≤ s.size) (_hai0 : p0 ≤ i) (hai1 : p0 < i) (hil1 : i < s.size) (hB : byt s i = 47) {k : Nat} {D : Int} (hk : runE s (i + 1) = k) (hD : rdF s (i + 1) (k - (i + 1)) = D) (hke1 : k ≠ i + 1) (hks1 : ¬ k < s.size) (hD0 : D = 0) :
    Calls Tryz.prog 7 #[.string s] w fun e w' => e = .returned (.tuple #[.agg #[.bool false, .slice none 0 0, .slice none 0 0], .int .i64 3]) ∧ Below w.heap.size w w' := by
  have hai : (p0 : Int) < (i : Int) := by omega
  have hil : (i : Int) < (s.size : Int) := by omega
  have hii : (0 : Int) ≤ (i : Int) := by omega
  have hby := byt_get (s := s) (k := i) (by omega)
  rw [hB] at hby
  have hw1 : IntKind.i64.wrap ((i : Int) + 1) = (i : Int) + 1 := by rw [IntKind.wrap_i64]; omega
  have R0 := var3_new w (.bool false) (.slice none 0 0) (.slice none 0 0) 28
  have hb0 := bel_d0 w (.cells #[.bool false, .slice none 0 0, .slice none 0 0] 28)
  have hsz : w.heap.size + 1 ≤ (w.alloc (.cells #[.bool false, .slice none 0 0, .slice none 0 0] 28)).heap.size := by simp
  go_enter Tryz.func7, Tryz.ntmps7
  go_wp2_with fail
  generalize w.alloc (.cells #[.bool false, .slice none 0 0, .slice none 0 0] 28) = W0 at *
  refine (signY (i := 0) _ rfl hat hneg (Nat.zero_le _) hs).mono ?_
  rintro e w1 ⟨rfl, hx⟩
  replace R0 := R0.below hx
  replace hb0 := bel_tr hb0 hx
  replace hsz := Nat.le_trans hsz (Below.size hx)
  clear hx
  go_wp2_with fail
  refine (runY _ rfl hi hN ha0 hs).mono ?_
  rintro e w2 ⟨cN, nN, kN, rfl, GN, hx⟩
  replace R0 := R0.below hx
  replace hb0 := bel_tr hb0 hx
  replace GN := GN.mono (B' := w.heap.size + 1) hsz
  replace hsz := Nat.le_trans hsz (Below.size hx)
  clear hx
  go_wp2_with fail
  refine (runY (i := i + 1) _ (by simp) hk hD (by omega) hs).mono ?_
  rintro e w3 ⟨cD, nD, kD, rfl, GD, hx⟩
  replace R0 := R0.below hx
  replace GN := GN.below hx
  replace hb0 := bel_tr hb0 hx
  replace GD := GD.mono (B' := w.heap.size + 1) hsz
  replace hsz := Nat.le_trans hsz (Below.size hx)
  clear hx
  have hke : ¬ (k : Int) = (i : Int) + 1 := by omega
  have hkb : ((k : Int) == (i : Int) + 1) = false := by simpa using hke
  have hks : ¬ (k : Int) < (s.size : Int) := by omega
  obtain rfl : nD = 0 := (Got.tiny GD).2 hD0
  clear GN
  clear GD
  obtain ⟨r0c0, r0c1, r0c2, r0c3, r0c4, r0c5⟩ := id R0
  obtain ⟨V, O⟩ := R0.set (.bool false) (.slice none 0 0) (.slice none 0 0)
  have hw := hb0.trans (O.below (B := w.heap.size) (by omega))
  clear R0 O hb0
  go_wp2
  refine bodyPost_ret (v := .tuple #[.agg #[.bool false, .slice none 0 0, .slice none 0 0], .int .i64 3]) (by simp [results, Tryz.results7, go_sem, V.c0, V.c1, V.c2]) rfl ⟨rfl, hw⟩
set_option maxRecDepth 100000 in
set_option maxHeartbeats 4000000 in
theorem dA0 {s : ByteArray} {p0 i : Nat} {neg : Bool} {N : Int} (w : World) (hs : s.size ≤ 1048576) (hat : sgJ s 0 = p0) (hneg : sgN s 0 = neg) (hi : runE s p0 = i) (hN : rdF s p0 (i - p0) = N) (ha0 : p0 ≤ s.size) (_hi0 : i ≤ s.size) (_hai0 : p0 ≤ i) (hai1 : p0 < i) (hil1 : i < s.size) (hB : byt s i = 47) {k : Nat} {D : Int} (hk : runE s (i + 1) = k) (hD : rdF s (i + 1) (k - (i + 1)) = D) (hke1 : k ≠ i + 1) (hks1 : ¬ k < s.size) (hD0 : D ≠ 0) :
    Calls Tryz.prog 7 #[.string s] w fun e w' => ∃ f c n k c' n' k', e = .returned (.tuple #[.agg #[.bool f, .slice c n k, .slice c' n' k'], .int .i64 0]) ∧ GR w' w.heap.size f c n k c' n' k' (Rat.divInt (ws neg N) D) 1048577 ∧ Below w.heap.size w w' := by
  have hai : (p0 : Int) < (i : Int) := by omega
  have hil : (i : Int) < (s.size : Int) := by omega
  have hii : (0 : Int) ≤ (i : Int) := by omega
  have hby := byt_get (s := s) (k := i) (by omega)
  rw [hB] at hby
  have hw1 : IntKind.i64.wrap ((i : Int) + 1) = (i : Int) + 1 := by rw [IntKind.wrap_i64]; omega
  have R0 := var3_new w (.bool false) (.slice none 0 0) (.slice none 0 0) 28
  have hb0 := bel_d0 w (.cells #[.bool false, .slice none 0 0, .slice none 0 0] 28)
  have hsz : w.heap.size + 1 ≤ (w.alloc (.cells #[.bool false, .slice none 0 0, .slice none 0 0] 28)).heap.size := by simp
  go_enter Tryz.func7, Tryz.ntmps7
  go_wp2_with fail
  generalize w.alloc (.cells #[.bool false, .slice none 0 0, .slice none 0 0] 28) = W0 at *
  refine (signY (i := 0) _ rfl hat hneg (Nat.zero_le _) hs).mono ?_
  rintro e w1 ⟨rfl, hx⟩
  replace R0 := R0.below hx
  replace hb0 := bel_tr hb0 hx
  replace hsz := Nat.le_trans hsz (Below.size hx)
  clear hx
  go_wp2_with fail
  refine (runY _ rfl hi hN ha0 hs).mono ?_
  rintro e w2 ⟨cN, nN, kN, rfl, GN, hx⟩
  replace R0 := R0.below hx
  replace hb0 := bel_tr hb0 hx
  replace GN := GN.mono (B' := w.heap.size + 1) hsz
  replace hsz := Nat.le_trans hsz (Below.size hx)
  clear hx
  go_wp2_with fail
  refine (runY (i := i + 1) _ (by simp) hk hD (by omega) hs).mono ?_
  rintro e w3 ⟨cD, nD, kD, rfl, GD, hx⟩
  replace R0 := R0.below hx
  replace GN := GN.below hx
  replace hb0 := bel_tr hb0 hx
  replace GD := GD.mono (B' := w.heap.size + 1) hsz
  replace hsz := Nat.le_trans hsz (Below.size hx)
  clear hx
  have hke : ¬ (k : Int) = (i : Int) + 1 := by omega
  have hkb : ((k : Int) == (i : Int) + 1) = false := by simpa using hke
  have hks : ¬ (k : Int) < (s.size : Int) := by omega
  have hnD : ¬ (nD : Int) = 0 := fun h => hD0 ((Got.tiny GD).1 (by omega))
  have hnb : ((nD : Int) == 0) = false := by simpa using hnD
  go_wp2_with fail
  refine (normD _ (Got.frac (neg := neg) GN GD) (by decide) (by decide)).mono ?_
  rintro e w4 ⟨f5, c5, n5, k5, d5, m5, l5, rfl, G5, hx⟩
  replace R0 := R0.below hx
  replace GN := GN.below hx
  replace GD := GD.below hx
  replace hb0 := bel_tr hb0 hx
  replace G5 := G5.mono (B' := w.heap.size + 1) hsz
  replace hsz := Nat.le_trans hsz (Below.size hx)
  clear hx
  clear GN
  clear GD
  obtain ⟨r0c0, r0c1, r0c2, r0c3, r0c4, r0c5⟩ := id R0
  obtain ⟨V, OO⟩ := R0.set (.bool f5) (.slice c5 n5 k5) (.slice d5 m5 l5)
  have hw := hb0.trans (OO.below (B := w.heap.size) (by omega))
  have GF := G5.off OO (by omega)
  clear G5 R0 OO hb0
  go_wp2
  refine bodyPost_ret (v := .tuple #[.agg #[.bool f5, .slice c5 n5 k5, .slice d5 m5 l5], .int .i64 0]) (by simp [results, Tryz.results7, go_sem, V.c0, V.c1, V.c2]) rfl ⟨_, _, _, _, _, _, _, rfl, GF.mono (B' := w.heap.size) (by omega), hw⟩
end Go.Proofs.YtdfoiklcekhmpaaGreatDoor

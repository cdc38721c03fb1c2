import Derived.Test.YtdfoiklcekhmpaaGreatDoorR4A
namespace Go.Proofs.YtdfoiklcekhmpaaGreatDoor
open Go.RowKit Go.Shelf

def CutsE (s dg ex : ByteArray) : Prop := ∀ w, Calls Tryz.prog 51 #[.string s] w fun e w' => e = .returned (.tuple #[.string dg, .string ex]) ∧ Below w.heap.size w w'
def CutsP (dg ah be : ByteArray) : Prop := ∀ w, Calls Tryz.prog 20 #[.string dg, .string ⟨#[46]⟩] w fun e w' => ∃ b, e = .returned (.tuple #[.string ah, .string be, .bool b]) ∧ Below w.heap.size w w'
def NoSign (be : ByteArray) : Prop := ∀ w, Calls Tryz.prog 52 #[.string be, .string ⟨#[43, 45]⟩] w fun e w' => e = .returned (.bool false) ∧ Below w.heap.size w w'
def ParsesI (s : ByteArray) (x : Int) (S : Nat) : Prop := ∀ w, Calls Tryz.prog 49 #[.string s] w fun e w' => ∃ v', e = .returned (.tuple #[v', .nilIface]) ∧ GI w' w.heap.size v' x S ∧ Below w.heap.size w w'
def ParsesX (ex : ByteArray) (t : Int) : Prop := ∀ w, Calls Tryz.prog 53 #[.string ex] w fun e w' => e = .returned (.tuple #[.int .i64 t, .nilIface]) ∧ Below w.heap.size w w'
set_option maxRecDepth 100000 in
set_option maxHeartbeats 4000000 in
/-- rat.parseDecimal of a text that is cut so: the exponent is the greater. -/
theorem decUp {s dg ex ah be : ByteArray} {x t : Int} {S k : Nat} (w : World) (hE : CutsE s dg ex) (hC : CutsP dg ah be) (hN : NoSign be) (hP : ParsesI (ah ++ be) x S) (hX : ParsesX ex t) (hk : t - be.size = k) (hah : ah.size ≤ 2000000) (hb9 : be.size ≤ 2000000) (h9 : t ≤ 9999) (hS : S ≤ 2000000) (hT : TB w) :
    Calls Tryz.prog 22 #[.string s] w fun e w' => ∃ f c n k2 c' n' k', e = .returned (.tuple #[.agg #[.bool f, .slice c n k2, .slice c' n' k'], .nilIface]) ∧ GR w' w.heap.size f c n k2 c' n' k' (Rat.divInt (x * p10 k) 1) (S + (k + 1)) ∧ Below w.heap.size w w' := by
  have R0 := var3_new w (.bool false) (.slice none 0 0) (.slice none 0 0) 28
  have hb0 := bel_d0 w (.cells #[.bool false, .slice none 0 0, .slice none 0 0] 28)
  have hsz : w.heap.size + 1 ≤ (w.alloc (.cells #[.bool false, .slice none 0 0, .slice none 0 0] 28)).heap.size := by simp
  replace hT := hT.below hb0
  go_enter Tryz.func22, Tryz.ntmps22
  go_wp2_with fail
  generalize w.alloc (.cells #[.bool false, .slice none 0 0, .slice none 0 0] 28) = W0 at *
  refine (hE _).mono ?_
  rintro e w1 ⟨rfl, hx⟩
  replace hT := hT.below hx
  replace R0 := R0.below hx
  replace hb0 := bel_tr hb0 hx
  replace hsz := Nat.le_trans hsz (Below.size hx)
  clear hx hE
  go_wp2_with fail
  refine (hC _).mono ?_
  rintro e w2 ⟨b, rfl, hx⟩
  replace hT := hT.below hx
  replace R0 := R0.below hx
  replace hb0 := bel_tr hb0 hx
  replace hsz := Nat.le_trans hsz (Below.size hx)
  clear hx hC
  go_wp2_with fail
  refine (hN _).mono ?_
  rintro e w3 ⟨rfl, hx⟩
  replace hT := hT.below hx
  replace R0 := R0.below hx
  replace hb0 := bel_tr hb0 hx
  replace hsz := Nat.le_trans hsz (Below.size hx)
  clear hx hN
  go_wp2_with fail
  refine (hP _).mono ?_
  rintro e w4 ⟨v4, rfl, K0, hx⟩
  obtain ⟨f1, c1, n1, k1, rfl⟩ := K0.form
  replace K0 := K0.mono (B' := w.heap.size + 1) hsz
  replace hT := hT.below hx
  replace R0 := R0.below hx
  replace hb0 := bel_tr hb0 hx
  replace hsz := Nat.le_trans hsz (Below.size hx)
  clear hx hP
  have hszN := hsz
  have hx := bel_d0 w4 (.cells #[.bool f1, .slice c1 n1 k1] 26)
  replace hT := hT.below hx
  replace K0 := K0.below hx
  replace R0 := R0.below hx
  replace hb0 := bel_tr hb0 hx
  replace hsz := Nat.le_trans hsz (Below.size hx)
  have Vn := var2_new w4 (.bool f1) (.slice c1 n1 k1) 26
  clear hx
  go_wp2_with fail
  generalize w4.alloc (.cells #[.bool f1, .slice c1 n1 k1] 26) = w5 at *
  refine (hX _).mono ?_
  rintro e w6 ⟨rfl, hx⟩
  replace hT := hT.below hx
  replace K0 := K0.below hx
  replace R0 := R0.below hx
  replace Vn := Vn.below hx
  replace hb0 := bel_tr hb0 hx
  replace hsz := Nat.le_trans hsz (Below.size hx)
  clear hx hX
  obtain ⟨vnc0, vnc1, vnc2, vnc3⟩ := id Vn
  have ht0 : (k : Int) = t - be.size := hk.symm
  have ht1 : ¬ (k : Int) < 0 := by omega
  have hkb : k ≤ 9999 := by omega
  obtain rfl : t = k + be.size := by omega
  have hww : IntKind.i64.wrap ((k : Int) + (be.size : Int) - (be.size : Int)) = (k : Int) := by rw [IntKind.wrap_i64]; omega
  have hsb : (k : Int) + (be.size : Int) - (be.size : Int) = (k : Int) := by omega
  clear ht0 hk h9
  go_wp2_with fail
  clear vnc0 vnc1 vnc2 vnc3
  obtain ⟨vnc0, vnc1, vnc2, vnc3⟩ := id Vn
  go_region_held3 (fun w' => w'.cell? ⟨w4.heap.size, 0, none⟩ = some (.bool f1) ∧ w'.cell? ⟨w4.heap.size, 1, none⟩ = some (.slice c1 n1 k1))
      (refine ⟨?_, ?_⟩ <;> first | with_reducible exact kept_c hc4 (by assumption) | with_reducible exact kept_c hc3 (by assumption) | with_reducible exact kept_c hc2 (by assumption) | with_reducible exact kept_c hc1 (by assumption) | with_reducible exact kept_c (bel_d1 _) (by assumption) | with_reducible exact set3_far (kept_c hc4 (by assumption)) (by simp <;> omega))
      ((first
        | (go_at_call 54; go_fit (powT k _ (by omega)); rintro e v7_1 ⟨g1, u1, m1, l1, rfl, K1, hb1⟩; have hd1 : Below w6.heap.size w6 v7_1 := (by first | exact hb1 | exact bel_tr (bel_d1 w6) hb1); have hc1 := hd1)
        | (go_at_call 45; go_fit (mulT _ (K0.ti.below hc1) K1.ti (by omega) (by omega)); rintro e v7_2 ⟨g2, u2, m2, l2, rfl, K2, hb2⟩; have hd2 : Below v7_1.heap.size v7_1 v7_2 := (by first | exact hb2 | exact bel_tr (bel_d1 v7_1) hb2); have hc2 := bel_tr hc1 hd2)
        | (go_at_call 32; go_fit (ofT 1 _ (by omega) (by omega)); rintro e v7_3 ⟨g3, u3, m3, l3, rfl, K3, hb3⟩; have hd3 : Below v7_2.heap.size v7_2 v7_3 := (by first | exact hb3 | exact bel_tr (bel_d1 v7_2) hb3); have hc3 := bel_tr hc2 hd3)
        | (go_at_call 38; go_fit (lowestR _ (K2.below hd3).ti (K3.ti.le (by omega)) (by decide) (by omega) (hT.below hc3)); rintro e v7_4 ⟨g5, u5, m5, l5, u6, m6, l6, rfl, GG, hb4⟩; have hd4 : Below v7_3.heap.size v7_3 v7_4 := (by first | exact hb4 | exact bel_tr (bel_d1 v7_3) hb4); have hc4 := bel_tr hc3 hd4; have RZ := R0.below hc4; obtain ⟨z0, z1, z2, z3, z4, z5⟩ := id RZ)))
  replace hb0 := bel_tr hb0 hc4
  have hs4 := Below.size hc4
  have hs3v := Below.size hc3
  clear hb1 hb2 hb3 hb4 hc1 hc2 hc3 hc4 hd1 hd2 hd3 hd4 K0 K1 K2 K3 R0 hT vnc0 vnc1 vnc2 vnc3 Vn z0 z1 z2 z3 z4 z5
  obtain ⟨V, O⟩ := RZ.set (.bool g5) (.slice u5 m5 l5) (.slice u6 m6 l6)
  have GF := (GG.mono (B' := w.heap.size + 1) (by omega)).off O (by omega)
  have hw := hb0.trans (O.below (by omega))
  clear RZ O GG hb0
  go_wp2
  refine bodyPost_ret (v := .tuple #[.agg #[.bool g5, .slice u5 m5 l5, .slice u6 m6 l6], .nilIface]) (by simp [results, Tryz.results22, go_sem, V.c0, V.c1, V.c2]) rfl ⟨_, _, _, _, _, _, _, rfl, GF.mono (by omega), hw⟩
set_option maxRecDepth 100000 in
set_option maxHeartbeats 4000000 in
/-- rat.parseDecimal of a text that is cut so: the point is the greater. -/
theorem decDn {s dg ex ah be : ByteArray} {x t : Int} {S k : Nat} (w : World) (hE : CutsE s dg ex) (hC : CutsP dg ah be) (hN : NoSign be) (hP : ParsesI (ah ++ be) x S) (hX : ParsesX ex t) (hk : t - be.size = -(k : Int)) (hk1 : 1 ≤ k) (hah : ah.size ≤ 2000000) (hb9 : be.size ≤ 2000000) (h9 : -9999 ≤ t) (hS : S ≤ 2000000) (hT : TB w) :
    Calls Tryz.prog 22 #[.string s] w fun e w' => ∃ f c n k2 c' n' k', e = .returned (.tuple #[.agg #[.bool f, .slice c n k2, .slice c' n' k'], .nilIface]) ∧ GR w' w.heap.size f c n k2 c' n' k' (Rat.divInt x (p10 k)) (S + (k + 1)) ∧ Below w.heap.size w w' := by
  have R0 := var3_new w (.bool false) (.slice none 0 0) (.slice none 0 0) 28
  have hb0 := bel_d0 w (.cells #[.bool false, .slice none 0 0, .slice none 0 0] 28)
  have hsz : w.heap.size + 1 ≤ (w.alloc (.cells #[.bool false, .slice none 0 0, .slice none 0 0] 28)).heap.size := by simp
  replace hT := hT.below hb0
  go_enter Tryz.func22, Tryz.ntmps22
  go_wp2_with fail
  generalize w.alloc (.cells #[.bool false, .slice none 0 0, .slice none 0 0] 28) = W0 at *
  refine (hE _).mono ?_
  rintro e w1 ⟨rfl, hx⟩
  replace hT := hT.below hx
  replace R0 := R0.below hx
  replace hb0 := bel_tr hb0 hx
  replace hsz := Nat.le_trans hsz (Below.size hx)
  clear hx hE
  go_wp2_with fail
  refine (hC _).mono ?_
  rintro e w2 ⟨b, rfl, hx⟩
  replace hT := hT.below hx
  replace R0 := R0.below hx
  replace hb0 := bel_tr hb0 hx
  replace hsz := Nat.le_trans hsz (Below.size hx)
  clear hx hC
  go_wp2_with fail
  refine (hN _).mono ?_
  rintro e w3 ⟨rfl, hx⟩
  replace hT := hT.below hx
  replace R0 := R0.below hx
  replace hb0 := bel_tr hb0 hx
  replace hsz := Nat.le_trans hsz (Below.size hx)
  clear hx hN
  go_wp2_with fail
  refine (hP _).mono ?_
  rintro e w4 ⟨v4, rfl, K0, hx⟩
  obtain ⟨f1, c1, n1, k1, rfl⟩ := K0.form
  replace K0 := K0.mono (B' := w.heap.size + 1) hsz
  replace hT := hT.below hx
  replace R0 := R0.below hx
  replace hb0 := bel_tr hb0 hx
  replace hsz := Nat.le_trans hsz (Below.size hx)
  clear hx hP
  have hszN := hsz
  have hx := bel_d0 w4 (.cells #[.bool f1, .slice c1 n1 k1] 26)
  replace hT := hT.below hx
  replace K0 := K0.below hx
  replace R0 := R0.below hx
  replace hb0 := bel_tr hb0 hx
  replace hsz := Nat.le_trans hsz (Below.size hx)
  have Vn := var2_new w4 (.bool f1) (.slice c1 n1 k1) 26
  clear hx
  go_wp2_with fail
  generalize w4.alloc (.cells #[.bool f1, .slice c1 n1 k1] 26) = w5 at *
  refine (hX _).mono ?_
  rintro e w6 ⟨rfl, hx⟩
  replace hT := hT.below hx
  replace K0 := K0.below hx
  replace R0 := R0.below hx
  replace Vn := Vn.below hx
  replace hb0 := bel_tr hb0 hx
  replace hsz := Nat.le_trans hsz (Below.size hx)
  clear hx hX
  obtain ⟨vnc0, vnc1, vnc2, vnc3⟩ := id Vn
  have ht1 : -(k : Int) < 0 := by omega
  have hkb : k ≤ 3000000 := by omega
  obtain rfl : t = be.size - k := by omega
  have hww : IntKind.i64.wrap ((be.size : Int) - (k : Int) - (be.size : Int)) = -(k : Int) := by rw [IntKind.wrap_i64]; omega
  have hsb : (be.size : Int) - (k : Int) - (be.size : Int) = -(k : Int) := by omega
  have hwn : IntKind.i64.wrap (- -(k : Int)) = (k : Int) := by rw [IntKind.wrap_i64]; omega
  clear hk h9
  go_wp2_with fail
  clear vnc0 vnc1 vnc2 vnc3
  obtain ⟨vnc0, vnc1, vnc2, vnc3⟩ := id Vn
  go_region_held3 (fun w' => w'.cell? ⟨w4.heap.size, 0, none⟩ = some (.bool f1) ∧ w'.cell? ⟨w4.heap.size, 1, none⟩ = some (.slice c1 n1 k1))
      (refine ⟨?_, ?_⟩ <;> first | with_reducible exact kept_c hc2 (by assumption) | with_reducible exact kept_c hc1 (by assumption) | with_reducible exact kept_c (bel_d1 _) (by assumption) | with_reducible exact set3_far (kept_c hc2 (by assumption)) (by simp <;> omega))
      ((first
        | (go_at_call 54; go_fit (powZ k (by first | rfl | omega | (rw [IntKind.wrap_i64]; omega)) _ (by omega)); rintro e v7_1 ⟨g1, u1, m1, l1, rfl, K1, hb1⟩; have hd1 : Below w6.heap.size w6 v7_1 := (by first | exact hb1 | exact bel_tr (bel_d1 w6) hb1); have hc1 := hd1)
        | (go_at_call 38; go_fit (lowestR (S := S + (k + 1)) _ ((K0.below hc1).ti.le (by omega)) (K1.ti.le (by omega)) (Int.ne_of_gt (p10_pos k)) (by omega) (hT.below hc1)); rintro e v7_2 ⟨g5, u5, m5, l5, u6, m6, l6, rfl, GG, hb2⟩; have hd2 : Below v7_1.heap.size v7_1 v7_2 := (by first | exact hb2 | exact bel_tr (bel_d1 v7_1) hb2); have hc2 := bel_tr hc1 hd2; have RZ := R0.below hc2; obtain ⟨z0, z1, z2, z3, z4, z5⟩ := id RZ)))
  replace hb0 := bel_tr hb0 hc2
  have hs2 := Below.size hc2
  have hs1v := Below.size hc1
  clear hb1 hb2 hc1 hc2 hd1 hd2 K1 K0 R0 hT
  clear vnc0 vnc1 vnc2 vnc3
  clear Vn z0 z1 z2 z3 z4 z5
  obtain ⟨V, O⟩ := RZ.set (.bool g5) (.slice u5 m5 l5) (.slice u6 m6 l6)
  have GF := (GG.mono (B' := w.heap.size + 1) (by omega)).off O (by omega)
  have hw := hb0.trans (O.below (by omega))
  clear RZ O GG hb0
  go_wp2
  refine bodyPost_ret (v := .tuple #[.agg #[.bool g5, .slice u5 m5 l5, .slice u6 m6 l6], .nilIface]) (by simp [results, Tryz.results22, go_sem, V.c0, V.c1, V.c2]) rfl ⟨_, _, _, _, _, _, _, rfl, GF.mono (by omega), hw⟩
/-- rat.Parse answers r. -/
def Parses (s : ByteArray) (r : Rat) (S : Nat) (w : World) : Prop := Calls Tryz.prog 6 #[.string s] w fun e w' => ∃ f c n k c' n' k', e = .returned (.tuple #[.agg #[.bool f, .slice c n k, .slice c' n' k'], .nilIface]) ∧ GR w' w.heap.size f c n k c' n' k' r S ∧ Below w.heap.size w w'
set_option maxHeartbeats 4000000 in
/-- rat.Parse of a text without a stroke -/
theorem parseD {s : ByteArray} {r : Rat} {S : Nat} (w : World) (hno : (47 : UInt8) ∉ s.data.toList) (hD : ∀ w, TB w → Calls Tryz.prog 22 #[.string s] w fun e w' => ∃ f c n k2 c' n' k', e = .returned (.tuple #[.agg #[.bool f, .slice c n k2, .slice c' n' k'], .nilIface]) ∧ GR w' w.heap.size f c n k2 c' n' k' r S ∧ Below w.heap.size w w') (hT : TB w) : Parses s r S w := by
  unfold Parses
  have R0 := var3_new w (.bool false) (.slice none 0 0) (.slice none 0 0) 28
  have hb0 := bel_d0 w (.cells #[.bool false, .slice none 0 0, .slice none 0 0] 28)
  have hsz : w.heap.size + 1 ≤ (w.alloc (.cells #[.bool false, .slice none 0 0, .slice none 0 0] 28)).heap.size := by simp
  replace hT := hT.below hb0
  go_enter Tryz.func6, Tryz.ntmps6
  go_wp2_with fail
  generalize w.alloc (.cells #[.bool false, .slice none 0 0, .slice none 0 0] 28) = W0 at *
  refine (cutN47 _ _ hno).mono ?_
  rintro e w1 ⟨rfl, hx⟩
  replace hT := hT.below hx
  replace R0 := R0.below hx
  replace hb0 := bel_tr hb0 hx
  replace hsz := Nat.le_trans hsz (Below.size hx)
  clear hx
  clear hno
  go_wp2_with fail
  refine (hD _ hT).mono ?_
  rintro e w2 ⟨f5, c5, n5, k5, d5, m5, l5, rfl, G5, hx⟩
  replace G5 := G5.mono (B' := w.heap.size + 1) hsz
  replace hT := hT.below hx
  replace R0 := R0.below hx
  replace hb0 := bel_tr hb0 hx
  replace hsz := Nat.le_trans hsz (Below.size hx)
  clear hx hD
  clear hT
  obtain ⟨r0c0, r0c1, r0c2, r0c3, r0c4, r0c5⟩ := id R0
  obtain ⟨V, OO⟩ := R0.set (.bool f5) (.slice c5 n5 k5) (.slice d5 m5 l5)
  have hw := hb0.trans (OO.below (B := w.heap.size) (by omega))
  have GF := G5.off OO (by omega)
  clear G5
  clear R0 OO hb0
  go_wp2
  refine bodyPost_ret (v := .tuple #[.agg #[.bool f5, .slice c5 n5 k5, .slice d5 m5 l5], .nilIface]) (by simp [results, Tryz.results6, go_sem, V.c0, V.c1, V.c2]) rfl ⟨_, _, _, _, _, _, _, rfl, GF.mono (by omega), hw⟩
/-- A literal's value. -/
def litV (x t : Int) (n : Nat) : Rat := Rat.divInt (x * p10 (t - n).toNat) (p10 (n - t).toNat)
/-- rat.Parse of a literal that is cut so -/
theorem litG {s dg ex ah be : ByteArray} {x t : Int} {S : Nat} (w : World) (hT : TB w) (hno : (47 : UInt8) ∉ s.data.toList) (hE : CutsE s dg ex) (hC : CutsP dg ah be) (hN : NoSign be) (hP : ParsesI (ah ++ be) x S) (hX : ParsesX ex t) (h8 : -9999 ≤ t) (h9 : t ≤ 9999) (hah : ah.size ≤ 1100000) (hb9 : be.size ≤ 1100000) (hS : S ≤ 1100000) :
    Parses s (litV x t be.size) (S + be.size + 10001) w := by
  refine parseD w hno (fun w hT => ?_) hT
  by_cases h : 0 ≤ t - be.size
  · obtain ⟨k, hk⟩ : ∃ k : Nat, t - be.size = k := ⟨(t - be.size).toNat, by omega⟩
    refine (decUp w hE hC hN hP hX hk (by omega) (by omega) h9 (by omega) hT).mono ?_
    rintro e w' ⟨f, c, n, k2, c', n', k', rfl, G, hb⟩
    refine ⟨f, c, n, k2, c', n', k', rfl, (G.val ?_).le (by omega), hb⟩
    unfold litV
    rw [show (t - be.size).toNat = k by omega, show ((be.size : Int) - t).toNat = 0 by omega]
    rfl
  · obtain ⟨k, hk⟩ : ∃ k : Nat, t - be.size = -(k : Int) := ⟨(be.size - t).toNat, by omega⟩
    refine (decDn w hE hC hN hP hX hk (by omega) (by omega) (by omega) h8 (by omega) hT).mono ?_
    rintro e w' ⟨f, c, n, k2, c', n', k', rfl, G, hb⟩
    refine ⟨f, c, n, k2, c', n', k', rfl, (G.val ?_).le (by omega), hb⟩
    unfold litV
    rw [show (t - be.size).toNat = 0 by omega, show ((be.size : Int) - t).toNat = k by omega, show p10 0 = 1 by rfl, Int.mul_one]
end Go.Proofs.YtdfoiklcekhmpaaGreatDoor

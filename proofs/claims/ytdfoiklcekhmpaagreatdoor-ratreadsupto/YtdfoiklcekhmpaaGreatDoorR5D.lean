import Derived.Test.YtdfoiklcekhmpaaGreatDoorR5C
namespace Go.Proofs.YtdfoiklcekhmpaaGreatDoor
open Go.RowKit Go.Shelf

set_option maxRecDepth 100000 in
set_option maxHeartbeats 4000000 in
/-- rat.parseDecimal: a sign behind the point -/
theorem decN1 {s dg ex ah be : ByteArray} (w : World) {ev : Value} (E : Errs w 2 ev) (hE : CutsE s dg ex) (hC : CutsP dg ah be) (hN : ∀ w, Calls Tryz.prog 52 #[.string be, .string ⟨#[43, 45]⟩] w fun e w' => e = .returned (.bool true) ∧ Below w.heap.size w w') :
    Calls Tryz.prog 22 #[.string s] w fun e w' => e = .returned (.tuple #[.agg #[.bool false, .slice none 0 0, .slice none 0 0], ev]) ∧ Below w.heap.size w w' := by
  have hgl : 2 < w.heap.size := World.block_lt_of_cell? _ _ E.1
  have hgn : ¬ w.heap.size = 2 := by omega
  have hgm : ¬ 2 = w.heap.size := by omega
  have R0 := var3_new w (.bool false) (.slice none 0 0) (.slice none 0 0) 28
  have hb0 := bel_d0 w (.cells #[.bool false, .slice none 0 0, .slice none 0 0] 28)
  have hsz : w.heap.size + 1 ≤ (w.alloc (.cells #[.bool false, .slice none 0 0, .slice none 0 0] 28)).heap.size := by simp
  replace E := E.below hb0
  go_enter Tryz.func22, Tryz.ntmps22
  go_wp2_with fail
  generalize w.alloc (.cells #[.bool false, .slice none 0 0, .slice none 0 0] 28) = W0 at *
  refine (hE _).mono ?_
  rintro e w1 ⟨rfl, hx⟩
  replace E := E.below hx
  replace R0 := R0.below hx
  replace hb0 := bel_tr hb0 hx
  replace hsz := Nat.le_trans hsz (Below.size hx)
  clear hx hE
  go_wp2_with fail
  refine (hC _).mono ?_
  rintro e w2 ⟨b, rfl, hx⟩
  replace E := E.below hx
  replace R0 := R0.below hx
  replace hb0 := bel_tr hb0 hx
  replace hsz := Nat.le_trans hsz (Below.size hx)
  clear hx hC
  go_wp2_with fail
  refine (hN _).mono ?_
  rintro e w3 ⟨rfl, hx⟩
  replace E := E.below hx
  replace R0 := R0.below hx
  replace hb0 := bel_tr hb0 hx
  replace hsz := Nat.le_trans hsz (Below.size hx)
  clear hx hN
  obtain ⟨r0c0, r0c1, r0c2, r0c3, r0c4, r0c5⟩ := id R0
  obtain ⟨V, O⟩ := R0.set (.bool false) (.slice none 0 0) (.slice none 0 0)
  have hw := hb0.trans (O.below (B := w.heap.size) (by omega))
  have E0 := E
  obtain ⟨ec, p, rfl⟩ := E0
  clear R0 O hb0 E
  go_wp2_with fail
  go_region
  have V' := V.below (bel_d1 _)
  go_wp2
  refine bodyPost_ret (v := .tuple #[.agg #[.bool false, .slice none 0 0, .slice none 0 0], .iface 172 (.pointer (some p))]) (by simp [results, Tryz.results22, go_sem, V'.c0, V'.c1, V'.c2]) rfl ⟨rfl, belN hw 1⟩
set_option maxRecDepth 100000 in
set_option maxHeartbeats 4000000 in
/-- rat.parseDecimal: no digits, or others among them -/
theorem decN2 {s dg ex ah be : ByteArray} (w : World) {ev : Value} (E : Errs w 2 ev) (hE : CutsE s dg ex) (hC : CutsP dg ah be) (hN : NoSign be) (hP : ∀ w, Errs w 2 ev → Calls Tryz.prog 49 #[.string (ah ++ be)] w fun e w' => e = .returned (.tuple #[.agg #[.bool false, .slice none 0 0], ev]) ∧ Below w.heap.size w w') (hah : ah.size ≤ 2000000) (hb9 : be.size ≤ 2000000) :
    Calls Tryz.prog 22 #[.string s] w fun e w' => e = .returned (.tuple #[.agg #[.bool false, .slice none 0 0, .slice none 0 0], ev]) ∧ Below w.heap.size w w' := by
  have R0 := var3_new w (.bool false) (.slice none 0 0) (.slice none 0 0) 28
  have hb0 := bel_d0 w (.cells #[.bool false, .slice none 0 0, .slice none 0 0] 28)
  have hsz : w.heap.size + 1 ≤ (w.alloc (.cells #[.bool false, .slice none 0 0, .slice none 0 0] 28)).heap.size := by simp
  replace E := E.below hb0
  go_enter Tryz.func22, Tryz.ntmps22
  go_wp2_with fail
  generalize w.alloc (.cells #[.bool false, .slice none 0 0, .slice none 0 0] 28) = W0 at *
  refine (hE _).mono ?_
  rintro e w1 ⟨rfl, hx⟩
  replace E := E.below hx
  replace R0 := R0.below hx
  replace hb0 := bel_tr hb0 hx
  replace hsz := Nat.le_trans hsz (Below.size hx)
  clear hx hE
  go_wp2_with fail
  refine (hC _).mono ?_
  rintro e w2 ⟨b, rfl, hx⟩
  replace E := E.below hx
  replace R0 := R0.below hx
  replace hb0 := bel_tr hb0 hx
  replace hsz := Nat.le_trans hsz (Below.size hx)
  clear hx hC
  go_wp2_with fail
  refine (hN _).mono ?_
  rintro e w3 ⟨rfl, hx⟩
  replace E := E.below hx
  replace R0 := R0.below hx
  replace hb0 := bel_tr hb0 hx
  replace hsz := Nat.le_trans hsz (Below.size hx)
  clear hx hN
  go_wp2_with fail
  refine (hP _ E).mono ?_
  rintro e w4 ⟨rfl, hx⟩
  replace E := E.below hx
  replace R0 := R0.below hx
  replace hb0 := bel_tr hb0 hx
  replace hsz := Nat.le_trans hsz (Below.size hx)
  clear hx hP
  have hx := bel_d0 w4 (.cells #[.bool false, .slice none 0 0] 26)
  replace E := E.below hx
  replace R0 := R0.below hx
  replace hb0 := bel_tr hb0 hx
  replace hsz := Nat.le_trans hsz (Below.size hx)
  clear hx
  obtain ⟨r0c0, r0c1, r0c2, r0c3, r0c4, r0c5⟩ := id R0
  obtain ⟨V, O⟩ := R0.set (.bool false) (.slice none 0 0) (.slice none 0 0)
  have hw := hb0.trans (O.below (B := w.heap.size) (by omega))
  have E0 := E
  obtain ⟨ec, p, rfl⟩ := E0
  clear R0 O hb0 E
  go_wp2
  refine bodyPost_ret (v := .tuple #[.agg #[.bool false, .slice none 0 0, .slice none 0 0], .iface 172 (.pointer (some p))]) (by simp [results, Tryz.results22, go_sem, V.c0, V.c1, V.c2]) rfl ⟨rfl, hw⟩
set_option maxRecDepth 100000 in
set_option maxHeartbeats 4000000 in
/-- rat.parseDecimal: the exponent at fault -/
theorem decX3 {s dg ex ah be : ByteArray} {x : Int} {S : Nat} (w : World) (hE : CutsE s dg ex) (hC : CutsP dg ah be) (hN : NoSign be) (hP : ParsesI (ah ++ be) x S) {ev : Value} {gE : Nat} (E : Errs w gE ev) (hX : ∀ w, Errs w gE ev → Calls Tryz.prog 53 #[.string ex] w fun e w' => e = .returned (.tuple #[.int .i64 0, ev]) ∧ Below w.heap.size w w') (hah : ah.size ≤ 2000000) (hb9 : be.size ≤ 2000000) :
    Calls Tryz.prog 22 #[.string s] w fun e w' => e = .returned (.tuple #[.agg #[.bool false, .slice none 0 0, .slice none 0 0], ev]) ∧ Below w.heap.size w w' := by
  have R0 := var3_new w (.bool false) (.slice none 0 0) (.slice none 0 0) 28
  have hb0 := bel_d0 w (.cells #[.bool false, .slice none 0 0, .slice none 0 0] 28)
  have hsz : w.heap.size + 1 ≤ (w.alloc (.cells #[.bool false, .slice none 0 0, .slice none 0 0] 28)).heap.size := by simp
  replace E := E.below hb0
  go_enter Tryz.func22, Tryz.ntmps22
  go_wp2_with fail
  generalize w.alloc (.cells #[.bool false, .slice none 0 0, .slice none 0 0] 28) = W0 at *
  refine (hE _).mono ?_
  rintro e w1 ⟨rfl, hx⟩
  replace E := E.below hx
  replace R0 := R0.below hx
  replace hb0 := bel_tr hb0 hx
  replace hsz := Nat.le_trans hsz (Below.size hx)
  clear hx hE
  go_wp2_with fail
  refine (hC _).mono ?_
  rintro e w2 ⟨b, rfl, hx⟩
  replace E := E.below hx
  replace R0 := R0.below hx
  replace hb0 := bel_tr hb0 hx
  replace hsz := Nat.le_trans hsz (Below.size hx)
  clear hx hC
  go_wp2_with fail
  refine (hN _).mono ?_
  rintro e w3 ⟨rfl, hx⟩
  replace E := E.below hx
  replace R0 := R0.below hx
  replace hb0 := bel_tr hb0 hx
  replace hsz := Nat.le_trans hsz (Below.size hx)
  clear hx hN
  go_wp2_with fail
  refine (hP _).mono ?_
  rintro e w4 ⟨v4, rfl, K0, hx⟩
  obtain ⟨f1, c1, n1, k1, rfl⟩ := K0.form
  replace K0 := K0.mono (B' := w.heap.size + 1) hsz
  replace E := E.below hx
  replace R0 := R0.below hx
  replace hb0 := bel_tr hb0 hx
  replace hsz := Nat.le_trans hsz (Below.size hx)
  clear hx hP
  have hszN := hsz
  have hx := bel_d0 w4 (.cells #[.bool f1, .slice c1 n1 k1] 26)
  replace E := E.below hx
  replace K0 := K0.below hx
  replace R0 := R0.below hx
  replace hb0 := bel_tr hb0 hx
  replace hsz := Nat.le_trans hsz (Below.size hx)
  have Vn := var2_new w4 (.bool f1) (.slice c1 n1 k1) 26
  clear hx
  go_wp2_with fail
  generalize w4.alloc (.cells #[.bool f1, .slice c1 n1 k1] 26) = w5 at *
  refine (hX _ E).mono ?_
  rintro e w6 ⟨rfl, hx⟩
  replace E := E.below hx
  replace R0 := R0.below hx
  replace hb0 := bel_tr hb0 hx
  replace hsz := Nat.le_trans hsz (Below.size hx)
  clear hx hX K0 Vn
  obtain ⟨r0c0, r0c1, r0c2, r0c3, r0c4, r0c5⟩ := id R0
  obtain ⟨V, O⟩ := R0.set (.bool false) (.slice none 0 0) (.slice none 0 0)
  have hw := hb0.trans (O.below (B := w.heap.size) (by omega))
  obtain ⟨p, rfl⟩ := E.2
  clear R0 O hb0 E
  go_wp2
  refine bodyPost_ret (v := .tuple #[.agg #[.bool false, .slice none 0 0, .slice none 0 0], _]) (by simp [results, Tryz.results22, go_sem, V.c0, V.c1, V.c2]) rfl ⟨rfl, hw⟩
set_option maxRecDepth 100000 in
set_option maxHeartbeats 4000000 in
/-- rat.parseQuotient: the upper part at fault -/
theorem quoN1 {a b : ByteArray} (w : World) {ev : Value} (E : Errs w 2 ev) (ha : a.size ≤ 100000000) (hd : ¬ (Digs (cutS a).2 (cutS a).2.size ∧ 0 < (cutS a).2.size)) :
    Calls Tryz.prog 21 #[.string a, .string b] w fun e w' => e = .returned (.tuple #[.agg #[.bool false, .slice none 0 0, .slice none 0 0], ev]) ∧ Below w.heap.size w w' := by
  have R0 := var3_new w (.bool false) (.slice none 0 0) (.slice none 0 0) 28
  have hb0 := bel_d0 w (.cells #[.bool false, .slice none 0 0, .slice none 0 0] 28)
  have hsz : w.heap.size + 1 ≤ (w.alloc (.cells #[.bool false, .slice none 0 0, .slice none 0 0] 28)).heap.size := by simp
  replace E := E.below hb0
  go_enter Tryz.func21, Tryz.ntmps21
  go_wp2_with fail
  generalize w.alloc (.cells #[.bool false, .slice none 0 0, .slice none 0 0] 28) = W0 at *
  refine (parseN a _ ev ha hd E).mono ?_
  rintro e w1 ⟨rfl, hx⟩
  replace E := E.below hx
  replace R0 := R0.below hx
  replace hb0 := bel_tr hb0 hx
  replace hsz := Nat.le_trans hsz (Below.size hx)
  clear hx hd
  have hx := bel_d0 w1 (.cells #[.bool false, .slice none 0 0] 26)
  replace E := E.below hx
  replace R0 := R0.below hx
  replace hb0 := bel_tr hb0 hx
  replace hsz := Nat.le_trans hsz (Below.size hx)
  clear hx
  obtain ⟨r0c0, r0c1, r0c2, r0c3, r0c4, r0c5⟩ := id R0
  obtain ⟨V, O⟩ := R0.set (.bool false) (.slice none 0 0) (.slice none 0 0)
  have hw := hb0.trans (O.below (B := w.heap.size) (by omega))
  have E0 := E
  obtain ⟨ec, p, rfl⟩ := E0
  clear R0 O hb0 E
  go_wp2
  refine bodyPost_ret (v := .tuple #[.agg #[.bool false, .slice none 0 0, .slice none 0 0], .iface 172 (.pointer (some p))]) (by simp [results, Tryz.results21, go_sem, V.c0, V.c1, V.c2]) rfl ⟨rfl, hw⟩
set_option maxRecDepth 100000 in
set_option maxHeartbeats 4000000 in
/-- rat.parseQuotient: the lower part at fault -/
theorem quoN2 {a b : ByteArray} (w : World) {ev : Value} (E : Errs w 2 ev) (ha : a.size ≤ 100000000) (hb : b.size ≤ 100000000) (hd : Digs (cutS a).2 (cutS a).2.size) (h0 : 0 < (cutS a).2.size) (hn : ¬ (Digs b b.size ∧ 0 < b.size)) :
    Calls Tryz.prog 21 #[.string a, .string b] w fun e w' => e = .returned (.tuple #[.agg #[.bool false, .slice none 0 0, .slice none 0 0], ev]) ∧ Below w.heap.size w w' := by
  have R0 := var3_new w (.bool false) (.slice none 0 0) (.slice none 0 0) 28
  have hb0 := bel_d0 w (.cells #[.bool false, .slice none 0 0, .slice none 0 0] 28)
  have hsz : w.heap.size + 1 ≤ (w.alloc (.cells #[.bool false, .slice none 0 0, .slice none 0 0] 28)).heap.size := by simp
  replace E := E.below hb0
  go_enter Tryz.func21, Tryz.ntmps21
  go_wp2_with fail
  generalize w.alloc (.cells #[.bool false, .slice none 0 0, .slice none 0 0] 28) = W0 at *
  refine (parseI a _ ha hd h0).mono ?_
  rintro e w1 ⟨v1, rfl, K1, hx⟩
  obtain ⟨f1, c1, n1, k1, rfl⟩ := K1.form
  replace K1 := K1.mono (B' := w.heap.size + 1) hsz
  replace E := E.below hx
  replace R0 := R0.below hx
  replace hb0 := bel_tr hb0 hx
  replace hsz := Nat.le_trans hsz (Below.size hx)
  clear hx hd h0
  have hx := bel_d0 w1 (.cells #[.bool f1, .slice c1 n1 k1] 26)
  replace E := E.below hx
  replace R0 := R0.below hx
  replace hb0 := bel_tr hb0 hx
  replace hsz := Nat.le_trans hsz (Below.size hx)
  clear hx
  go_wp2_with fail
  generalize w1.alloc (.cells #[.bool f1, .slice c1 n1 k1] 26) = w2 at *
  refine (parse_no b _ ev hb hn E).mono ?_
  rintro e w3 ⟨rfl, hx⟩
  replace E := E.below hx
  replace R0 := R0.below hx
  replace hb0 := bel_tr hb0 hx
  replace hsz := Nat.le_trans hsz (Below.size hx)
  clear hx hn
  clear K1
  obtain ⟨r0c0, r0c1, r0c2, r0c3, r0c4, r0c5⟩ := id R0
  obtain ⟨V, O⟩ := R0.set (.bool false) (.slice none 0 0) (.slice none 0 0)
  have hw := hb0.trans (O.below (B := w.heap.size) (by omega))
  have E0 := E
  obtain ⟨ec, p, rfl⟩ := E0
  clear R0 O hb0 E
  go_wp2
  refine bodyPost_ret (v := .tuple #[.agg #[.bool false, .slice none 0 0, .slice none 0 0], .iface 172 (.pointer (some p))]) (by simp [results, Tryz.results21, go_sem, V.c0, V.c1, V.c2]) rfl ⟨rfl, hw⟩
set_option maxHeartbeats 4000000 in
/-- rat.parseQuotient of two texts -/
theorem quoOk {a b : ByteArray} {S : Nat} (w : World) (ha : a.size ≤ 100000000) (hb : b.size ≤ 100000000) (hd : Digs (cutS a).2 (cutS a).2.size) (h0 : 0 < (cutS a).2.size) (hdb : Digs b b.size) (h0b : 0 < b.size) (hv : rdF b 0 b.size ≠ 0) (hSa : a.size ≤ S) (hSb : b.size ≤ S) (hS : S ≤ 7000000) (hT : TB w) :
    Calls Tryz.prog 21 #[.string a, .string b] w fun e w' => ∃ f c n k c' n' k', e = .returned (.tuple #[.agg #[.bool f, .slice c n k, .slice c' n' k'], .nilIface]) ∧ GR w' w.heap.size f c n k c' n' k' (Rat.divInt (ws (cutS a).1 (rdF (cutS a).2 0 (cutS a).2.size)) (rdF b 0 b.size)) S ∧ Below w.heap.size w w' := by
  have R0 := var3_new w (.bool false) (.slice none 0 0) (.slice none 0 0) 28
  have hb0 := bel_d0 w (.cells #[.bool false, .slice none 0 0, .slice none 0 0] 28)
  have hsz : w.heap.size + 1 ≤ (w.alloc (.cells #[.bool false, .slice none 0 0, .slice none 0 0] 28)).heap.size := by simp
  replace hT := hT.below hb0
  go_enter Tryz.func21, Tryz.ntmps21
  go_wp2_with fail
  generalize w.alloc (.cells #[.bool false, .slice none 0 0, .slice none 0 0] 28) = W0 at *
  have hcz := cutS_size a
  refine (parseI a _ ha hd h0).mono ?_
  rintro e w1 ⟨v1, rfl, K1, hx⟩
  obtain ⟨f1, c1, n1, k1, rfl⟩ := K1.form
  replace K1 := K1.mono (B' := w.heap.size + 1) hsz
  replace hT := hT.below hx
  replace R0 := R0.below hx
  replace hb0 := bel_tr hb0 hx
  replace hsz := Nat.le_trans hsz (Below.size hx)
  clear hx
  replace K1 := K1.le (S' := S) (by omega)
  clear hd h0 hcz
  have hx := bel_d0 w1 (.cells #[.bool f1, .slice c1 n1 k1] 26)
  replace hT := hT.below hx
  replace K1 := K1.below hx
  replace R0 := R0.below hx
  replace hb0 := bel_tr hb0 hx
  replace hsz := Nat.le_trans hsz (Below.size hx)
  have Vn := var2_new w1 (.bool f1) (.slice c1 n1 k1) 26
  clear hx
  go_wp2_with fail
  generalize w1.alloc (.cells #[.bool f1, .slice c1 n1 k1] 26) = w2 at *
  refine (parse_yes b _ hb hdb h0b).mono ?_
  rintro e w3 ⟨c2, n2, k2, rfl, G2, hx⟩
  replace G2 := G2.mono (B' := w.heap.size + 1) hsz
  replace hT := hT.below hx
  replace K1 := K1.below hx
  replace R0 := R0.below hx
  replace Vn := Vn.below hx
  replace hb0 := bel_tr hb0 hx
  replace hsz := Nat.le_trans hsz (Below.size hx)
  clear hx
  replace G2 := G2.le (S' := S) (by omega)
  clear hdb h0b
  obtain ⟨vnc0, vnc1, vnc2, vnc3⟩ := id Vn
  go_wp2_with fail
  refine (makeQ _ K1.ti G2.ti' hv hS hT).mono ?_
  rintro e w4 ⟨f5, c5, n5, k5, d5, m5, l5, rfl, G5, hx⟩
  replace G5 := G5.mono (B' := w.heap.size + 1) hsz
  clear vnc0 vnc1 vnc2 vnc3
  replace hT := hT.below hx
  replace K1 := K1.below hx
  replace G2 := G2.below hx
  replace R0 := R0.below hx
  replace Vn := Vn.below hx
  replace hb0 := bel_tr hb0 hx
  replace hsz := Nat.le_trans hsz (Below.size hx)
  clear hx
  clear K1
  clear G2
  clear Vn
  clear hT
  obtain ⟨r0c0, r0c1, r0c2, r0c3, r0c4, r0c5⟩ := id R0
  obtain ⟨V, OO⟩ := R0.set (.bool f5) (.slice c5 n5 k5) (.slice d5 m5 l5)
  have hw := hb0.trans (OO.below (B := w.heap.size) (by omega))
  have GF := G5.off OO (by omega)
  clear G5
  clear R0 OO hb0
  go_wp2
  refine bodyPost_ret (v := .tuple #[.agg #[.bool f5, .slice c5 n5 k5, .slice d5 m5 l5], .nilIface]) (by simp [results, Tryz.results21, go_sem, V.c0, V.c1, V.c2]) rfl ⟨_, _, _, _, _, _, _, rfl, GF.mono (B' := w.heap.size) (by omega), hw⟩
set_option maxHeartbeats 4000000 in
/-- rat.parseQuotient: nought below -/
theorem quoE {a b : ByteArray} {S : Nat} (w : World) (ha : a.size ≤ 100000000) (hb : b.size ≤ 100000000) (hd : Digs (cutS a).2 (cutS a).2.size) (h0 : 0 < (cutS a).2.size) (hdb : Digs b b.size) (h0b : 0 < b.size) (hv : rdF b 0 b.size = 0) (hSa : a.size ≤ S) (hSb : b.size ≤ S) (hS : S ≤ 7000000) {ev : Value} (E : Errs w 1 ev) :
    Calls Tryz.prog 21 #[.string a, .string b] w fun e w' => e = .returned (.tuple #[.agg #[.bool false, .slice none 0 0, .slice none 0 0], ev]) ∧ Below w.heap.size w w' := by
  have R0 := var3_new w (.bool false) (.slice none 0 0) (.slice none 0 0) 28
  have hb0 := bel_d0 w (.cells #[.bool false, .slice none 0 0, .slice none 0 0] 28)
  have hsz : w.heap.size + 1 ≤ (w.alloc (.cells #[.bool false, .slice none 0 0, .slice none 0 0] 28)).heap.size := by simp
  replace E := E.below hb0
  go_enter Tryz.func21, Tryz.ntmps21
  go_wp2_with fail
  generalize w.alloc (.cells #[.bool false, .slice none 0 0, .slice none 0 0] 28) = W0 at *
  have hcz := cutS_size a
  refine (parseI a _ ha hd h0).mono ?_
  rintro e w1 ⟨v1, rfl, K1, hx⟩
  obtain ⟨f1, c1, n1, k1, rfl⟩ := K1.form
  replace K1 := K1.mono (B' := w.heap.size + 1) hsz
  replace E := E.below hx
  replace R0 := R0.below hx
  replace hb0 := bel_tr hb0 hx
  replace hsz := Nat.le_trans hsz (Below.size hx)
  clear hx
  replace K1 := K1.le (S' := S) (by omega)
  clear hd h0 hcz
  have hx := bel_d0 w1 (.cells #[.bool f1, .slice c1 n1 k1] 26)
  replace E := E.below hx
  replace K1 := K1.below hx
  replace R0 := R0.below hx
  replace hb0 := bel_tr hb0 hx
  replace hsz := Nat.le_trans hsz (Below.size hx)
  have Vn := var2_new w1 (.bool f1) (.slice c1 n1 k1) 26
  clear hx
  go_wp2_with fail
  generalize w1.alloc (.cells #[.bool f1, .slice c1 n1 k1] 26) = w2 at *
  refine (parse_yes b _ hb hdb h0b).mono ?_
  rintro e w3 ⟨c2, n2, k2, rfl, G2, hx⟩
  replace G2 := G2.mono (B' := w.heap.size + 1) hsz
  replace E := E.below hx
  replace K1 := K1.below hx
  replace R0 := R0.below hx
  replace Vn := Vn.below hx
  replace hb0 := bel_tr hb0 hx
  replace hsz := Nat.le_trans hsz (Below.size hx)
  clear hx
  replace G2 := G2.le (S' := S) (by omega)
  clear hdb h0b
  obtain ⟨vnc0, vnc1, vnc2, vnc3⟩ := id Vn
  go_wp2_with fail
  refine (makeE _ K1.ti G2.ti' hv hS E).mono ?_
  rintro e w4 ⟨rfl, hx⟩
  clear vnc0 vnc1 vnc2 vnc3
  replace E := E.below hx
  replace R0 := R0.below hx
  replace hb0 := bel_tr hb0 hx
  replace hsz := Nat.le_trans hsz (Below.size hx)
  clear hx K1 G2 Vn
  obtain ⟨r0c0, r0c1, r0c2, r0c3, r0c4, r0c5⟩ := id R0
  obtain ⟨V, O⟩ := R0.set (.bool false) (.slice none 0 0) (.slice none 0 0)
  have hw := hb0.trans (O.below (B := w.heap.size) (by omega))
  have E0 := E
  obtain ⟨ec, p, rfl⟩ := E0
  clear R0 O hb0 E
  go_wp2
  refine bodyPost_ret (v := .tuple #[.agg #[.bool false, .slice none 0 0, .slice none 0 0], .iface 172 (.pointer (some p))]) (by simp [results, Tryz.results21, go_sem, V.c0, V.c1, V.c2]) rfl ⟨rfl, hw⟩
set_option maxHeartbeats 4000000 in
/-- rat.Parse of a text with a stroke -/
theorem parseS {s : ByteArray} {k : Nat} {r : Rat} {S : Nat} (w : World) (hk : Lib.indexByte s.data.toList 47 = (k : Int)) (hks : k < s.size) (hs : s.size ≤ 100000000) (hD : ∀ w, TB w → Calls Tryz.prog 21 #[.string (s.extract 0 k), .string (s.extract (k + 1) s.size)] w fun e w' => ∃ f c n k2 c' n' k', e = .returned (.tuple #[.agg #[.bool f, .slice c n k2, .slice c' n' k'], .nilIface]) ∧ GR w' w.heap.size f c n k2 c' n' k' r S ∧ Below w.heap.size w w') (hT : TB w) : Parses s r S w := by
  unfold Parses
  have R0 := var3_new w (.bool false) (.slice none 0 0) (.slice none 0 0) 28
  have hb0 := bel_d0 w (.cells #[.bool false, .slice none 0 0, .slice none 0 0] 28)
  have hsz : w.heap.size + 1 ≤ (w.alloc (.cells #[.bool false, .slice none 0 0, .slice none 0 0] 28)).heap.size := by simp
  replace hT := hT.below hb0
  go_enter Tryz.func6, Tryz.ntmps6
  go_wp2_with fail
  generalize w.alloc (.cells #[.bool false, .slice none 0 0, .slice none 0 0] 28) = W0 at *
  refine (cutA47 s k _ hk hs hks).mono ?_
  rintro e w1 ⟨rfl, hx⟩
  replace hT := hT.below hx
  replace R0 := R0.below hx
  replace hb0 := bel_tr hb0 hx
  replace hsz := Nat.le_trans hsz (Below.size hx)
  clear hx
  clear hk
  generalize s.extract 0 k = ea at *
  generalize s.extract (k + 1) s.size = eb at *
  go_wp2_with fail
  refine (hD _ hT).mono ?_
  rintro e w2 ⟨f5, c5, n5, k5, d5, m5, l5, rfl, G5, hx⟩
  replace G5 := G5.mono (B' := w.heap.size + 1) hsz
  replace hT := hT.below hx
  replace R0 := R0.below hx
  replace hb0 := bel_tr hb0 hx
  replace hsz := Nat.le_trans hsz (Below.size hx)
  clear hx hD
  clear hT
  obtain ⟨r0c0, r0c1, r0c2, r0c3, r0c4, r0c5⟩ := id R0
  obtain ⟨V, OO⟩ := R0.set (.bool f5) (.slice c5 n5 k5) (.slice d5 m5 l5)
  have hw := hb0.trans (OO.below (B := w.heap.size) (by omega))
  have GF := G5.off OO (by omega)
  clear G5
  clear R0 OO hb0
  go_wp2
  refine bodyPost_ret (v := .tuple #[.agg #[.bool f5, .slice c5 n5 k5, .slice d5 m5 l5], .nilIface]) (by simp [results, Tryz.results6, go_sem, V.c0, V.c1, V.c2]) rfl ⟨_, _, _, _, _, _, _, rfl, GF.mono (by omega), hw⟩
set_option maxHeartbeats 4000000 in
theorem parseDF {s : ByteArray} {gE : Nat} (w : World) (hno : (47 : UInt8) ∉ s.data.toList) {ev : Value} (E : Errs w gE ev) (hD : ∀ w, Errs w gE ev → Calls Tryz.prog 22 #[.string s] w fun e w' => e = .returned (.tuple #[.agg #[.bool false, .slice none 0 0, .slice none 0 0], ev]) ∧ Below w.heap.size w w') :
    Calls Tryz.prog 6 #[.string s] w fun e w' => e = .returned (.tuple #[.agg #[.bool false, .slice none 0 0, .slice none 0 0], ev]) ∧ Below w.heap.size w w' := by
  have R0 := var3_new w (.bool false) (.slice none 0 0) (.slice none 0 0) 28
  have hb0 := bel_d0 w (.cells #[.bool false, .slice none 0 0, .slice none 0 0] 28)
  have hsz : w.heap.size + 1 ≤ (w.alloc (.cells #[.bool false, .slice none 0 0, .slice none 0 0] 28)).heap.size := by simp
  replace E := E.below hb0
  go_enter Tryz.func6, Tryz.ntmps6
  go_wp2_with fail
  generalize w.alloc (.cells #[.bool false, .slice none 0 0, .slice none 0 0] 28) = W0 at *
  refine (cutN47 _ _ hno).mono ?_
  rintro e w1 ⟨rfl, hx⟩
  replace E := E.below hx
  replace R0 := R0.below hx
  replace hb0 := bel_tr hb0 hx
  replace hsz := Nat.le_trans hsz (Below.size hx)
  clear hx
  clear hno
  go_wp2_with fail
  refine (hD _ E).mono ?_
  rintro e w2 ⟨rfl, hx⟩
  replace E := E.below hx
  replace R0 := R0.below hx
  replace hb0 := bel_tr hb0 hx
  replace hsz := Nat.le_trans hsz (Below.size hx)
  clear hx hD
  obtain ⟨r0c0, r0c1, r0c2, r0c3, r0c4, r0c5⟩ := id R0
  obtain ⟨V, O⟩ := R0.set (.bool false) (.slice none 0 0) (.slice none 0 0)
  have hw := hb0.trans (O.below (B := w.heap.size) (by omega))
  obtain ⟨p, rfl⟩ := E.2
  clear R0 O hb0 E
  go_wp2
  refine bodyPost_ret (v := .tuple #[.agg #[.bool false, .slice none 0 0, .slice none 0 0], _]) (by simp [results, Tryz.results6, go_sem, V.c0, V.c1, V.c2]) rfl ⟨rfl, hw⟩
set_option maxHeartbeats 4000000 in
theorem parseSF {s : ByteArray} {k : Nat} {gE : Nat} (w : World) (hk : Lib.indexByte s.data.toList 47 = (k : Int)) (hks : k < s.size) (hs : s.size ≤ 100000000) {ev : Value} (E : Errs w gE ev) (hD : ∀ w, Errs w gE ev → Calls Tryz.prog 21 #[.string (s.extract 0 k), .string (s.extract (k + 1) s.size)] w fun e w' => e = .returned (.tuple #[.agg #[.bool false, .slice none 0 0, .slice none 0 0], ev]) ∧ Below w.heap.size w w') :
    Calls Tryz.prog 6 #[.string s] w fun e w' => e = .returned (.tuple #[.agg #[.bool false, .slice none 0 0, .slice none 0 0], ev]) ∧ Below w.heap.size w w' := by
  have R0 := var3_new w (.bool false) (.slice none 0 0) (.slice none 0 0) 28
  have hb0 := bel_d0 w (.cells #[.bool false, .slice none 0 0, .slice none 0 0] 28)
  have hsz : w.heap.size + 1 ≤ (w.alloc (.cells #[.bool false, .slice none 0 0, .slice none 0 0] 28)).heap.size := by simp
  replace E := E.below hb0
  go_enter Tryz.func6, Tryz.ntmps6
  go_wp2_with fail
  generalize w.alloc (.cells #[.bool false, .slice none 0 0, .slice none 0 0] 28) = W0 at *
  refine (cutA47 s k _ hk hs hks).mono ?_
  rintro e w1 ⟨rfl, hx⟩
  replace E := E.below hx
  replace R0 := R0.below hx
  replace hb0 := bel_tr hb0 hx
  replace hsz := Nat.le_trans hsz (Below.size hx)
  clear hx
  clear hk
  generalize s.extract 0 k = ea at *
  generalize s.extract (k + 1) s.size = eb at *
  go_wp2_with fail
  refine (hD _ E).mono ?_
  rintro e w2 ⟨rfl, hx⟩
  replace E := E.below hx
  replace R0 := R0.below hx
  replace hb0 := bel_tr hb0 hx
  replace hsz := Nat.le_trans hsz (Below.size hx)
  clear hx hD
  obtain ⟨r0c0, r0c1, r0c2, r0c3, r0c4, r0c5⟩ := id R0
  obtain ⟨V, O⟩ := R0.set (.bool false) (.slice none 0 0) (.slice none 0 0)
  have hw := hb0.trans (O.below (B := w.heap.size) (by omega))
  obtain ⟨p, rfl⟩ := E.2
  clear R0 O hb0 E
  go_wp2
  refine bodyPost_ret (v := .tuple #[.agg #[.bool false, .slice none 0 0, .slice none 0 0], _]) (by simp [results, Tryz.results6, go_sem, V.c0, V.c1, V.c2]) rfl ⟨rfl, hw⟩
end Go.Proofs.YtdfoiklcekhmpaaGreatDoor

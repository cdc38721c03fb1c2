import Derived.Test.YtjlmboakeigmpaaGreatDoorR4All
namespace Go.Proofs.YtjlmboakeigmpaaGreatDoor
open Go.RowKit Go.Shelf

set_option maxRecDepth 100000 in
set_option maxHeartbeats 4000000 in
/-- rat.parseDecimal where the exponent is at fault -/
theorem decXE {s dg ex ah be : ByteArray} {x : Int} {S : Nat} (w : World) (hE : CutsE s dg ex) (hC : CutsP dg ah be) (hN : NoSign be) (hP : ParsesI (ah ++ be) x S) {ev : Value} (E : Errs w 2 ev) (hX : ∀ w, Errs w 2 ev → Calls Tryz.prog 60 #[.string ex] w fun e w' => e = .returned (.tuple #[.int .i64 0, ev]) ∧ Below w.heap.size w w') (hah : ah.size ≤ 2000000) (hb9 : be.size ≤ 2000000) :
    Calls Tryz.prog 30 #[.string s] w fun e w' => e = .returned (.tuple #[.agg #[.bool false, .slice none 0 0, .slice none 0 0], ev]) ∧ Below w.heap.size w w' := by
  have R0 := var3_new w (.bool false) (.slice none 0 0) (.slice none 0 0) 41
  have hb0 := bel_d0 w (.cells #[.bool false, .slice none 0 0, .slice none 0 0] 41)
  have hsz : w.heap.size + 1 ≤ (w.alloc (.cells #[.bool false, .slice none 0 0, .slice none 0 0] 41)).heap.size := by simp
  replace E := E.below hb0
  go_enter Tryz.func30, Tryz.ntmps30
  go_wp2_with fail
  generalize w.alloc (.cells #[.bool false, .slice none 0 0, .slice none 0 0] 41) = W0 at *
  refine (hE _).mono ?_
  rintro e w1 ⟨rfl, hx⟩
  replace E := E.below hx
  replace R0 := R0.below hx
  replace hb0 := bel_tr hb0 hx
  replace hsz := Nat.le_trans hsz (Below.size hx)
  clear hx hE
  go_wp2_with fail
  refine (hC _).mono ?_
  rintro e w2 ⟨b, rfl, hx⟩
  replace E := E.below hx
  replace R0 := R0.below hx
  replace hb0 := bel_tr hb0 hx
  replace hsz := Nat.le_trans hsz (Below.size hx)
  clear hx hC
  go_wp2_with fail
  refine (hN _).mono ?_
  rintro e w3 ⟨rfl, hx⟩
  replace E := E.below hx
  replace R0 := R0.below hx
  replace hb0 := bel_tr hb0 hx
  replace hsz := Nat.le_trans hsz (Below.size hx)
  clear hx hN
  go_wp2_with fail
  refine (hP _).mono ?_
  rintro e w4 ⟨v4, rfl, K0, hx⟩
  obtain ⟨f1, c1, n1, k1, rfl⟩ := K0.form
  replace K0 := K0.mono (B' := w.heap.size + 1) hsz
  replace E := E.below hx
  replace R0 := R0.below hx
  replace hb0 := bel_tr hb0 hx
  replace hsz := Nat.le_trans hsz (Below.size hx)
  clear hx hP
  have hszN := hsz
  have hx := bel_d0 w4 (.cells #[.bool f1, .slice c1 n1 k1] 39)
  replace E := E.below hx
  replace K0 := K0.below hx
  replace R0 := R0.below hx
  replace hb0 := bel_tr hb0 hx
  replace hsz := Nat.le_trans hsz (Below.size hx)
  have Vn := var2_new w4 (.bool f1) (.slice c1 n1 k1) 39
  clear hx
  go_wp2_with fail
  generalize w4.alloc (.cells #[.bool f1, .slice c1 n1 k1] 39) = w5 at *
  refine (hX _ E).mono ?_
  rintro e w6 ⟨rfl, hx⟩
  replace E := E.below hx
  replace R0 := R0.below hx
  replace hb0 := bel_tr hb0 hx
  replace hsz := Nat.le_trans hsz (Below.size hx)
  clear hx hX K0 Vn
  obtain ⟨r0c0, r0c1, r0c2, r0c3, r0c4, r0c5⟩ := id R0
  obtain ⟨V, O⟩ := R0.set (.bool false) (.slice none 0 0) (.slice none 0 0)
  have hw := hb0.trans (O.below (B := w.heap.size) (by omega))
  obtain ⟨p, rfl⟩ := E.2
  clear R0 O hb0 E
  go_wp2
  refine bodyPost_ret (v := .tuple #[.agg #[.bool false, .slice none 0 0, .slice none 0 0], _]) (by simp [results, Tryz.results30, go_sem, V.c0, V.c1, V.c2]) rfl ⟨rfl, hw⟩
set_option maxHeartbeats 4000000 in
theorem parseDE {s : ByteArray} (w : World) (hno : (47 : UInt8) ∉ s.data.toList) {ev : Value} (E : Errs w 2 ev) (hD : ∀ w, Errs w 2 ev → Calls Tryz.prog 30 #[.string s] w fun e w' => e = .returned (.tuple #[.agg #[.bool false, .slice none 0 0, .slice none 0 0], ev]) ∧ Below w.heap.size w w') :
    Calls Tryz.prog 12 #[.string s] w fun e w' => e = .returned (.tuple #[.agg #[.bool false, .slice none 0 0, .slice none 0 0], ev]) ∧ Below w.heap.size w w' := by
  have R0 := var3_new w (.bool false) (.slice none 0 0) (.slice none 0 0) 41
  have hb0 := bel_d0 w (.cells #[.bool false, .slice none 0 0, .slice none 0 0] 41)
  have hsz : w.heap.size + 1 ≤ (w.alloc (.cells #[.bool false, .slice none 0 0, .slice none 0 0] 41)).heap.size := by simp
  replace E := E.below hb0
  go_enter Tryz.func12, Tryz.ntmps12
  go_wp2_with fail
  generalize w.alloc (.cells #[.bool false, .slice none 0 0, .slice none 0 0] 41) = W0 at *
  refine (cutN47 _ _ hno).mono ?_
  rintro e w1 ⟨rfl, hx⟩
  replace E := E.below hx
  replace R0 := R0.below hx
  replace hb0 := bel_tr hb0 hx
  replace hsz := Nat.le_trans hsz (Below.size hx)
  clear hx
  clear hno
  go_wp2_with fail
  refine (hD _ E).mono ?_
  rintro e w2 ⟨rfl, hx⟩
  replace E := E.below hx
  replace R0 := R0.below hx
  replace hb0 := bel_tr hb0 hx
  replace hsz := Nat.le_trans hsz (Below.size hx)
  clear hx hD
  obtain ⟨r0c0, r0c1, r0c2, r0c3, r0c4, r0c5⟩ := id R0
  obtain ⟨V, O⟩ := R0.set (.bool false) (.slice none 0 0) (.slice none 0 0)
  have hw := hb0.trans (O.below (B := w.heap.size) (by omega))
  obtain ⟨p, rfl⟩ := E.2
  clear R0 O hb0 E
  go_wp2
  refine bodyPost_ret (v := .tuple #[.agg #[.bool false, .slice none 0 0, .slice none 0 0], _]) (by simp [results, Tryz.results12, go_sem, V.c0, V.c1, V.c2]) rfl ⟨rfl, hw⟩
/-- rat.Parse of a literal whose exponent is too great -/
theorem litE {s dg ex ah be : ByteArray} {x : Int} {S : Nat} (w : World) {ev : Value} (E : Errs w 2 ev) (hno : (47 : UInt8) ∉ s.data.toList) (hE : CutsE s dg ex) (hC : CutsP dg ah be) (hN : NoSign be) (hP : ParsesI (ah ++ be) x S) (hX : ∀ w, Errs w 2 ev → Calls Tryz.prog 60 #[.string ex] w fun e w' => e = .returned (.tuple #[.int .i64 0, ev]) ∧ Below w.heap.size w w') (hah : ah.size ≤ 1100000) (hb9 : be.size ≤ 1100000) :
    Calls Tryz.prog 12 #[.string s] w fun e w' => e = .returned (.tuple #[.agg #[.bool false, .slice none 0 0, .slice none 0 0], ev]) ∧ Below w.heap.size w w' :=
  parseDE w hno E fun w E => decXE w hE hC hN hP E hX (by omega) (by omega)
end Go.Proofs.YtjlmboakeigmpaaGreatDoor

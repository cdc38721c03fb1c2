import Derived.Test.YtdfoiklcekhmpaaGreatDoorR3Z
namespace Go.Proofs.YtdfoiklcekhmpaaGreatDoor
open Go.RowKit Go.Shelf

/-- A one and so many noughts. -/
def tenS (n : Nat) : ByteArray := ⟨(49 :: List.replicate n (48 : UInt8)).toArray⟩
theorem repeatL_one (n : Nat) : Lib.repeatL [(48 : UInt8)] n = List.replicate n 48 := by
  induction n with
  | zero => rfl
  | succ n ih => show [48] ++ Lib.repeatL [48] n = _; rw [ih]; rfl
theorem tenS_eq (n : Nat) : (⟨#[49]⟩ : ByteArray) ++ ⟨(Lib.repeatL (⟨#[48]⟩ : ByteArray).data.toList n).toArray⟩ = tenS n := by
  apply ByteArray.ext
  rw [ByteArray.data_append]
  show #[49] ++ (Lib.repeatL [(48 : UInt8)] n).toArray = _
  rw [repeatL_one]
  simp [tenS]
theorem size_tenS (n : Nat) : (tenS n).size = n + 1 := by show (49 :: List.replicate n (48 : UInt8)).length = n + 1; simp
theorem byt_tenS (n i : Nat) (hi : i < n) : byt (tenS n) (i + 1) = 48 := by
  unfold byt
  show ((List.getD (49 :: List.replicate n (48 : UInt8)) (i + 1) 0).toNat : Int) = 48
  simp [List.getD, hi]
theorem byt_tenS0 (n : Nat) : byt (tenS n) 0 = 49 := rfl
theorem digs_tenS (n : Nat) : Digs (tenS n) (tenS n).size := by
  rw [size_tenS]
  intro i hi
  cases i with
  | zero => rw [byt_tenS0]; omega
  | succ i => rw [byt_tenS n i (by omega)]; omega
theorem rdF_tenS (n k : Nat) (hk : k ≤ n) : rdF (tenS n) 0 (k + 1) = p10 k := by
  induction k with
  | zero => show 0 * 10 + (byt (tenS n) (0 + 0) - 48) = 1; rw [Nat.zero_add, byt_tenS0]; rfl
  | succ k ih =>
    show rdF (tenS n) 0 (k + 1) * 10 + (byt (tenS n) (0 + (k + 1)) - 48) = p10 k * 10
    rw [ih (by omega), Nat.zero_add, byt_tenS n k (by omega)]; omega
theorem tenS_rd (n : Nat) : rdF (tenS n) 0 (tenS n).size = p10 n := by rw [size_tenS]; exact rdF_tenS n n (Nat.le_refl _)
set_option maxRecDepth 100000 in
set_option maxHeartbeats 4000000 in
theorem repeat1 (s : ByteArray) (w : World) : Calls Tryz.prog 84 #[.string s, .int .i64 1] w fun e w' => e = .returned (.string s) ∧ Below w.heap.size w w' := by
  go_enter Tryz.func84, Tryz.ntmps84
  go_wp2
  go_ret
  exact ⟨rfl, Below.refl _ _⟩
/-- strings.Repeat of a nought. -/
theorem repeatZ (n : Nat) (w : World) (hn : n ≤ 100000000) : Calls Tryz.prog 84 #[.string ⟨#[48]⟩, .int .i64 n] w fun e w' => e = .returned (.string ⟨(Lib.repeatL (⟨#[48]⟩ : ByteArray).data.toList n).toArray⟩) ∧ Below w.heap.size w w' := by
  rcases (by omega : n = 0 ∨ n = 1 ∨ 2 ≤ n) with rfl | rfl | h
  · exact repeat0 _ w
  · exact repeat1 _ w
  · exact repeatS ⟨#[48]⟩ n w h (by omega) (by show 1 * n ≤ _; omega) (by decide)
set_option maxHeartbeats 4000000 in
theorem powT (n : Nat) (w : World) (hn : n ≤ 50000000) : Calls Tryz.prog 54 #[.int .i64 n] w fun e w' => ∃ f c m d, e = .returned (.agg #[.bool f, .slice c m d]) ∧ GI w' w.heap.size (.agg #[.bool f, .slice c m d]) (p10 n) (n + 1) ∧ Below w.heap.size w w' := by
  obtain ⟨R0, hb0, hsz⟩ := box1 w (.bool false) (.slice none 0 0) 26
  go_enter Tryz.func54, Tryz.ntmps54
  go_wp2_with fail
  generalize w.alloc (.cells #[.bool false, .slice none 0 0] 26) = W0 at *
  replace hsz := Nat.le_of_eq hsz.symm
  refine (repeatZ n _ (by omega)).mono ?_
  have hzs : (⟨(Lib.repeatL (⟨#[48]⟩ : ByteArray).data.toList n).toArray⟩ : ByteArray).size ≤ 50000000 := by
    show (Lib.repeatL [(48 : UInt8)] n).length ≤ _
    rw [repeatL_one, List.length_replicate]; omega
  have hze := tenS_eq n
  generalize (⟨(Lib.repeatL (⟨#[48]⟩ : ByteArray).data.toList n).toArray⟩ : ByteArray) = z at *
  have HZE : Hid (⟨#[49]⟩ ++ z = tenS n) := hze
  clear hze
  rintro e w1 ⟨rfl, hx⟩
  replace R0 := R0.below hx
  replace hb0 := bel_tr hb0 hx
  replace hsz := Nat.le_trans hsz (Below.size hx)
  clear hx
  go_wp2_with fail
  rw [HZE.out]
  refine (parse_yes (tenS n) _ (by rw [size_tenS]; omega) (digs_tenS n) (by rw [size_tenS]; omega)).mono ?_
  rintro e w2 ⟨c, m, k, rfl, G, hx⟩
  rw [tenS_rd, size_tenS] at G
  replace G := G.mono (B' := w.heap.size + 1) hsz
  replace R0 := R0.below hx
  replace hb0 := bel_tr hb0 hx
  replace hsz := Nat.le_trans hsz (Below.size hx)
  clear hx
  obtain ⟨r0, r1, r2, r3⟩ := id R0
  obtain ⟨V, O⟩ := R0.set (.bool false) (.slice c m k)
  have GF := (G.gi0).off O (by omega)
  have hw := hb0.trans (O.below (Nat.le_refl _))
  clear R0 O hb0 G
  go_wp2
  refine bodyPost_ret (v := .agg #[.bool false, .slice c m k]) (by simp [results, Tryz.results54, go_sem, V.c0, V.c1]) rfl ⟨_, _, _, _, rfl, GF.mono (by omega), hw⟩
theorem powZ {z : Int} (n : Nat) (hz : z = n) (w : World) (hn : n ≤ 50000000) : Calls Tryz.prog 54 #[.int .i64 z] w fun e w' => ∃ f c m d, e = .returned (.agg #[.bool f, .slice c m d]) ∧ GI w' w.heap.size (.agg #[.bool f, .slice c m d]) (p10 n) (n + 1) ∧ Below w.heap.size w w' := by
  subst hz; exact powT n w hn
/-- rat.parseExponent of a whole number's text -/
theorem parseX (ex : ByteArray) (v : Int) (S : Nat) (w : World) (hP : ∀ w, Calls Tryz.prog 49 #[.string ex] w fun e w' => ∃ v', e = .returned (.tuple #[v', .nilIface]) ∧ GI w' w.heap.size v' v S ∧ Below w.heap.size w w') (hS : S ≤ 100000000) (h0 : -9999 ≤ v) (h1 : v ≤ 9999) :
    Calls Tryz.prog 53 #[.string ex] w fun e w' => e = .returned (.tuple #[.int .i64 v, .nilIface]) ∧ Below w.heap.size w w' := by
  go_enter Tryz.func53, Tryz.ntmps53
  go_wp2_with fail
  refine (hP _).mono ?_
  rintro e w1 ⟨v', rfl, G, hx⟩
  obtain ⟨f, c, n, k, rfl⟩ := G.form
  obtain ⟨e1, K⟩ := G.parts
  have e2 : ws f (v.natAbs : Int) = v := by
    rw [e1]; unfold ws; split <;> rename_i h <;> simp at h <;> omega
  clear e1 G
  obtain ⟨V, hv, hsv⟩ := box1 w1 (.bool f) (.slice c n k) 26
  replace K := K.below hv
  replace hx := bel_tr hx hv
  clear hv hsv hP
  obtain ⟨v0, v1, v2, v3⟩ := id V
  go_wp2_with fail
  generalize w1.alloc (.cells #[.bool f, .slice c n k] 26) = w2 at *
  refine (int64I f _ K.num (by omega)).mono ?_
  rw [e2, show wordI v = v from if_pos (by omega), show fitI v = true from decide_eq_true (by omega)]
  rintro e w3 ⟨rfl, h3⟩
  have hw := bel_tr hx h3
  clear V v0 v1 v2 v3 K h3 hx e2
  go_wp2
  go_ret2
  exact ⟨rfl, hw⟩
theorem parseXE (ex : ByteArray) (v : Int) (S : Nat) (w : World) {ev : Value} (E : Errs w 0 ev) (hP : ∀ w, Calls Tryz.prog 49 #[.string ex] w fun e w' => ∃ v', e = .returned (.tuple #[v', .nilIface]) ∧ GI w' w.heap.size v' v S ∧ Below w.heap.size w w') (hS : S ≤ 100000000) (h1 : 9999 < v) :
    Calls Tryz.prog 53 #[.string ex] w fun e w' => e = .returned (.tuple #[.int .i64 0, ev]) ∧ Below w.heap.size w w' := by
  go_enter Tryz.func53, Tryz.ntmps53
  go_wp2_with fail
  refine (hP _).mono ?_
  rintro e w1 ⟨v', rfl, G, hx⟩
  obtain ⟨f, c, n, k, rfl⟩ := G.form
  obtain ⟨e1, K⟩ := G.parts
  have e2 : ws f (v.natAbs : Int) = v := by
    rw [e1]; unfold ws; split <;> rename_i h <;> simp at h <;> omega
  clear e1 G
  obtain ⟨V, hv, hsv⟩ := box1 w1 (.bool f) (.slice c n k) 26
  replace K := K.below hv
  replace hx := bel_tr hx hv
  clear hv hsv hP
  obtain ⟨v0, v1, v2, v3⟩ := id V
  go_wp2_with fail
  generalize w1.alloc (.cells #[.bool f, .slice c n k] 26) = w2 at *
  refine (int64I f _ K.num (by omega)).mono ?_
  rw [e2]
  rintro e w3 ⟨rfl, h3⟩
  have hw := bel_tr hx h3
  replace E := E.below hw
  obtain ⟨E1, p, rfl⟩ := id E
  clear V v0 v1 v2 v3 K h3 hx e2
  by_cases hf : v < 9223372036854775808
  · rw [show wordI v = v from if_pos (by omega), show fitI v = true from decide_eq_true (by omega)]
    have hnf : ¬ v ≤ 9999 := by omega
    go_wp2
    go_quiet (fail)
    go_wp2
    go_ret2
    exact ⟨rfl, belN hw nq⟩
  · rw [show wordI v = 0 from if_neg (by omega), show fitI v = false from decide_eq_false (by omega)]
    go_wp2
    go_quiet (fail)
    go_wp2
    go_ret2
    exact ⟨rfl, belN hw nq⟩
end Go.Proofs.YtdfoiklcekhmpaaGreatDoor

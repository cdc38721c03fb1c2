import Derived.Test.YtdfoiklcekhmpaaGreatDoorR5B
import Derived.Test.YtdfoiklcekhmpaaGreatDoorR4X
namespace Go.Proofs.YtdfoiklcekhmpaaGreatDoor
open Go.RowKit Go.Shelf

set_option maxHeartbeats 4000000 in
theorem canyB (s cs : ByteArray) (w : World) (h2 : cs.size = 2) (hs : s.size < 4294967281) (hc : ∀ (i : Nat) (h : i < cs.size), (cs[i]'h).toNat < 128) :
    Calls Tryz.prog 52 #[.string s, .string cs] w fun e w' => e = .returned (.bool (decide (0 ≤ Lib.indexAny s.data.toList cs.data.toList))) ∧ Below w.heap.size w w' := by
  go_enter Tryz.func52, Tryz.ntmps52
  go_wp2_with fail
  refine (ianyB s cs _ h2 hs hc).mono ?_
  rintro e w1 ⟨rfl, hx⟩
  go_wp2
  go_ret
  exact ⟨rfl, hx⟩
theorem ascE : ∀ (i : Nat) (h : i < (⟨#[101, 69]⟩ : ByteArray).size), ((⟨#[101, 69]⟩ : ByteArray)[i]'h).toNat < 128 := fun i h => by
  have h' : i < 2 := h
  rcases (by omega : i = 0 ∨ i = 1) with rfl | rfl
  · show (101 : UInt8).toNat < 128; decide
  · show (69 : UInt8).toNat < 128; decide
theorem ascS : ∀ (i : Nat) (h : i < (⟨#[43, 45]⟩ : ByteArray).size), ((⟨#[43, 45]⟩ : ByteArray)[i]'h).toNat < 128 := fun i h => by
  have h' : i < 2 := h
  rcases (by omega : i = 0 ∨ i = 1) with rfl | rfl
  · show (43 : UInt8).toNat < 128; decide
  · show (45 : UInt8).toNat < 128; decide
set_option maxHeartbeats 4000000 in
theorem cutE_none (s : ByteArray) (hs : s.size ≤ 100000000) (hn : Lib.indexAny s.data.toList [101, 69] = -1) (w : World) :
    Calls Tryz.prog 51 #[.string s] w fun e w' => e = .returned (.tuple #[.string s, .string ⟨#[48]⟩]) ∧ Below w.heap.size w w' := by
  have HN : Hid (Lib.indexAny s.data.toList (⟨#[101, 69]⟩ : ByteArray).data.toList = -1) := hn
  clear hn
  go_enter Tryz.func51, Tryz.ntmps51
  go_wp2_with fail
  refine (ianyB _ _ _ rfl (by omega) ascE).mono ?_
  rw [HN.out]
  rintro e w1 ⟨rfl, hx⟩
  go_wp2
  go_ret2
  exact ⟨rfl, hx⟩
set_option maxHeartbeats 4000000 in
theorem cutE_at (s : ByteArray) (k : Nat) (hks : k < s.size) (hs : s.size ≤ 100000000) (hn : Lib.indexAny s.data.toList [101, 69] = (k : Int)) (w : World) :
    Calls Tryz.prog 51 #[.string s] w fun e w' => e = .returned (.tuple #[.string (s.extract 0 k), .string (s.extract (k + 1) s.size)]) ∧ Below w.heap.size w w' := by
  have HN : Hid (Lib.indexAny s.data.toList (⟨#[101, 69]⟩ : ByteArray).data.toList = (k : Int)) := hn
  clear hn
  have hk1 : (0 : Int) ≤ (k : Int) := by omega
  have hk0 : ¬ (k : Int) < 0 := by omega
  have hk2 : (k : Int) ≤ (s.size : Int) := by omega
  have hk3 : (k : Int) + 1 ≤ (s.size : Int) := by omega
  have hw1 : IntKind.i64.wrap ((k : Int) + 1) = (k : Int) + 1 := by rw [IntKind.wrap_i64]; omega
  go_enter Tryz.func51, Tryz.ntmps51
  go_wp2_with fail
  refine (ianyB _ _ _ rfl (by omega) ascE).mono ?_
  rw [HN.out]
  rintro e w1 ⟨rfl, hx⟩
  go_wp2
  go_region
  go_wp2
  go_ret2
  exact ⟨by simp, hx.drew⟩
set_option maxRecDepth 100000 in
theorem idxO47 (w : World) : Calls Tryz.prog 77 #[.string ⟨#[47]⟩, .string ⟨#[47]⟩] w fun e w' => e = .returned (.int .i64 0) ∧ w' = w := by
  go_enter Tryz.func77, Tryz.ntmps77
  go_wp2
  go_ret
  exact ⟨rfl, rfl⟩
theorem idxA47 (s : ByteArray) (t : Int) (w : World) (ht : Lib.indexByte s.data.toList 47 = t) : Calls Tryz.prog 77 #[.string s, .string ⟨#[47]⟩] w fun e w' => e = .returned (.int .i64 t) ∧ w' = w := by
  cases hne : ([47] == s.toList)
  · exact idx47 s t w hne ht
  · have e : s = ⟨#[47]⟩ := by
      have := eq_of_beq hne
      rw [ByteArray.toList_eq] at this
      apply ByteArray.ext
      rw [← Array.toList_inj]
      exact this.symm
    subst e
    obtain rfl : 0 = t := ht
    exact idxO47 w
set_option maxHeartbeats 4000000 in
theorem cutA47 (s : ByteArray) (k : Nat) (w : World) (hk : Lib.indexByte s.data.toList 47 = (k : Int)) (hs : s.size ≤ 100000000) (hks : k < s.size) : Calls Tryz.prog 20 #[.string s, .string ⟨#[47]⟩] w fun e w' => e = .returned (.tuple #[.string (s.extract 0 k), .string (s.extract (k + 1) s.size), .bool true]) ∧ Below w.heap.size w w' := by
  have kk : Calls Tryz.prog 48 #[.string s, .string ⟨#[47]⟩] w fun e w' => e = .returned (.tuple #[.string (s.extract 0 k), .string (s.extract (k + 1) s.size), .bool true]) ∧ Below w.heap.size w w' := by
    have hk1 : (0 : Int) ≤ (k : Int) := by omega
    have hk2 : (k : Int) ≤ (s.size : Int) := by omega
    have hk3 : (k : Int) + 1 ≤ (s.size : Int) := by omega
    have hw1 : IntKind.i64.wrap ((k : Int) + 1) = (k : Int) + 1 := by rw [IntKind.wrap_i64]; omega
    go_enter Tryz.func48, Tryz.ntmps48
    go_wp2_with fail
    refine (idxA47 s k _ hk).mono ?_
    rintro e w' ⟨rfl, rfl⟩
    clear hk
    go_wp2
    go_region
    go_wp2
    go_ret3
    exact ⟨by simp, (Below.refl _ _).drew⟩
  go_enter Tryz.func20, Tryz.ntmps20
  go_wp2_with fail
  refine kk.mono ?_
  rintro e w' ⟨rfl, hx⟩
  go_wp2
  go_ret3
  exact ⟨rfl, hx⟩
set_option maxRecDepth 100000 in
theorem idxO46 (w : World) : Calls Tryz.prog 77 #[.string ⟨#[46]⟩, .string ⟨#[46]⟩] w fun e w' => e = .returned (.int .i64 0) ∧ w' = w := by
  go_enter Tryz.func77, Tryz.ntmps77
  go_wp2
  go_ret
  exact ⟨rfl, rfl⟩
theorem idxA46 (s : ByteArray) (t : Int) (w : World) (ht : Lib.indexByte s.data.toList 46 = t) : Calls Tryz.prog 77 #[.string s, .string ⟨#[46]⟩] w fun e w' => e = .returned (.int .i64 t) ∧ w' = w := by
  cases hne : ([46] == s.toList)
  · exact idx46 s t w hne ht
  · have e : s = ⟨#[46]⟩ := by
      have := eq_of_beq hne
      rw [ByteArray.toList_eq] at this
      apply ByteArray.ext
      rw [← Array.toList_inj]
      exact this.symm
    subst e
    obtain rfl : 0 = t := ht
    exact idxO46 w
set_option maxHeartbeats 4000000 in
theorem cutA46 (s : ByteArray) (k : Nat) (w : World) (hk : Lib.indexByte s.data.toList 46 = (k : Int)) (hs : s.size ≤ 100000000) (hks : k < s.size) : Calls Tryz.prog 20 #[.string s, .string ⟨#[46]⟩] w fun e w' => e = .returned (.tuple #[.string (s.extract 0 k), .string (s.extract (k + 1) s.size), .bool true]) ∧ Below w.heap.size w w' := by
  have kk : Calls Tryz.prog 48 #[.string s, .string ⟨#[46]⟩] w fun e w' => e = .returned (.tuple #[.string (s.extract 0 k), .string (s.extract (k + 1) s.size), .bool true]) ∧ Below w.heap.size w w' := by
    have hk1 : (0 : Int) ≤ (k : Int) := by omega
    have hk2 : (k : Int) ≤ (s.size : Int) := by omega
    have hk3 : (k : Int) + 1 ≤ (s.size : Int) := by omega
    have hw1 : IntKind.i64.wrap ((k : Int) + 1) = (k : Int) + 1 := by rw [IntKind.wrap_i64]; omega
    go_enter Tryz.func48, Tryz.ntmps48
    go_wp2_with fail
    refine (idxA46 s k _ hk).mono ?_
    rintro e w' ⟨rfl, rfl⟩
    clear hk
    go_wp2
    go_region
    go_wp2
    go_ret3
    exact ⟨by simp, (Below.refl _ _).drew⟩
  go_enter Tryz.func20, Tryz.ntmps20
  go_wp2_with fail
  refine kk.mono ?_
  rintro e w' ⟨rfl, hx⟩
  go_wp2
  go_ret3
  exact ⟨rfl, hx⟩
theorem parseXM (ex : ByteArray) (v : Int) (S : Nat) (w : World) {ev : Value} (E : Errs w 0 ev) (hP : ∀ w, Calls Tryz.prog 49 #[.string ex] w fun e w' => ∃ v', e = .returned (.tuple #[v', .nilIface]) ∧ GI w' w.heap.size v' v S ∧ Below w.heap.size w w') (hS : S ≤ 100000000) (h1 : v < -9999) :
    Calls Tryz.prog 53 #[.string ex] w fun e w' => e = .returned (.tuple #[.int .i64 0, ev]) ∧ Below w.heap.size w w' := by
  go_enter Tryz.func53, Tryz.ntmps53
  go_wp2_with fail
  refine (hP _).mono ?_
  rintro e w1 ⟨v', rfl, G, hx⟩
  obtain ⟨f, c, n, k, rfl⟩ := G.form
  obtain ⟨e1, K⟩ := G.parts
  have e2 : ws f (v.natAbs : Int) = v := by
    rw [e1]; unfold ws; split <;> rename_i h <;> simp at h <;> omega
  clear e1 G
  obtain ⟨V, hv, hsv⟩ := box1 w1 (.bool f) (.slice c n k) 26
  replace K := K.below hv
  replace hx := bel_tr hx hv
  clear hv hsv hP
  obtain ⟨v0, v1, v2, v3⟩ := id V
  go_wp2_with fail
  generalize w1.alloc (.cells #[.bool f, .slice c n k] 26) = w2 at *
  refine (int64I f _ K.num (by omega)).mono ?_
  rw [e2]
  rintro e w3 ⟨rfl, h3⟩
  have hw := bel_tr hx h3
  replace E := E.below hw
  obtain ⟨E1, p, rfl⟩ := id E
  clear V v0 v1 v2 v3 K h3 hx e2
  by_cases hf : -9223372036854775808 ≤ v
  · rw [show wordI v = v from if_pos (by omega), show fitI v = true from decide_eq_true (by omega)]
    have hnf : v < -9999 := h1
    go_wp2
    go_quiet (fail)
    go_wp2
    go_ret2
    exact ⟨rfl, belN hw nq⟩
  · rw [show wordI v = 0 from if_neg (by omega), show fitI v = false from decide_eq_false (by omega)]
    go_wp2
    go_quiet (fail)
    go_wp2
    go_ret2
    exact ⟨rfl, belN hw nq⟩
/-- rat.parseExponent of what is no whole number's text -/
theorem parseXN (ex : ByteArray) (w : World) {ev : Value} (E : Errs w 2 ev) (hs : ex.size ≤ 100000000) (hd : ¬ (Digs (cutS ex).2 (cutS ex).2.size ∧ 0 < (cutS ex).2.size)) :
    Calls Tryz.prog 53 #[.string ex] w fun e w' => e = .returned (.tuple #[.int .i64 0, ev]) ∧ Below w.heap.size w w' := by
  go_enter Tryz.func53, Tryz.ntmps53
  go_wp2_with fail
  refine (parseN ex _ ev hs hd E).mono ?_
  rintro e w1 ⟨rfl, hx⟩
  obtain ⟨V, hv, hsv⟩ := box1 w1 (.bool false) (.slice none 0 0) 26
  replace hx := bel_tr hx hv
  obtain ⟨p, rfl⟩ := E.2
  clear hv hsv E
  go_wp2
  go_ret2
  exact ⟨rfl, hx⟩
end Go.Proofs.YtdfoiklcekhmpaaGreatDoor

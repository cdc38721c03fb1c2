import Derived.Test.YtcpglhcdllegnabGreatDoorLyNAll
import Derived.Test.YtcpglhcdllegnabGreatDoorLyW
namespace Go.Proofs.YtcpglhcdllegnabGreatDoor
open Go.RowKit Go.Shelf

-- literals of digits
theorem dg_is (c : UInt8) (h : 48 ≤ c.toNat ∧ c.toNat ≤ 57) : dgB.contains c = true := by
  revert h
  exact byte_all (p := fun c => 48 ≤ c.toNat ∧ c.toNat ≤ 57 → dgB.contains c = true) (by decide +kernel) c
theorem dg_all {s : ByteArray} (h : AllD s) : s.data.toList.all (dgB.contains ·) = true := List.all_eq_true.2 fun b hb => dg_is b (h b hb)
theorem lit_digs {A : List UInt8} (ha : A.all (dgB.contains ·) = true) : litN (A ++ [120, 49]) = A.length := by
  unfold litN
  rw [ld_app ha (fun b r e => by cases e; decide), List.drop_left, if_neg (by decide), if_neg (by decide)]
  rw [show exN [120, 49] = 0 by decide +kernel]; rfl
theorem lit_quot {A B : List UInt8} (ha : A.all (dgB.contains ·) = true) (hb : B.all (dgB.contains ·) = true) (hB : B ≠ []) : litN (A ++ 47 :: (B ++ [120, 49])) = A.length + 1 + B.length := by
  have h0 := List.length_pos_iff.2 hB
  unfold litN
  rw [ld_app ha (fun b r e => by cases e; decide), List.drop_left, lb1, if_pos rfl, ld_app hb (fun b r e => by cases e; decide), if_pos h0]
theorem lit_full {A N : List UInt8} (ha : A.all (dgB.contains ·) = true) (hA : A ≠ []) (hn : N.all (dgB.contains ·) = true) (hN : N ≠ []) : litN (A ++ 46 :: (A ++ 69 :: 43 :: N)) = (A ++ 46 :: (A ++ 69 :: 43 :: N)).length := by
  have h0 := List.length_pos_iff.2 hA
  have h1 := List.length_pos_iff.2 hN
  have hd : (A ++ 46 :: (A ++ 69 :: 43 :: N)).drop (A.length + (1 + A.length)) = 69 :: 43 :: N := by
    rw [← List.drop_drop, List.drop_left, Nat.add_comm 1, List.drop_succ_cons, List.drop_left]
  have hl : ldL (43 :: N) dgB = 0 := ldL_neg (by decide)
  have hN2 := ld_app (d := []) hn (fun b r e => by cases e)
  rw [List.append_nil] at hN2
  have l47 : lbN (46 :: (A ++ 69 :: 43 :: N)) [47] = 0 := by rw [lb1, if_neg (by decide)]
  have l46 : lbN (46 :: (A ++ 69 :: 43 :: N)) [46] = A.length := by rw [lb1, if_pos rfl, ld_app ha (fun b r e => by cases e; decide)]
  unfold litN
  rw [ld_app ha (fun b r e => by cases e; decide), List.drop_left, l47, if_neg (by omega), if_pos (by simp [List.isPrefixOf]), l46, if_neg (by omega), hd, exN_C]
  rw [exC, if_pos (.inr rfl), hl, if_neg (by omega), exS, hN2, if_pos ⟨.inl rfl, h1⟩]
  simp only [List.length_append, List.length_cons]
  omega
theorem beg_digs {A d : List UInt8} (ha : A.all (dgB.contains ·) = true) (hA : A ≠ []) : begL (A ++ d) = true ∧ gpN (A ++ d) = 0 := by
  cases A with
  | nil => exact absurd rfl hA
  | cons b A =>
    simp only [List.all_cons, Bool.and_eq_true] at ha
    refine ⟨?_, ?_⟩
    · unfold begL
      rw [List.cons_append, List.headD_cons, ha.1, Bool.or_true]
    · have h := byte_all (p := fun b => dgB.contains b = true → ¬ blB.contains b = true ∧ ¬ b = 92) (by decide +kernel) b ha.1
      unfold gpN
      rw [List.cons_append, gp_stay h.1 h.2, Nat.sub_self]
theorem no10_digs {A : List UInt8} (ha : ∀ b ∈ A, b = 47 ∨ dgB.contains b = true) : A.count 10 = 0 := List.count_eq_zero.2 fun h => by
  rcases ha 10 h with e | e
  · cases e
  · exact absurd e (by decide)
/-- A number and the name x1. -/
theorem chn_num {t T : ByteArray} {q : Rat} {S : Nat} (hs : t.size ≤ 90000000) (h0 : 0 < t.size) (hB : begL T.data.toList = true) (hlit : litN T.data.toList = t.size) (hnl : t.data.toList.count 10 = 0) (hP : ∀ u, TB u → Parses t q S u) (hS : S ≤ 3000000) (hT : T.data.toList = t.data.toList ++ [120, 49]) :
    Chn T 1 1 [⟨2, t, 0, 1, 1, q⟩, ⟨1, ⟨#[120, 49]⟩, 0, 1, 1 + t.size, 0⟩] ⟨#[]⟩ 1 (1 + t.size + 2) := by
  have hTs : T.size = t.size + 2 := by rw [← len_list, hT, List.length_append, len_list]; rfl
  have hx : T.extract 0 t.size = t := ba_eq (by rw [ext_front, hT, ← len_list, List.take_left])
  have hr1 : T.extract t.size T.size = ⟨#[120, 49]⟩ := ba_eq (by rw [ext_back, hT, ← len_list t, List.drop_left])
  have hR : ReadOk T 2 t.size 0 q := by
    have := read_num T (r := q) (S := S) (by omega) (by omega) hB (by rw [hlit, hx]; exact hP) hS
    rwa [hlit] at this
  have hL : ovL t 1 = 1 := by unfold ovL; rw [hnl]; rfl
  have hC : ovC t 1 = 1 + t.size := by unfold ovC; rw [if_pos hnl]
  refine Chn.cons (a := t) (r1 := ⟨#[120, 49]⟩) (b := ⟨#[]⟩) (r2 := ⟨#[120, 49]⟩) (l1 := 1) (c1 := 1 + t.size) (l2 := 1) (c2 := 1 + t.size) (n := t.size) (g := 0) (by omega) (by omega) (by omega) hx hR (by decide) (by decide) (by decide) ⟨by omega, by omega⟩ hx hr1 hL hC (by decide +kernel) (by decide +kernel) (by decide +kernel) (by decide +kernel) (by unfold ovC; rw [if_pos (by decide)]; exact Int.add_zero _) (by rw [hTs]; show 2 < _; omega) ?_
  refine Chn.cons (a := ⟨#[120, 49]⟩) (r1 := ⟨#[]⟩) (b := ⟨#[]⟩) (r2 := ⟨#[]⟩) (l1 := 1) (c1 := 1 + t.size + 2) (l2 := 1) (c2 := 1 + t.size + 2) (n := 2) (g := 0) (by decide) (by decide) (by decide) (by decide +kernel) (read_name ⟨#[120, 49]⟩ (by decide) (by decide) (by decide +kernel) (by decide +kernel) (by decide +kernel) (by decide)) (by decide) ⟨by omega, by omega⟩ (by decide) ⟨by omega, by omega⟩ (by decide +kernel) (by decide +kernel) (by decide +kernel) (by unfold ovC; rw [if_pos (by decide)]; rfl) (by decide +kernel) (by decide +kernel) (by decide +kernel) (by decide +kernel) (by unfold ovC; rw [if_pos (by decide)]; exact Int.add_zero _) (by decide) ?_
  exact Chn.nil _ _ _
theorem scan_num {t T : ByteArray} {q : Rat} {S : Nat} (hs : t.size ≤ 90000000) (h0 : 0 < t.size) (hB : begL T.data.toList = true) (hg : gpN T.data.toList = 0) (hlit : litN T.data.toList = t.size) (hnl : t.data.toList.count 10 = 0) (hP : ∀ u, TB u → Parses t q S u) (hS : S ≤ 3000000) (hT : T.data.toList = t.data.toList ++ [120, 49]) :
    ScanOk T [⟨2, t, 0, 1, 1, q⟩, ⟨1, ⟨#[120, 49]⟩, 0, 1, 1 + t.size, 0⟩] := fun w hw => by
  have hTs : T.size = t.size + 2 := by rw [← len_list, hT, List.length_append, len_list]; rfl
  have hE : T.extract 0 0 = ⟨#[]⟩ := ba_eq (by rw [ext_front]; rfl)
  exact scanQ T T ⟨#[]⟩ 0 1 1 1 (1 + t.size + 2) _ w (by omega) hg (ba_eq (by rw [ext_back]; rfl)) (by rw [hE]; decide +kernel) (by rw [hE]; decide +kernel) (chn_num hs h0 hB hlit hnl hP hS hT) (by simp) rfl hw
theorem pch_num {r : ByteArray} {l c : Int} {ts : List Tok} {R' : ByteArray} {L' C' : Int} (h : Pch NumD r l c ts R' L' C') (hend : R'.size = 0 ∨ (∃ g code, Rn NumE R' g code)) (hB : begL r.data.toList = true) (hl : litN r.data.toList = r.size) (h0 : 0 < r.size) (hok : NOk r) :
    R'.size = 0 ∧ ∃ t, ts = [t] ∧ t.k = 2 ∧ t.x = r ∧ t.q = rv r := by
  have hx : r.extract 0 r.size = r := ba_eq (by rw [ext_front, ← len_list, List.take_length])
  cases ts with
  | nil =>
    obtain ⟨rfl, _⟩ := h
    rcases hend with h1 | ⟨g, code, h1⟩
    · omega
    · rcases h1 with ⟨_, _, h1, _⟩ | ⟨h1, _⟩
      · rw [hl, hx] at h1; exact absurd hok h1
      · rw [hB] at h1; cases h1
  | cons t ts =>
    obtain ⟨_, _, _, _, ⟨n, hn, hx2, hR⟩, r1, r2, e1, e2, hP⟩ := h
    rcases hR with ⟨_, k1, k2, _, _, k3⟩ | ⟨k1, _⟩ | ⟨k1, _⟩
    · rw [hl] at k2
      subst k2
      rw [hx] at hx2 k3
      have f1 : r1.size = 0 := by rw [← e1, ← hx2, size_extract _ _ _ (Nat.le_refl _)]; omega
      have f2 : r2.data.toList = [] := List.eq_nil_of_length_eq_zero (by rw [len_list, ← e2, size_extract _ _ _ (Nat.le_refl _), f1]; omega)
      obtain ⟨rfl, f3⟩ := pch_end hP f2
      exact ⟨f3, t, rfl, k1, hx2.symm, k3.2⟩
    · rw [hB] at k1; cases k1
    · rw [hB] at k1; cases k1
-- a point and an exponent
theorem rdF_cat (a b : ByteArray) : rdF (a ++ b) 0 (a ++ b).size = rdF a 0 a.size * p10 b.size + rdF b 0 b.size := by
  rw [ByteArray.size_append, rdF_add, Nat.zero_add]
  congr 1
  · congr 1
    exact rdF_congr a.size fun i hi => by rw [Nat.zero_add, byt_cat, if_pos hi]
  · exact (rdF_congr b.size fun i hi => by rw [byt_cat, if_neg (by omega), Nat.add_sub_cancel_left]).symm
def tz2 (W M : ByteArray) : ByteArray := W ++ ⟨#[46]⟩ ++ W ++ ⟨#[69, 43]⟩ ++ M
theorem tz2_size (W M : ByteArray) : (tz2 W M).size = 2 * W.size + 3 + M.size := by
  unfold tz2
  rw [ByteArray.size_append, ByteArray.size_append, ByteArray.size_append, ByteArray.size_append]
  have : (⟨#[46]⟩ : ByteArray).size = 1 := rfl
  have : (⟨#[69, 43]⟩ : ByteArray).size = 2 := rfl
  omega
theorem tz2_byt (W M : ByteArray) : (∀ i, i < W.size → byt (tz2 W M) i = byt W i) ∧ byt (tz2 W M) W.size = 46 ∧ (∀ i, i < W.size → byt (tz2 W M) (W.size + 1 + i) = byt W i) ∧ byt (tz2 W M) (2 * W.size + 1) = 69 ∧ byt (tz2 W M) (2 * W.size + 1 + 1) = 43 ∧ ∀ i, byt (tz2 W M) (2 * W.size + 1 + 1 + 1 + i) = byt M i := by
  have s1 : (⟨#[46]⟩ : ByteArray).size = 1 := rfl
  have s2 : (⟨#[69, 43]⟩ : ByteArray).size = 2 := rfl
  have z1 : (W ++ (⟨#[46]⟩ : ByteArray)).size = W.size + 1 := by rw [ByteArray.size_append, s1]
  have z2 : (W ++ (⟨#[46]⟩ : ByteArray) ++ W).size = 2 * W.size + 1 := by rw [ByteArray.size_append, z1]; omega
  have z3 : (W ++ (⟨#[46]⟩ : ByteArray) ++ W ++ (⟨#[69, 43]⟩ : ByteArray)).size = 2 * W.size + 1 + 1 + 1 := by rw [ByteArray.size_append, z2, s2]
  have c1 : byt ⟨#[46]⟩ 0 = 46 := by decide +kernel
  have c2 : byt ⟨#[69, 43]⟩ 0 = 69 := by decide +kernel
  have c3 : byt ⟨#[69, 43]⟩ 1 = 43 := by decide +kernel
  unfold tz2
  refine ⟨fun i hi => ?_, ?_, fun i hi => ?_, ?_, ?_, fun i => ?_⟩
  · rw [byt_cat, if_pos (by omega), byt_cat, if_pos (by omega), byt_cat, if_pos (by omega), byt_cat, if_pos hi]
  · rw [byt_cat, if_pos (by omega), byt_cat, if_pos (by omega), byt_cat, if_pos (by omega), byt_cat, if_neg (by omega), Nat.sub_self, c1]
  · rw [byt_cat, if_pos (by omega), byt_cat, if_pos (by omega), byt_cat, if_neg (by omega), z1, Nat.add_sub_cancel_left]
  · rw [byt_cat, if_pos (by omega), byt_cat, if_neg (by omega), z2, Nat.sub_self, c2]
  · rw [byt_cat, if_pos (by omega), byt_cat, if_neg (by omega), z2, Nat.add_sub_cancel_left, c3]
  · rw [byt_cat, if_neg (by omega), z3, Nat.add_sub_cancel_left]
theorem AllD.at {s : ByteArray} (h : AllD s) {i : Nat} (hi : i < s.size) : 48 ≤ byt s i ∧ byt s i ≤ 57 := h.digs i hi
theorem tz2_shp {W M : ByteArray} (hW : AllD W) (hM : AllD M) (h0 : 0 < W.size) (hm : 0 < M.size) : Shp (tz2 W M) 0 W.size (2 * W.size + 1) := by
  obtain ⟨b1, b2, b3, b4, b5, b6⟩ := tz2_byt W M
  have hz := tz2_size W M
  have hg : sgJ (tz2 W M) (2 * W.size + 1 + 1) = 2 * W.size + 1 + 1 + 1 := by unfold sgJ; rw [if_pos ⟨by omega, .inl b5⟩]
  refine ⟨?_, ⟨by omega, by omega, fun k _ hk => ?_, fun _ h => ?_⟩, .inr ⟨by omega, b2, ⟨by omega, by omega, fun k k1 k2 => ?_, fun _ h => ?_⟩⟩, .inr ⟨by omega, .inr b4, by rw [hg]; omega, fun t t1 t2 => ?_⟩, by omega⟩
  · unfold sgJ
    rw [if_neg]
    rintro ⟨_, h⟩
    rw [b1 0 h0] at h
    have := hW.at h0
    omega
  · unfold isDg; rw [b1 k hk]; exact hW.at hk
  · unfold isDg at h; rw [b2] at h; omega
  · obtain ⟨i, rfl⟩ : ∃ i, k = W.size + 1 + i := ⟨k - (W.size + 1), by omega⟩
    unfold isDg; rw [b3 i (by omega)]; exact hW.at (by omega)
  · unfold isDg at h; rw [b4] at h; omega
  · rw [hg] at t1
    obtain ⟨i, rfl⟩ : ∃ i, t = 2 * W.size + 1 + 1 + 1 + i := ⟨t - (2 * W.size + 1 + 1 + 1), by omega⟩
    unfold isDg; rw [b6 i]; exact hM.at (by omega)
theorem tz2_ok {W M : ByteArray} {v N : Int} (hW : AllD W) (hM : AllD M) (h0 : 0 < W.size) (hm : 0 < M.size) (hv : rdF W 0 W.size = v) (hN : rdF M 0 M.size = N) (hN0 : 0 ≤ N) (hN9 : N ≤ 9999) : NOk (tz2 W M) ∧ rv (tz2 W M) = litV (v * p10 W.size + v) N W.size := by
  obtain ⟨b1, b2, b3, b4, b5, b6⟩ := tz2_byt W M
  have hz := tz2_size W M
  have hS := tz2_shp hW hM h0 hm
  have e0 : sgJ (tz2 W M) 0 = 0 := hS.p0e
  have e1 : runE (tz2 W M) 0 = W.size := (run_E _ (by omega)).uniq hS.rn
  have hg : sgJ (tz2 W M) (2 * W.size + 1 + 1) = 2 * W.size + 1 + 1 + 1 := by unfold sgJ; rw [if_pos ⟨by omega, .inl b5⟩]
  have hn : sgN (tz2 W M) (2 * W.size + 1 + 1) = false := decide_eq_false (by rintro ⟨_, h⟩; omega)
  have hn0 : sgN (tz2 W M) 0 = false := decide_eq_false (by rintro ⟨_, h⟩; rw [b1 0 h0] at h; have := hW.at h0; omega)
  have hex : exT (tz2 W M) (2 * W.size + 1) = N := by
    unfold exT
    rw [if_pos (by omega), hg, hn, show (tz2 W M).size - (2 * W.size + 1 + 1 + 1) = M.size by omega, ← hN]
    exact (rdF_congr M.size fun i _ => (b6 i).symm).symm
  have hA : ¬ (sgJ (tz2 W M) 0 < runE (tz2 W M) (sgJ (tz2 W M) 0) ∧ runE (tz2 W M) (sgJ (tz2 W M) 0) < (tz2 W M).size ∧ byt (tz2 W M) (runE (tz2 W M) (sgJ (tz2 W M) 0)) = 47) := by
    rw [e0, e1, b2]; rintro ⟨_, _, h⟩; omega
  refine ⟨.inr ⟨hA, 2 * W.size + 1, by rw [e0, e1]; exact hS, by rw [hex]; omega, by rw [hex]; exact hN9⟩, ?_⟩
  unfold rv
  rw [if_neg hA, e0, e1, hS.pj, hex]
  have hX : litX (tz2 W M) 0 W.size (2 * W.size + 1) = v * p10 W.size + v := by
    unfold litX
    have f1 : rdF (tz2 W M) 0 W.size = v := by rw [← hv]; exact (rdF_congr W.size fun i hi => by rw [Nat.zero_add]; exact (b1 i hi).symm).symm
    have f2 : rdF (tz2 W M) (W.size + 1) W.size = v := by rw [← hv]; exact (rdF_congr W.size fun i hi => (b3 i hi).symm).symm
    rw [hn0, if_pos ⟨by omega, b2⟩, Nat.sub_zero, show 2 * W.size + 1 - (W.size + 1) = W.size by omega, f1, f2]
    rfl
  rw [hX]
  unfold ptB
  rw [if_pos ⟨by omega, b2⟩, show 2 * W.size + 1 - (W.size + 1) = W.size by omega]
end Go.Proofs.YtcpglhcdllegnabGreatDoor

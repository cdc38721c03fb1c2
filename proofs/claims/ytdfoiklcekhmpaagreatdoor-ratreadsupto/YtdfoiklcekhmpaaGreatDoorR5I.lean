import Derived.Test.YtdfoiklcekhmpaaGreatDoorR5E
import Derived.Lib.IndexLaws
namespace Go.Proofs.YtdfoiklcekhmpaaGreatDoor
open Go.RowKit Go.Shelf

theorem byt_some {s : ByteArray} {i : Nat} (h : i < s.size) : ∃ x, s.data.toList[i]? = some x ∧ byt s i = (x.toNat : Int) := by
  have hl : i < s.data.toList.length := by rw [sizeL]; exact h
  refine ⟨s.data.toList[i], List.getElem?_eq_getElem hl, ?_⟩
  unfold byt
  simp only [List.getD, List.getElem?_eq_getElem hl, Option.getD_some]
theorem some_byt {s : ByteArray} {i : Nat} {x : UInt8} (h : s.data.toList[i]? = some x) : i < s.size ∧ byt s i = (x.toNat : Int) := by
  obtain ⟨hl, e⟩ := List.getElem?_eq_some_iff.1 h
  rw [sizeL] at hl
  obtain ⟨y, h1, h2⟩ := byt_some hl
  rw [h] at h1; cases h1
  exact ⟨hl, h2⟩
theorem in_byt {s : ByteArray} {c : UInt8} (h : c ∈ s.data.toList) : ∃ i, i < s.size ∧ byt s i = (c.toNat : Int) := by
  obtain ⟨i, hi, e⟩ := List.getElem_of_mem h
  exact ⟨i, some_byt (by rw [List.getElem?_eq_getElem hi, e])⟩
theorem byt_in {s : ByteArray} {c : UInt8} {i : Nat} (h : i < s.size) (hb : byt s i = (c.toNat : Int)) : c ∈ s.data.toList := by
  obtain ⟨x, h1, h2⟩ := byt_some h
  obtain rfl : x = c := UInt8.toNat_inj.1 (by omega)
  exact List.mem_of_getElem? h1
theorem ib_at {s : ByteArray} {c : UInt8} {k : Nat} (h : k < s.size) (hb : byt s k = (c.toNat : Int)) (hf : ∀ i, i < k → byt s i ≠ (c.toNat : Int)) : Lib.indexByte s.data.toList c = (k : Int) := by
  have hk : k < s.data.toList.length := by rw [sizeL]; exact h
  obtain ⟨x, h1, h2⟩ := byt_some h
  obtain rfl : x = c := UInt8.toNat_inj.1 (by omega)
  have e : s.data.toList = s.data.toList.take k ++ x :: s.data.toList.drop (k + 1) := by
    rw [List.getElem?_eq_getElem hk] at h1
    cases h1
    rw [← List.drop_eq_getElem_cons hk, List.take_append_drop]
  have := ixb_at (l := s.data.toList.take k) (r := s.data.toList.drop (k + 1)) (c := x) (fun hm => by
    obtain ⟨i, hi, e2⟩ := List.getElem_of_mem hm
    rw [List.length_take] at hi
    have h3 : s.data.toList[i]? = some x := by
      rw [List.getElem_take] at e2
      rw [List.getElem?_eq_getElem (by omega), e2]
    exact hf i (by omega) (some_byt h3).2)
  rw [← e, List.length_take, Nat.min_eq_left (Nat.le_of_lt hk)] at this
  exact this
theorem noAny_byt {s : ByteArray} {k : Nat} {c d : UInt8} (hf : ∀ i, i < k → i < s.size → byt s i ≠ (c.toNat : Int) ∧ byt s i ≠ (d.toNat : Int)) : Lib.NoAny s.data.toList [c, d] k := fun j b hj hb => by
  obtain ⟨h1, h2⟩ := some_byt hb
  obtain ⟨n1, n2⟩ := hf j hj h1
  rw [← Bool.not_eq_true, List.contains_iff_mem]
  intro hm
  simp at hm
  rcases hm with rfl | rfl <;> omega
theorem ia_none {s : ByteArray} {c d : UInt8} (hf : ∀ i, i < s.size → byt s i ≠ (c.toNat : Int) ∧ byt s i ≠ (d.toNat : Int)) : Lib.indexAny s.data.toList [c, d] = -1 :=
  Lib.indexAny_none (noAny_byt fun i _ h => hf i h)
theorem ia_at {s : ByteArray} {c d : UInt8} {k : Nat} (h : k < s.size) (hb : byt s k = (c.toNat : Int) ∨ byt s k = (d.toNat : Int)) (hf : ∀ i, i < k → byt s i ≠ (c.toNat : Int) ∧ byt s i ≠ (d.toNat : Int)) : Lib.indexAny s.data.toList [c, d] = (k : Int) := by
  obtain ⟨x, h1, h2⟩ := byt_some h
  refine Lib.indexAny_hit (noAny_byt fun i hi _ => hf i hi) h1 ?_
  rw [List.contains_iff_mem]
  rcases hb with hb | hb
  · obtain rfl : x = c := UInt8.toNat_inj.1 (by omega)
    simp
  · obtain rfl : x = d := UInt8.toNat_inj.1 (by omega)
    simp
theorem rdF_shift {s t : ByteArray} {o p : Nat} {k : Nat} (h : ∀ i, i < k → byt t (p + i) = byt s (o + i)) : rdF t p k = rdF s o k := by
  induction k with
  | zero => rfl
  | succ k ih => simp only [rdF]; rw [ih (fun i hi => h i (by omega)), h k (by omega)]
theorem rdF_at {s t : ByteArray} {o : Nat} {k : Nat} (h : ∀ i, i < k → byt t (o + i) = byt s (o + i)) : rdF t o k = rdF s o k := rdF_shift h
/-- What whole.Parse reads. -/
def IOk (x : ByteArray) : Prop := Digs (cutS x).2 (cutS x).2.size ∧ 0 < (cutS x).2.size
def iv (x : ByteArray) : Int := ws (cutS x).1 (rdF (cutS x).2 0 (cutS x).2.size)
/-- A text laid over two windows. -/
theorem cutT {s x : ByteArray} {p : Nat} {neg : Bool} {n : Nat} (h1 : cutS x = (neg, (cutS x).2)) (h2 : (cutS x).2.size = n) (h3 : ∀ i, i < n → byt (cutS x).2 i = byt s (p + i)) :
    (IOk x ↔ (0 < n ∧ ∀ t, p ≤ t → t < p + n → isDg s t)) ∧ iv x = ws neg (rdF s p n) := by
  have e1 : (cutS x).1 = neg := by rw [h1]
  refine ⟨⟨fun ⟨a, b⟩ => ⟨by omega, fun t ht1 ht2 => ?_⟩, fun ⟨a, b⟩ => ⟨fun i hi => ?_, by omega⟩⟩, ?_⟩
  · have := a (t - p) (by omega)
    rw [h3 (t - p) (by omega), show p + (t - p) = t by omega] at this
    exact this
  · rw [h3 i (by omega)]; exact b (p + i) (by omega) (by omega)
  · unfold iv
    rw [e1, h2, rdF_congr n h3]
theorem cutW {s : ByteArray} {o j : Nat} (ho : o < j) (hj : j ≤ s.size) : (cutS (s.extract o j)).1 = sgN s o ∧ (cutS (s.extract o j)).2.size = j - sgJ s o ∧ ∀ i, i < j - sgJ s o → byt (cutS (s.extract o j)).2 i = byt s (sgJ s o + i) := by
  have hz : (s.extract o j).size = j - o := size_extract s o j hj
  have hb : byt (s.extract o j) 0 = byt s o := byt_extract s o j 0 hj (by omega)
  unfold cutS sgN sgJ
  rw [hz, hb]
  by_cases h45 : byt s o = 45
  · rw [if_pos ⟨by omega, h45⟩, if_pos ⟨by omega, .inr h45⟩]
    refine ⟨(decide_eq_true ⟨by omega, h45⟩).symm, ?_, fun i hi => ?_⟩
    · show ((s.extract o j).extract 1 (j - o)).size = _
      rw [size_extract _ _ _ (by omega)]; omega
    · show byt ((s.extract o j).extract 1 (j - o)) i = _
      rw [byt_extract _ _ _ _ (by omega) (by omega), byt_extract _ _ _ _ hj (by omega), show o + (1 + i) = o + 1 + i by omega]
  · by_cases h43 : byt s o = 43
    · rw [if_neg (by omega), if_pos ⟨by omega, h43⟩, if_pos ⟨by omega, .inl h43⟩]
      refine ⟨(decide_eq_false (by omega)).symm, ?_, fun i hi => ?_⟩
      · show ((s.extract o j).extract 1 (j - o)).size = _
        rw [size_extract _ _ _ (by omega)]; omega
      · show byt ((s.extract o j).extract 1 (j - o)) i = _
        rw [byt_extract _ _ _ _ (by omega) (by omega), byt_extract _ _ _ _ hj (by omega), show o + (1 + i) = o + 1 + i by omega]
    · rw [if_neg (by omega), if_neg (by omega), if_neg (by omega)]
      refine ⟨(decide_eq_false (by omega)).symm, hz, fun i hi => ?_⟩
      show byt (s.extract o j) i = _
      rw [byt_extract _ _ _ _ hj (by omega)]
theorem iokW {s : ByteArray} {o j : Nat} (ho : o < j) (hj : j ≤ s.size) : (IOk (s.extract o j) ↔ (sgJ s o < j ∧ ∀ t, sgJ s o ≤ t → t < j → isDg s t)) ∧ iv (s.extract o j) = ws (sgN s o) (rdF s (sgJ s o) (j - sgJ s o)) := by
  obtain ⟨h1, h2, h3⟩ := cutW ho hj
  obtain ⟨k1, k2⟩ := cutT (neg := sgN s o) (by rw [← h1]) h2 h3
  have hle : sgJ s o ≤ o + 1 := by unfold sgJ; split <;> omega
  refine ⟨k1.trans ⟨fun ⟨a, b⟩ => ⟨by omega, fun t t1 t2 => b t t1 (by omega)⟩, fun ⟨a, b⟩ => ⟨by omega, fun t t1 t2 => b t t1 (by omega)⟩⟩, k2⟩
theorem iokZ {x : ByteArray} (h : x.size = 0) : ¬ IOk x := fun ⟨_, h2⟩ => by have := cutS_size x; omega
theorem nokW {s : ByteArray} {o j : Nat} (ho : o ≤ j) (hj : j ≤ s.size) : ((Digs (s.extract o j) (s.extract o j).size ∧ 0 < (s.extract o j).size) ↔ (o < j ∧ ∀ t, o ≤ t → t < j → isDg s t)) ∧ rdF (s.extract o j) 0 (s.extract o j).size = rdF s o (j - o) := by
  have hz : (s.extract o j).size = j - o := size_extract s o j hj
  have hb : ∀ i, i < j - o → byt (s.extract o j) i = byt s (o + i) := fun i hi => byt_extract s o j i hj (by omega)
  rw [hz]
  refine ⟨⟨fun ⟨a, b⟩ => ⟨by omega, fun t t1 t2 => ?_⟩, fun ⟨a, b⟩ => ⟨fun i hi => ?_, by omega⟩⟩, rdF_congr _ hb⟩
  · have := a (t - o) (by omega)
    rw [hb _ (by omega), show o + (t - o) = t by omega] at this; exact this
  · rw [hb i hi]; exact b _ (by omega) (by omega)
theorem byt_cat (a b : ByteArray) (i : Nat) : byt (a ++ b) i = if i < a.size then byt a i else byt b (i - a.size) := by
  unfold byt
  rw [ByteArray.data_append, Array.toList_append]
  have hl : a.data.toList.length = a.size := sizeL a
  split
  · rename_i h
    simp only [List.getD, List.getElem?_append_left (show i < a.data.toList.length by omega)]
  · rename_i h
    simp only [List.getD, List.getElem?_append_right (show a.data.toList.length ≤ i by omega), hl]
/-- Digits ahead of a point and behind it, read without the point. -/
theorem iokP {s : ByteArray} {q j : Nat} (hq : q < j) (hj : j ≤ s.size) (h46 : byt s q = 46) (hns : ∀ t, q < t → t < j → byt s t ≠ 43 ∧ byt s t ≠ 45) :
    (IOk (s.extract 0 q ++ s.extract (q + 1) j) ↔ (0 < q - sgJ s 0 + (j - (q + 1)) ∧ (∀ t, sgJ s 0 ≤ t → t < q → isDg s t) ∧ ∀ t, q < t → t < j → isDg s t)) ∧
    iv (s.extract 0 q ++ s.extract (q + 1) j) = ws (sgN s 0) (rdF s (sgJ s 0) (q - sgJ s 0) * p10 (j - (q + 1)) + rdF s (q + 1) (j - (q + 1))) := by
  have hJ : sgJ s 0 ≤ q := by
    unfold sgJ; split
    · rename_i h
      rcases Nat.eq_zero_or_pos q with rfl | hp
      · omega
      · omega
    · omega
  have hza : (s.extract 0 q).size = q := by rw [size_extract _ _ _ (by omega)]; omega
  have hzb : (s.extract (q + 1) j).size = j - (q + 1) := size_extract _ _ _ hj
  have hzx : (s.extract 0 q ++ s.extract (q + 1) j).size = q + (j - (q + 1)) := by rw [ByteArray.size_append, hza, hzb]
  have hbx : ∀ i, i < q + (j - (q + 1)) → byt (s.extract 0 q ++ s.extract (q + 1) j) i = if i < q then byt s i else byt s (i + 1) := fun i hi => by
    rw [byt_cat, hza]
    split
    · rw [byt_extract _ _ _ _ (by omega) (by omega), Nat.zero_add]
    · rw [byt_extract _ _ _ _ hj (by omega), show q + 1 + (i - q) = i + 1 by omega]
  generalize s.extract 0 q ++ s.extract (q + 1) j = x at *
  -- the sign is ahead of the point
  have key : cutS x = (sgN s 0, (cutS x).2) ∧ (cutS x).2.size = q - sgJ s 0 + (j - (q + 1)) ∧ ∀ i, i < q - sgJ s 0 + (j - (q + 1)) → byt (cutS x).2 i = byt x (sgJ s 0 + i) := by
    rcases Nat.eq_zero_or_pos x.size with h0 | h0
    · have e : cutS x = (false, x) := by unfold cutS; rw [if_neg (by omega), if_neg (by omega)]
      have hq0 : q = 0 := by omega
      have hj0 : sgJ s 0 = 0 := by omega
      have hn0 : sgN s 0 = false := decide_eq_false (by subst hq0; omega)
      rw [e, hn0, hj0]
      exact ⟨rfl, by omega, fun i hi => by rw [Nat.zero_add]⟩
    · have hb0 := hbx 0 (by omega)
      by_cases hq0 : q = 0
      · subst hq0
        have hj0 : sgJ s 0 = 0 := by omega
        have hn0 : sgN s 0 = false := decide_eq_false (by omega)
        rw [if_neg (by omega), Nat.zero_add] at hb0
        have := hns 1 (by omega) (by omega)
        have e : cutS x = (false, x) := by unfold cutS; rw [if_neg (by omega), if_neg (by omega)]
        rw [e, hn0, hj0]
        exact ⟨rfl, by omega, fun i hi => by rw [Nat.zero_add]⟩
      · rw [if_pos (by omega)] at hb0
        by_cases h45 : byt s 0 = 45
        · have hj0 : sgJ s 0 = 1 := if_pos ⟨by omega, .inr h45⟩
          have hn0 : sgN s 0 = true := decide_eq_true ⟨by omega, h45⟩
          have e : cutS x = (true, x.extract 1 x.size) := if_pos ⟨h0, by omega⟩
          rw [e, hn0, hj0]
          refine ⟨rfl, ?_, fun i hi => ?_⟩
          · show (x.extract 1 x.size).size = _
            rw [size_extract _ _ _ (Nat.le_refl _)]; omega
          · show byt (x.extract 1 x.size) i = _
            rw [byt_extract _ _ _ _ (Nat.le_refl _) (by omega)]
        · by_cases h43 : byt s 0 = 43
          · have hj0 : sgJ s 0 = 1 := if_pos ⟨by omega, .inl h43⟩
            have hn0 : sgN s 0 = false := decide_eq_false (by omega)
            have e : cutS x = (false, x.extract 1 x.size) := by unfold cutS; rw [if_neg (by omega), if_pos ⟨h0, by omega⟩]
            rw [e, hn0, hj0]
            refine ⟨rfl, ?_, fun i hi => ?_⟩
            · show (x.extract 1 x.size).size = _
              rw [size_extract _ _ _ (Nat.le_refl _)]; omega
            · show byt (x.extract 1 x.size) i = _
              rw [byt_extract _ _ _ _ (Nat.le_refl _) (by omega)]
          · have hj0 : sgJ s 0 = 0 := if_neg (by omega)
            have hn0 : sgN s 0 = false := decide_eq_false (by omega)
            have e : cutS x = (false, x) := by unfold cutS; rw [if_neg (by omega), if_neg (by omega)]
            rw [e, hn0, hj0]
            exact ⟨rfl, by omega, fun i hi => by rw [Nat.zero_add]⟩
  obtain ⟨k1, k2, k3⟩ := key
  obtain ⟨c1, c2⟩ := cutT (s := x) k1 k2 k3
  refine ⟨c1.trans ⟨fun ⟨a, b⟩ => ⟨a, fun t t1 t2 => ?_, fun t t1 t2 => ?_⟩, fun ⟨a, b, c⟩ => ⟨a, fun t t1 t2 => ?_⟩⟩, ?_⟩
  · have := b t t1 (by omega)
    unfold isDg at this ⊢
    rw [hbx t (by omega), if_pos t2] at this; exact this
  · have := b (t - 1) (by omega) (by omega)
    unfold isDg at this ⊢
    rw [hbx (t - 1) (by omega), if_neg (by omega), show t - 1 + 1 = t by omega] at this; exact this
  · unfold isDg
    rw [hbx t (by omega)]
    split
    · exact b t t1 (by assumption)
    · exact c (t + 1) (by omega) (by omega)
  · rw [c2, rdF_add]
    have e1 : rdF x (sgJ s 0) (q - sgJ s 0) = rdF s (sgJ s 0) (q - sgJ s 0) := rdF_at fun i hi => by rw [hbx _ (by omega), if_pos (by omega)]
    have e2 : rdF x (sgJ s 0 + (q - sgJ s 0)) (j - (q + 1)) = rdF s (q + 1) (j - (q + 1)) := rdF_shift fun i hi => by
      rw [hbx _ (by omega), if_neg (by omega)]
      congr 1; omega
    rw [e1, e2]
end Go.Proofs.YtdfoiklcekhmpaaGreatDoor

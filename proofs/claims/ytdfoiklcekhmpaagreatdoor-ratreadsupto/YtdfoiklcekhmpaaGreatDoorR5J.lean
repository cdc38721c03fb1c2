import Derived.Test.YtdfoiklcekhmpaaGreatDoorR5I
import Derived.Test.YtdfoiklcekhmpaaGreatDoorR4E
namespace Go.Proofs.YtdfoiklcekhmpaaGreatDoor
open Go.RowKit Go.Shelf

/-- A decimal literal: digits from p0 to i, a point and digits up to j, or none, and an exponent, or none. -/
structure Shp (s : ByteArray) (p0 i j : Nat) : Prop where
  p0e : sgJ s 0 = p0
  rn : Run s p0 i
  pt : (j = i ∧ ¬ (i < s.size ∧ byt s i = 46)) ∨ (i < s.size ∧ byt s i = 46 ∧ Run s (i + 1) j)
  en : j = s.size ∨ (j < s.size ∧ (byt s j = 101 ∨ byt s j = 69) ∧ sgJ s (j + 1) < s.size ∧ ∀ t, sgJ s (j + 1) ≤ t → t < s.size → isDg s t)
  mn : 0 < (i - p0) + (j - (i + 1))
theorem sg0 {s : ByteArray} {t : Nat} (h : t < sgJ s 0) : t = 0 ∧ (byt s 0 = 43 ∨ byt s 0 = 45) := by
  unfold sgJ at h; split at h
  · rename_i h2; exact ⟨by omega, h2.2⟩
  · omega
theorem Shp.ij {s : ByteArray} {p0 i j : Nat} (h : Shp s p0 i j) : i ≤ j ∧ j ≤ s.size := by
  rcases h.pt with ⟨h1, _⟩ | ⟨_, _, h3⟩
  · have := h.rn.sz; omega
  · have := h3.le; have := h3.sz; omega
/-- What stands ahead of the exponent. -/
theorem Shp.front {s : ByteArray} {p0 i j : Nat} (h : Shp s p0 i j) {t : Nat} (ht : t < j) : byt s t = 43 ∨ byt s t = 45 ∨ isDg s t ∨ (t = i ∧ byt s t = 46) := by
  by_cases h1 : t < p0
  · obtain ⟨rfl, h2⟩ := sg0 (h.p0e ▸ h1)
    rcases h2 with h2 | h2
    · exact .inl h2
    · exact .inr (.inl h2)
  · by_cases h2 : t < i
    · exact .inr (.inr (.inl (h.rn.dg t (by omega) h2)))
    · rcases h.pt with ⟨h3, _⟩ | ⟨_, h4, h5⟩
      · omega
      · by_cases h6 : t = i
        · subst h6; exact .inr (.inr (.inr ⟨rfl, h4⟩))
        · exact .inr (.inr (.inl (h5.dg t (by omega) ht)))
theorem Shp.no47 {s : ByteArray} {p0 i j : Nat} (h : Shp s p0 i j) {t : Nat} (ht : t < s.size) : byt s t ≠ 47 := by
  intro e
  by_cases h1 : t < j
  · have := h.front h1
    unfold isDg at this
    omega
  · rcases h.en with h2 | ⟨_, h2, h3, h4⟩
    · omega
    · by_cases h5 : t = j
      · subst h5; omega
      · by_cases h6 : sgJ s (j + 1) ≤ t
        · have := h4 t h6 ht; unfold isDg at this; omega
        · unfold sgJ at h6 h3; split at h6
          · rename_i h7
            have : t = j + 1 := by omega
            subst this; omega
          · omega
theorem docShp {s : ByteArray} {p0 i k : Nat} (h0 : sgJ s 0 = p0) (hR : Run s p0 i) (hp : (k = i ∧ ¬ (i < s.size ∧ byt s i = 46)) ∨ (i < s.size ∧ byt s i = 46 ∧ Run s (i + 1) k)) (hok : exOk s k = true) (hm : 0 < (i - p0) + (k - (i + 1))) : Shp s p0 i k := by
  refine ⟨h0, hR, hp, ?_, hm⟩
  rcases of_decide_eq_true hok with h | ⟨h1, h2, h3, h4⟩
  · exact .inl h
  · have hr := run_E s (i := sgJ s (k + 1)) (sgJ_le (by omega))
    exact .inr ⟨h1, h2, by omega, fun t t1 t2 => hr.dg t t1 (by omega)⟩
/-- .. and the other way. -/
theorem Shp.ok {s : ByteArray} {p0 i j : Nat} (h : Shp s p0 i j) : exOk s j = true := by
  refine decide_eq_true ?_
  rcases h.en with h1 | ⟨h1, h2, h3, h4⟩
  · exact .inl h1
  · have hr := run_E s (i := sgJ s (j + 1)) (sgJ_le (by omega))
    have : runE s (sgJ s (j + 1)) = s.size := hr.uniq ⟨by omega, Nat.le_refl _, h4, fun h => absurd h (by omega)⟩
    exact .inr ⟨h1, h2, this, by omega⟩
/-- The exponent's number. -/
def exT (s : ByteArray) (j : Nat) : Int := if j < s.size then ws (sgN s (j + 1)) (rdF s (sgJ s (j + 1)) (s.size - sgJ s (j + 1))) else 0
theorem Shp.exN {s : ByteArray} {p0 i j : Nat} (h : Shp s p0 i j) : ∃ E : Int, 0 ≤ E ∧ exV s j = capV E ∧ exT s j = ws (exD s j) E := by
  rcases h.en with h1 | ⟨h1, h2, h3, h4⟩
  · refine ⟨0, Int.le_refl _, ?_, ?_⟩
    · unfold exV; rw [if_neg (by omega)]; rfl
    · unfold exT exD; rw [if_neg (by omega), decide_eq_false (by omega)]; rfl
  · have hr := run_E s (i := sgJ s (j + 1)) (sgJ_le (by omega))
    have e : runE s (sgJ s (j + 1)) = s.size := hr.uniq ⟨by omega, Nat.le_refl _, h4, fun h => absurd h (by omega)⟩
    refine ⟨rdF s (sgJ s (j + 1)) (s.size - sgJ s (j + 1)), (rdF_run_bd h4 _ (by omega)).1, ?_, ?_⟩
    · unfold exV; rw [if_pos ⟨h1, h2⟩, e]
    · unfold exT exD; rw [if_pos h1, decide_eq_true ⟨h1, h2⟩]; rfl
/-- The digits' number, and how many stand behind the point. -/
def litX (s : ByteArray) (p0 i j : Nat) : Int := ws (sgN s 0) (if i < s.size ∧ byt s i = 46 then rdF s p0 (i - p0) * p10 (j - (i + 1)) + rdF s (i + 1) (j - (i + 1)) else rdF s p0 (i - p0))
/-- How the program cuts it. -/
structure Cuts (s dg ex ah be : ByteArray) : Prop where
  e : CutsE s dg ex
  c : CutsP dg ah be
theorem bext {x y : ByteArray} (h : x.size = y.size) (hb : ∀ i, i < x.size → byt x i = byt y i) : x = y := by
  apply ByteArray.ext
  rw [← Array.toList_inj]
  apply List.ext_getElem?
  intro i
  by_cases hi : i < x.size
  · obtain ⟨u, h1, h2⟩ := byt_some hi
    obtain ⟨v, h3, h4⟩ := byt_some (s := y) (i := i) (by omega)
    obtain rfl : u = v := UInt8.toNat_inj.1 (by have := hb i hi; omega)
    rw [h1, h3]
  · rw [List.getElem?_eq_none (by rw [sizeL]; omega), List.getElem?_eq_none (by rw [sizeL]; omega)]
theorem ext_all (s : ByteArray) : s.extract 0 s.size = s := bext (by rw [size_extract _ _ _ (Nat.le_refl _)]; omega) fun i hi => by
  rw [size_extract _ _ _ (Nat.le_refl _)] at hi
  rw [byt_extract _ _ _ _ (Nat.le_refl _) (by omega), Nat.zero_add]
/-- The program's cutting, from the first e on. -/
theorem cutsE_ix {s : ByteArray} {j : Nat} (hs : s.size ≤ 1048576) (hj : j ≤ s.size) (hf : ∀ t, t < j → byt s t ≠ 101 ∧ byt s t ≠ 69) (he : j = s.size ∨ (j < s.size ∧ (byt s j = 101 ∨ byt s j = 69))) :
    CutsE s (s.extract 0 j) (if j < s.size then s.extract (j + 1) s.size else ⟨#[48]⟩) := by
  intro w
  rcases he with rfl | ⟨h1, h2⟩
  · rw [if_neg (by omega), ext_all]
    exact cutE_none s (by omega) (ia_none fun i hi => hf i hi) w
  · rw [if_pos h1]
    exact cutE_at s j h1 (by omega) (ia_at h1 h2 hf) w
theorem cutsP_ix {s : ByteArray} {q j : Nat} (hs : s.size ≤ 1048576) (hj : j ≤ s.size) (hq : q ≤ j) (hf : ∀ t, t < q → byt s t ≠ 46) (he : q = j ∨ (q < j ∧ byt s q = 46)) :
    CutsP (s.extract 0 j) (s.extract 0 q) (if q < j then s.extract (q + 1) j else ⟨#[]⟩) := by
  intro w
  have hz : (s.extract 0 j).size = j := by rw [size_extract _ _ _ hj]; omega
  have hb : ∀ i, i < j → byt (s.extract 0 j) i = byt s i := fun i hi => by rw [byt_extract _ _ _ _ hj (by omega), Nat.zero_add]
  rcases he with rfl | ⟨h1, h2⟩
  · rw [if_neg (by omega)]
    exact cutsP_none _ (fun hm => by
      obtain ⟨i, h1, h2⟩ := in_byt hm
      rw [hz] at h1
      rw [hb i h1] at h2
      exact hf i h1 h2) w
  · rw [if_pos h1]
    have e1 : (s.extract 0 j).extract 0 q = s.extract 0 q := bext (by rw [size_extract _ _ _ (by omega), size_extract _ _ _ (by omega)]) fun i hi => by
      rw [size_extract _ _ _ (by omega)] at hi
      rw [byt_extract _ _ _ _ (by omega) (by omega), byt_extract _ _ _ _ hj (by omega), byt_extract _ _ _ _ (by omega) (by omega), Nat.zero_add]
    have e2 : (s.extract 0 j).extract (q + 1) j = s.extract (q + 1) j := bext (by rw [size_extract _ _ _ (by omega), size_extract _ _ _ hj]) fun i hi => by
      rw [size_extract _ _ _ (by omega)] at hi
      rw [byt_extract _ _ _ _ (by omega) (by omega), byt_extract _ _ _ _ hj (by omega), byt_extract _ _ _ _ hj (by omega), Nat.zero_add]
    have := cutA46 (s.extract 0 j) q w (ib_at (by omega) (by rw [hb q h1]; exact h2) fun i hi => by rw [hb i (by omega)]; exact hf i hi) (by omega) (by omega)
    rw [hz, e1, e2] at this
    exact this.mono fun _ _ ⟨a, b⟩ => ⟨true, a, b⟩
theorem noSign_ix {s : ByteArray} {q j : Nat} (hs : s.size ≤ 1048576) (hj : j ≤ s.size) (hn : ∀ t, q < t → t < j → byt s t ≠ 43 ∧ byt s t ≠ 45) :
    NoSign (if q < j then s.extract (q + 1) j else ⟨#[]⟩) := by
  intro w
  split
  · have hz : (s.extract (q + 1) j).size = j - (q + 1) := size_extract _ _ _ hj
    have := canyB (s.extract (q + 1) j) ⟨#[43, 45]⟩ w rfl (by omega) ascS
    rw [show Lib.indexAny (s.extract (q + 1) j).data.toList (⟨#[43, 45]⟩ : ByteArray).data.toList = -1 from ia_none fun i hi => by
      rw [byt_extract _ _ _ _ hj (by omega)]; exact hn _ (by omega) (by omega)] at this
    exact this
  · exact noSign_nil w
end Go.Proofs.YtdfoiklcekhmpaaGreatDoor

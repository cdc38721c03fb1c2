import Derived.Test.YtfelogbfijomiabGreatDoorScale
import Derived.Test.YtfelogbfijomiabGreatDoorGotP
namespace Go.Proofs.YtfelogbfijomiabGreatDoor
open Go.RowKit

/-- The byte at a place. -/
def byt (s : ByteArray) (i : Nat) : Int := ((s.data.toList.getD i 0).toNat : Int)
theorem byt_get {s : ByteArray} {k : Nat} (h : k < s.size) : ((s[k]'h).toNat : Int) = byt s k := by
  obtain ⟨⟨l⟩⟩ := s
  have hl : k < l.length := h
  unfold byt
  have e : (ByteArray.mk ⟨l⟩)[k]'h = l.getD k 0 := by
    simp only [List.getD, List.getElem?_eq_getElem hl, Option.getD_some]
    rfl
  rw [e]
theorem byt_bd (s : ByteArray) (k : Nat) : 0 ≤ byt s k ∧ byt s k < 256 := by
  unfold byt
  have := (s.data.toList.getD k 0).toNat_lt
  omega
theorem size_extract (s : ByteArray) (a b : Nat) (hb : b ≤ s.size) : (s.extract a b).size = b - a := by
  rw [ByteArray.size_extract]; omega
theorem byt_extract (s : ByteArray) (a b k : Nat) (hb : b ≤ s.size) (h : a + k < b) : byt (s.extract a b) k = byt s (a + k) := by
  have hb' : b ≤ s.data.size := hb
  unfold byt
  rw [ByteArray.data_extract, Array.toList_extract]
  simp only [List.getD_eq_getElem?_getD, List.extract_eq_take_drop]
  rw [List.getElem?_take_of_lt (by omega), List.getElem?_drop]
/-- All its bytes up to a place are digits. -/
def Digs (s : ByteArray) (n : Nat) : Prop := ∀ i, i < n → 48 ≤ byt s i ∧ byt s i ≤ 57
/-- What so many of its digits, from a place on, tell. -/
def rdF (s : ByteArray) (o : Nat) : Nat → Int
  | 0 => 0
  | k + 1 => rdF s o k * 10 + (byt s (o + k) - 48)
def p10 : Nat → Int
  | 0 => 1
  | k + 1 => p10 k * 10
theorem p10_pos (k : Nat) : 0 < p10 k := by induction k with | zero => decide | succ k ih => simp only [p10]; omega
theorem p10_mono {a b : Nat} (h : a ≤ b) : p10 a ≤ p10 b := by
  induction b with
  | zero => rw [Nat.le_zero.1 h]; omega
  | succ b ih =>
    rcases Nat.lt_or_ge a (b + 1) with h1 | h1
    · have := ih (by omega); have := p10_pos b; simp only [p10]; omega
    · rw [show a = b + 1 by omega]; omega
theorem rdF_bd {s : ByteArray} {o n : Nat} (h : Digs s n) (k : Nat) (hk : o + k ≤ n) : 0 ≤ rdF s o k ∧ rdF s o k < p10 k := by
  induction k with
  | zero => simp [rdF, p10]
  | succ k ih => have := ih (by omega); have := h (o + k) (by omega); simp only [rdF, p10]; omega
theorem rdF_add (s : ByteArray) (o a b : Nat) : rdF s o (a + b) = rdF s o a * p10 b + rdF s (o + a) b := by
  induction b with
  | zero => simp [rdF, p10]
  | succ b ih =>
    show rdF s o (a + b) * 10 + (byt s (o + (a + b)) - 48) = rdF s o a * (p10 b * 10) + (rdF s (o + a) b * 10 + (byt s (o + a + b) - 48))
    rw [ih, Nat.add_assoc, Int.add_mul, Int.mul_assoc]; omega
theorem rdF_congr {s t : ByteArray} {o : Nat} (k : Nat) (h : ∀ i, i < k → byt t i = byt s (o + i)) : rdF t 0 k = rdF s o k := by
  induction k with
  | zero => rfl
  | succ k ih => simp only [rdF]; rw [ih (fun i hi => h i (by omega)), Nat.zero_add, h k (by omega)]

/-- Scaled by a number that isn't nought it stays in the one form. -/
theorem sclL_nf {xs : List Int} {d c : Int} (hx : NF xs) (hd : Word d) (hc : Word c) (h0 : 0 < d) : NF (sclL xs d c) := by
  obtain ⟨hw, ht⟩ := hx
  obtain ⟨s1, s2, s3⟩ := sclL_val hw hd hc
  refine ⟨s1, ?_⟩
  obtain ⟨h1, h2, h3, h4⟩ := sclR_ok hw hd hc xs.length
  unfold sclL at *
  split
  · rename_i hp
    unfold tlen
    rw [List.length_append]
    show tl _ (_ + 1) = _
    unfold tl
    rw [if_neg]
    · rfl
    · rw [lm_append_right (Nat.le_refl _), Nat.sub_self]
      show ¬ (sclR xs d c xs.length).2 = 0
      omega
  · rename_i hp
    rw [if_neg hp] at s1 s2
    have hle : tlen (sclR xs d c xs.length).1 ≤ (sclR xs d c xs.length).1.length := tl_le _ _
    rcases Nat.eq_zero_or_pos xs.length with h5 | h5
    · omega
    · have g1 := val_ge hw (by omega)
      have g2 := val_lt_tlen s1
      rw [s2] at g2
      have g3 : val xs * 1 ≤ val xs * d := Int.mul_le_mul_of_nonneg_left (by omega) (val_nn hw)
      rcases Nat.lt_or_ge (tlen (sclR xs d c xs.length).1) xs.length with h6 | h6
      · have := pw_mono (a := tlen (sclR xs d c xs.length).1) (b := tlen xs - 1) (by omega)
        have := hc.1
        omega
      · omega
end Go.Proofs.YtfelogbfijomiabGreatDoor

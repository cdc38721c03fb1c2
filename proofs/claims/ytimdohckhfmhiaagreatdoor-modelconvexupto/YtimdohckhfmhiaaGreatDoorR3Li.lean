import Derived.Test.YtimdohckhfmhiaaGreatDoorR3M
namespace Go.Proofs.YtimdohckhfmhiaaGreatDoor
open Go.RowKit

theorem TR.up {w : World} {p : Bool} {a : Option Addr} {na ca : Nat} {d : Option Addr} {nd cd : Nat} {r : Rat} {S R : Nat} (h : TR w p a na ca d nd cd r S) (hR : S ≤ R) : TR w p a na ca d nd cd r R := by
  obtain ⟨x, y, ⟨m, ⟨xs, h1, h2, h3, h4, h5, h6⟩, h7⟩, ⟨ys, g1, g2, g3, g4, g5, g6⟩, g7⟩ := h
  exact ⟨x, y, ⟨m, ⟨xs, h1, h2, h3, h4, h5, by omega⟩, h7⟩, ⟨ys, g1, g2, g3, g4, g5, by omega⟩, g7⟩
/-- T limbs are enough for a fraction. -/
def SzR (r : Rat) (T : Nat) : Prop := (r.num.natAbs : Int) < pw T ∧ (r.den : Int) < pw T
theorem SzR.le {r : Rat} {T R : Nat} (h : SzR r T) (hR : T ≤ R) : SzR r R := ⟨Int.lt_of_lt_of_le h.1 (pw_mono hR), Int.lt_of_lt_of_le h.2 (pw_mono hR)⟩
theorem GR.fit {w : World} {B : Nat} {f : Bool} {c : Option Addr} {n k : Nat} {c' : Option Addr} {n' k' : Nat} {r : Rat} {S T : Nat} (h : GR w B f c n k c' n' k' r S) (hz : SzR r T) : GR w B f c n k c' n' k' r T :=
  ⟨h.1.shrink hz.1, h.2.shrink hz.2⟩
theorem natAbs_dvd_le {x y z : Int} {T : Nat} (h : x * y = z) (hz : z ≠ 0) (hT : (z.natAbs : Int) < pw T) : (x.natAbs : Int) < pw T := by
  have hd : x.natAbs ∣ z.natAbs := by rw [← h, Int.natAbs_mul]; exact Nat.dvd_mul_right _ _
  have := Nat.le_of_dvd (by omega) hd
  omega
/-- What is told small is small. -/
theorem divInt_sz {x y : Int} {T : Nat} (hx : (x.natAbs : Int) < pw T) (hy : (y.natAbs : Int) < pw T) (hT : 1 ≤ T) : SzR (Rat.divInt x y) T := by
  have h1 : (1 : Int) < pw T := by
    have := pw_mono hT
    have e : pw 1 = 18446744073709551616 := rfl
    omega
  by_cases hy0 : y = 0
  · subst hy0
    rw [Rat.divInt_zero]
    exact ⟨by show ((0 : Int).natAbs : Int) < _; simp; exact Int.lt_trans (by decide) h1, by show ((1 : Nat) : Int) < _; exact h1⟩
  · rw [SzR, Rat.num_divInt, Rat.den_divInt, if_neg hy0]
    have hg : (0 : Int) < ((Int.gcd y x : Nat) : Int) := by
      have : 0 < Int.gcd y x := Int.gcd_pos_of_ne_zero_left _ hy0
      omega
    constructor
    · have hs : y.sign.natAbs ≤ 1 := by rcases Int.sign_trichotomy y with h | h | h <;> simp [h]
      have h2 : (y.sign * x / ((Int.gcd y x : Nat) : Int)).natAbs ≤ (y.sign * x).natAbs := by
        rw [Int.natAbs_ediv_of_dvd (Int.dvd_mul_of_dvd_right (Int.gcd_dvd_right _ _))]
        exact Nat.div_le_self _ _
      have h3 : (y.sign * x).natAbs ≤ x.natAbs := by
        rw [Int.natAbs_mul]
        calc y.sign.natAbs * x.natAbs ≤ 1 * x.natAbs := Nat.mul_le_mul_right _ hs
          _ = x.natAbs := Nat.one_mul _
      omega
    · have := Nat.div_le_self y.natAbs (Int.gcd y x)
      omega
theorem TR.sz {w : World} {p : Bool} {a : Option Addr} {na ca : Nat} {d : Option Addr} {nd cd : Nat} {r : Rat} {S : Nat} (h : TR w p a na ca d nd cd r S) (hS : 1 ≤ S) : SzR r S := by
  obtain ⟨x, y, hx, hy, rfl⟩ := h
  have h1 : (x.natAbs : Int) < pw S := by
    obtain ⟨m, ⟨xs, e1, e2, e3, e4, e5, e6⟩, rfl⟩ := hx
    have := val_lt e4
    have := pw_mono (show xs.length ≤ S by omega)
    have h0 : 0 ≤ val xs := val_nn e4
    unfold ws
    cases p <;> simp <;> omega
  have h2 : (y.natAbs : Int) < pw S := by
    obtain ⟨xs, e1, e2, e3, e4, e5, e6⟩ := hy
    have := val_lt e4
    have := pw_mono (show xs.length ≤ S by omega)
    have h0 : 0 ≤ val xs := val_nn e4
    omega
  exact divInt_sz h1 h2 hS
theorem SzR.mul {r s : Rat} {T R : Nat} (h : SzR r T) (k : SzR s R) (hT : 1 ≤ T + R) : SzR (r * s) (T + R) := by
  rw [← Rat.num_divInt_den r, ← Rat.num_divInt_den s, Rat.divInt_mul_divInt]
  refine divInt_sz ?_ ?_ hT
  · exact mul_lt h.1 k.1
  · exact mul_lt (x := (r.den : Int)) (y := (s.den : Int)) (by simpa using h.2) (by simpa using k.2)
theorem SzR.add {r s : Rat} {T R : Nat} (h : SzR r T) (k : SzR s R) : SzR (r + s) (T + R + 1) := by
  rw [← Rat.num_divInt_den r, ← Rat.num_divInt_den s, Rat.divInt_add_divInt _ _ (by have := r.den_pos; omega) (by have := s.den_pos; omega)]
  have h1 : ((r.num * (s.den : Int)).natAbs : Int) < pw (T + R) := mul_lt h.1 (by simpa using k.2)
  have h2 : ((s.num * (r.den : Int)).natAbs : Int) < pw (T + R) := by rw [Nat.add_comm]; exact mul_lt k.1 (by simpa using h.2)
  refine divInt_sz (add_lt h1 h2) ?_ (by omega)
  have h3 := mul_lt (x := (r.den : Int)) (y := (s.den : Int)) (S := T) (R := R) (by simpa using h.2) (by simpa using k.2)
  exact Int.lt_of_lt_of_le h3 (pw_mono (Nat.le_succ _))
/-- A list of n fractions, the i-th of which is X i, told in Z i limbs at the most. -/
def LQ (w : World) (a : Option Addr) (n : Nat) (X : Nat → Rat) (Z : Nat → Nat) : Prop :=
  n = 0 ∨ ∃ b o, a = some ⟨b, o, none⟩ ∧ ∀ i, i < n → ∃ p a na ca d nd cd, w.cell? ⟨b, o + i * 3, none⟩ = some (.bool p) ∧ w.cell? ⟨b, o + i * 3 + 1, none⟩ = some (.slice a na ca) ∧ w.cell? ⟨b, o + i * 3 + 2, none⟩ = some (.slice d nd cd) ∧ TR w p a na ca d nd cd (X i) (Z i)
theorem LQ.below {w w' : World} {a : Option Addr} {n : Nat} {X : Nat → Rat} {Z : Nat → Nat} (h : LQ w a n X Z) (hb : Below w.heap.size w w') : LQ w' a n X Z := by
  rcases h with h | ⟨b, o, rfl, h⟩
  · exact .inl h
  · refine .inr ⟨b, o, rfl, fun i hi => ?_⟩
    obtain ⟨p, a, na, ca, d, nd, cd, h1, h2, h3, h4⟩ := h i hi
    exact ⟨p, a, na, ca, d, nd, cd, kept_c hb h1, kept_c hb h2, kept_c hb h3, h4.below hb⟩
/-- The sum of the first n. -/
def rsum (X : Nat → Rat) : Nat → Rat
  | 0 => 0
  | n + 1 => rsum X n + X n
/-- The sum of the first n products. -/
def rdot (X Y : Nat → Rat) (n : Nat) : Rat := rsum (fun i => X i * Y i) n
theorem rsum_succ (X : Nat → Rat) (n : Nat) : rsum X (n + 1) = rsum X n + X n := rfl
theorem rdot_succ (X Y : Nat → Rat) (n : Nat) : rdot X Y (n + 1) = rdot X Y n + X n * Y n := rfl
theorem rsum_congr {X Y : Nat → Rat} {n : Nat} (h : ∀ i, i < n → X i = Y i) : rsum X n = rsum Y n := by
  induction n with
  | zero => rfl
  | succ n ih => rw [rsum_succ, rsum_succ, ih (fun i hi => h i (by omega)), h n (by omega)]
theorem rsum_mul (X : Nat → Rat) (k : Rat) (n : Nat) : rsum (fun i => X i * k) n = rsum X n * k := by
  induction n with
  | zero => exact (Rat.zero_mul k).symm
  | succ n ih => rw [rsum_succ, rsum_succ, ih, Rat.add_mul]
theorem rsum_add (X Y : Nat → Rat) (n : Nat) : rsum (fun i => X i + Y i) n = rsum X n + rsum Y n := by
  induction n with
  | zero => exact (Rat.zero_add 0).symm
  | succ n ih =>
    rw [rsum_succ, rsum_succ, rsum_succ, ih, Rat.add_assoc, Rat.add_assoc]
    congr 1
    rw [← Rat.add_assoc, ← Rat.add_assoc, Rat.add_comm (X n)]
/-- What a sum's limbs may come to. -/
def tot (Z : Nat → Nat) : Nat → Nat
  | 0 => 1
  | n + 1 => tot Z n + Z n + 1
theorem tot_pos (Z : Nat → Nat) (n : Nat) : 1 ≤ tot Z n := by
  induction n with
  | zero => exact Nat.le_refl _
  | succ n ih => show 1 ≤ tot Z n + Z n + 1; omega
theorem tot_mono (Z : Nat → Nat) {k n : Nat} (h : k ≤ n) : tot Z k ≤ tot Z n := by
  induction n with
  | zero => obtain rfl : k = 0 := by omega
            exact Nat.le_refl _
  | succ n ih =>
    rcases (by omega : k = n + 1 ∨ k ≤ n) with rfl | h2
    · exact Nat.le_refl _
    · have := ih h2
      show _ ≤ tot Z n + Z n + 1
      omega
theorem tot_one {Z : Nat → Nat} {n i : Nat} (h : i < n) : Z i + 1 ≤ tot Z n := by
  have := tot_mono Z (show i + 1 ≤ n from h)
  have e : tot Z (i + 1) = tot Z i + Z i + 1 := rfl
  have := tot_pos Z i
  omega
theorem sz_zero {T : Nat} (hT : 1 ≤ T) : SzR 0 T := by
  have h := divInt_sz (x := 0) (y := 1) (T := T) (by have := pw_pos T; simpa using this) (by have := pw_mono hT; have e : pw 1 = 18446744073709551616 := rfl; simp; omega) hT
  rwa [Rat.zero_divInt] at h
theorem rsum_sz {X : Nat → Rat} {Z : Nat → Nat} {n : Nat} (h : ∀ i, i < n → SzR (X i) (Z i)) : ∀ k, k ≤ n → SzR (rsum X k) (tot Z k)
  | 0, _ => sz_zero (Nat.le_refl _)
  | k + 1, hk => (rsum_sz h k (by omega)).add (h k (by omega))
theorem rdot_sz {X Y : Nat → Rat} {Z Z' : Nat → Nat} {n : Nat} (h : ∀ i, i < n → SzR (X i) (Z i)) (h' : ∀ i, i < n → SzR (Y i) (Z' i)) (hz : ∀ i, i < n → 1 ≤ Z i + Z' i) : ∀ k, k ≤ n → SzR (rdot X Y k) (tot (fun i => Z i + Z' i) k) :=
  rsum_sz (Z := fun i => Z i + Z' i) fun i hi => (h i hi).mul (h' i hi) (hz i hi)
end Go.Proofs.YtimdohckhfmhiaaGreatDoor

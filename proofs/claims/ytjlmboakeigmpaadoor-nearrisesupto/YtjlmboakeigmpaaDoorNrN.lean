import Derived.Test.YtjlmboakeigmpaaDoorNrGAll
namespace Go.Proofs.YtjlmboakeigmpaaDoor
open Go.RowKit

/-- The boundaries of ranks told in blocks of B: the i-th one. -/
def sg4 (B i : Nat) : Nat := i / B - 1
def NB (B i : Nat) : Nat := (i - sg4 B i * B) * 2 ^ sg4 B i
theorem NB_of {B m s : Nat} (h : s = 0 ∧ m < 2 * B ∨ B ≤ m ∧ m < 2 * B) : sg4 B (s * B + m) = s ∧ NB B (s * B + m) = m * 2 ^ s := by
  have hB : 0 < B := by omega
  have e : sg4 B (s * B + m) = s := by
    unfold sg4
    rw [Nat.mul_comm s B, Nat.mul_add_div hB]
    rcases h with ⟨rfl, h⟩ | ⟨h, h'⟩
    · have : m / B < 2 := Nat.div_lt_of_lt_mul (by omega)
      omega
    · have : m / B < 2 := Nat.div_lt_of_lt_mul (by omega)
      have : 0 < m / B := Nat.div_pos h hB
      omega
  refine ⟨e, ?_⟩
  unfold NB
  rw [e, Nat.add_comm, Nat.add_sub_cancel]
theorem NB_at {B : Nat} (hB : 0 < B) (i : Nat) : ∃ m s, i = s * B + m ∧ (s = 0 ∧ m < 2 * B ∨ B ≤ m ∧ m < 2 * B) := by
  have h1 := Nat.div_add_mod i B
  have h2 := Nat.mod_lt i hB
  rcases Nat.eq_zero_or_pos (i / B) with h | h
  · have h3 := (Nat.div_eq_zero_iff_lt hB).1 h
    exact ⟨i, 0, by omega, .inl ⟨rfl, by omega⟩⟩
  · obtain ⟨s, hs⟩ : ∃ s, i / B = s + 1 := ⟨i / B - 1, by omega⟩
    refine ⟨B + i % B, s, ?_, .inr ⟨by omega, by omega⟩⟩
    rw [hs, Nat.mul_comm, Nat.succ_mul] at h1
    omega
theorem NB_succ {B : Nat} (hB : 0 < B) (i : Nat) : NB B (i + 1) = NB B i + 2 ^ sg4 B i := by
  obtain ⟨m, s, rfl, h⟩ := NB_at hB i
  obtain ⟨h1, h2⟩ := NB_of h
  rw [h1, h2]
  by_cases hm : m + 1 < 2 * B
  · have := (NB_of (B := B) (m := m + 1) (s := s) (by omega)).2
    rw [Nat.add_assoc, this, Nat.succ_mul]
  · have := (NB_of (B := B) (m := B) (s := s + 1) (by omega)).2
    rw [show s * B + m + 1 = (s + 1) * B + B by rw [Nat.succ_mul]; omega, this, show m = 2 * B - 1 by omega, ← Nat.succ_mul, show (2 * B - 1).succ = B * 2 by omega, Nat.pow_succ, Nat.mul_assoc, Nat.mul_comm 2]
theorem NB_lt {B i j : Nat} (hB : 0 < B) (h : i < j) : NB B i < NB B j := by
  induction j with
  | zero => omega
  | succ j ih =>
    have := Nat.two_pow_pos (sg4 B j)
    rw [NB_succ hB]
    rcases (by omega : i = j ∨ i < j) with rfl | h
    · omega
    · have := ih h; omega
theorem NB_le {B i j : Nat} (hB : 0 < B) (h : i ≤ j) : NB B i ≤ NB B j := by
  rcases (by omega : i = j ∨ i < j) with rfl | h
  · exact Nat.le_refl _
  · exact Nat.le_of_lt (NB_lt hB h)
theorem NB_two {B : Nat} (hB : 0 < B) (k : Nat) : NB (2 * B) (2 * k) = 2 * NB B k := by
  obtain ⟨m, s, rfl, h⟩ := NB_at hB k
  rw [(NB_of h).2, show 2 * (s * B + m) = s * (2 * B) + 2 * m by rw [Nat.mul_add, Nat.mul_left_comm], (NB_of (B := 2 * B) (m := 2 * m) (s := s) (by omega)).2, Nat.mul_assoc]
theorem cm1 (x E v : Int) : 2 * (x * E) * v = 2 * E * (x * v) := by ac_rfl
theorem cm2 (x g E : Int) : 2 * (x * g * E) = 2 * (x * E) * g := by ac_rfl
theorem cm3 (X c : Int) : 2 * (X * c) = X * 2 * c := by ac_rfl
theorem cm4 (h p y : Int) : h * p * y = h * (y * p) := by ac_rfl
theorem cm5 (k E y : Int) : 2 * (k * E) * y = 2 * (k * y * E) := by ac_rfl
theorem cm6 (b y v : Int) : b * y * v = b * v * y := by ac_rfl
/-- 2^1074 -/
def E4 : Int := 2 ^ 1074
theorem E4_pos : 0 < E4 := Int.pow_pos (by decide)
theorem E4_split {n s : Nat} (h : n + s = 1074) : (2 : Int) ^ n * 2 ^ s = E4 := by unfold E4; rw [← Int.pow_add, h]
/-- The boundaries: floats and the middles between them, in halves of 2^-1074. -/
def bnd (i : Nat) : Int := ((NB 9007199254740992 i : Nat) : Int)
theorem bnd_lt {i j : Nat} (h : i < j) : bnd i < bnd j := by have := NB_lt (B := 9007199254740992) (by decide) h; unfold bnd; omega
theorem bnd_le {i j : Nat} (h : i ≤ j) : bnd i ≤ bnd j := by have := NB_le (B := 9007199254740992) (by decide) h; unfold bnd; omega
theorem bnd_nn (i : Nat) : 0 ≤ bnd i := by unfold bnd; omega
/-- x by y stands at t: at the boundary of t / 2, or (odd) behind it. -/
def Ps (x y : Int) (t : Nat) : Prop := t ≤ 36875473748909621247 ∧ (t % 2 = 0 ∧ bnd (t / 2) * y = 2 * (x * E4) ∨ t % 2 = 1 ∧ bnd (t / 2) * y < 2 * (x * E4) ∧ (t = 36875473748909621247 ∨ 2 * (x * E4) < bnd (t / 2 + 1) * y))
theorem Ps.low {x y : Int} {t : Nat} (h : Ps x y t) : bnd (t / 2) * y ≤ 2 * (x * E4) := by
  obtain ⟨_, ⟨_, h⟩ | ⟨_, h, _⟩⟩ := h <;> omega
theorem Ps.mono {x y z v : Int} {t u : Nat} (h : Ps x y t) (k : Ps z v u) (hy : 0 < y) (hv : 0 < v) (hz : x * v ≤ z * y) : t ≤ u := by
  rcases (by omega : t ≤ u ∨ u < t) with hh | hh
  · exact hh
  exfalso
  have hE := E4_pos
  have c1 : 2 * (x * E4) * v ≤ 2 * (z * E4) * y := by
    have := Int.mul_le_mul_of_nonneg_left hz (show 0 ≤ 2 * E4 by omega)
    rwa [cm1, cm1]
  have hl := Int.mul_le_mul_of_nonneg_right h.low (Int.le_of_lt hv)
  obtain ⟨ht, h⟩ := h
  obtain ⟨hu, k⟩ := k
  rcases k with ⟨k0, k1⟩ | ⟨k0, k1, k2⟩
  · have e2 : 2 * (z * E4) * y = bnd (u / 2) * y * v := by rw [← k1]; exact cm6 _ _ _
    rcases (by omega : t / 2 = u / 2 ∨ u / 2 < t / 2) with e | e
    · rcases h with ⟨h0, h1⟩ | ⟨h0, h1, h2⟩
      · omega
      · have := Int.mul_lt_mul_of_pos_right h1 hv
        rw [e] at this
        omega
    · have := Int.mul_lt_mul_of_pos_right (Int.mul_lt_mul_of_pos_right (bnd_lt e) hy) hv
      omega
  · have k3 : 2 * (z * E4) < bnd (u / 2 + 1) * v := by omega
    have e2 := Int.mul_lt_mul_of_pos_right k3 hy
    have := Int.mul_le_mul_of_nonneg_right (Int.mul_le_mul_of_nonneg_right (bnd_le (show u / 2 + 1 ≤ t / 2 by omega)) (Int.le_of_lt hy)) (Int.le_of_lt hv)
    rw [cm6 (bnd (u / 2 + 1))] at e2
    have e3 : 2 * (z * E4) * y < bnd (u / 2 + 1) * y * v := e2
    clear e2
    omega
theorem Ps.uniq {x y : Int} {t u : Nat} (h : Ps x y t) (k : Ps x y u) (hy : 0 < y) : t = u :=
  Nat.le_antisymm (h.mono k hy hy (Int.le_refl _)) (k.mono h hy hy (Int.le_refl _))
/-- .. and it is a number's, not a telling's. -/
theorem Ps.scale {x y g : Int} {t : Nat} (hg : 0 < g) : Ps (x * g) (y * g) t ↔ Ps x y t := by
  unfold Ps
  have e : ∀ b : Int, b * (y * g) = b * y * g := fun b => (Int.mul_assoc b y g).symm
  rw [cm2, e, e, Int.mul_lt_mul_right hg, Int.mul_lt_mul_right hg, Int.mul_eq_mul_right_iff (by omega)]
/-- What the counting of halves tells. -/
theorem Ps.of {x y X Y c r : Int} {h s : Nat} (hc : 0 < c) (hX : X * c = x * E4) (hY : Y * c = y * 2 ^ s) (hh : s = 0 ∧ h < 2 * 9007199254740992 ∨ 9007199254740992 ≤ h ∧ h < 2 * 9007199254740992)
    (hq : X * 2 = h * Y + r) (hr : 0 ≤ r) (hr' : r < Y) (ht : s * 9007199254740992 + h < 18437736874454810624) : Ps x y (2 * (s * 9007199254740992 + h) + if r = 0 then 0 else 1) := by
  have e1 : bnd (s * 9007199254740992 + h) * y = h * Y * c := by
    unfold bnd; rw [(NB_of hh).2, Int.natCast_mul, Int.natCast_pow, cm4, Int.mul_assoc (h : Int) Y c, hY]; rfl
  have e2 : bnd (s * 9007199254740992 + h + 1) * y = (h * Y + Y) * c := by
    unfold bnd; rw [NB_succ (by decide), (NB_of hh).2, (NB_of hh).1, Int.natCast_add, Int.natCast_mul, Int.natCast_pow, Int.add_mul, cm4, Int.add_mul, Int.mul_assoc (h : Int) Y c, hY, Int.mul_comm ((2 : Nat) ^ s : Int) y]; rfl
  have e3 : 2 * (x * E4) = (h * Y + r) * c := by rw [← hX, ← hq]; exact cm3 _ _
  by_cases h0 : r = 0
  · rw [if_pos h0]
    refine ⟨by omega, .inl ⟨by omega, ?_⟩⟩
    rw [show (2 * (s * 9007199254740992 + h) + 0) / 2 = s * 9007199254740992 + h by omega, e1, e3, h0, Int.add_zero]
  · rw [if_neg h0]
    refine ⟨by omega, .inr ⟨by omega, ?_, .inr ?_⟩⟩
    · rw [show (2 * (s * 9007199254740992 + h) + 1) / 2 = s * 9007199254740992 + h by omega, e1, e3]
      exact Int.mul_lt_mul_of_pos_right (by omega) hc
    · rw [show (2 * (s * 9007199254740992 + h) + 1) / 2 = s * 9007199254740992 + h by omega, e2, e3]
      exact Int.mul_lt_mul_of_pos_right (by omega) hc
theorem Ps.last {x y : Int} {i : Nat} (hy : 0 < y) (hi : 18437736874454810624 ≤ i) (h : bnd i * y ≤ 2 * (x * E4)) : Ps x y 36875473748909621247 := by
  refine ⟨Nat.le_refl _, .inr ⟨by decide, ?_, .inl rfl⟩⟩
  have := Int.mul_lt_mul_of_pos_right (bnd_lt (show 36875473748909621247 / 2 < i by omega)) hy
  omega
theorem Ps.far {x y X Y c r : Int} {h s : Nat} (hy : 0 < y) (hc : 0 < c) (hX : X * c = x * E4) (hY : Y * c = y * 2 ^ s) (hh : s = 0 ∧ h < 2 * 9007199254740992 ∨ 9007199254740992 ≤ h ∧ h < 2 * 9007199254740992)
    (hq : X * 2 = h * Y + r) (hr : 0 ≤ r) (ht : 18437736874454810624 ≤ s * 9007199254740992 + h) : Ps x y 36875473748909621247 := by
  refine Ps.last hy ht ?_
  have e1 : bnd (s * 9007199254740992 + h) * y = h * Y * c := by
    unfold bnd; rw [(NB_of hh).2, Int.natCast_mul, Int.natCast_pow, cm4, Int.mul_assoc (h : Int) Y c, hY]; rfl
  have e3 : 2 * (x * E4) = (h * Y + r) * c := by rw [← hX, ← hq]; exact cm3 _ _
  rw [e1, e3]
  exact Int.mul_le_mul_of_nonneg_right (by omega) (Int.le_of_lt hc)
theorem bnd_gen (s : Nat) : bnd (s * 9007199254740992 + 9007199254740992) = 2 ^ (s + 53) := by
  have := (NB_of (B := 9007199254740992) (m := 9007199254740992) (s := s) (by omega)).2
  unfold bnd
  rw [this, Int.pow_add, Int.natCast_mul, Int.natCast_pow, Int.mul_comm]
  rfl
theorem pw_a (b n : Nat) : ((2 ^ (b + n) : Nat) : Int) = 2 ^ n * ((2 ^ b : Nat) : Int) := by
  rw [Nat.pow_add, Nat.mul_comm, Int.natCast_mul, Int.natCast_pow]; rfl
theorem pw_b (a b : Nat) : 2 * ((2 : Int) ^ a * 2 ^ b) = 2 ^ (a + b + 1) := by rw [← Int.pow_add, ← Int.pow_succ']
theorem bnd_inf : bnd 18437736874454810624 = 2 * (2 ^ 1024 * E4) :=
  (bnd_gen 2046).trans ((congrArg (fun n : Nat => (2 : Int) ^ n) (show 2046 + 53 = 1024 + 1074 + 1 from rfl)).trans (pw_b 1024 1074).symm)
theorem Ps.big {x y : Int} {a b : Nat} (hy : 0 < y) (hx : ((2 ^ a : Nat) : Int) ≤ x) (hyb : y < ((2 ^ b : Nat) : Int)) (h : b + 1024 ≤ a) : Ps x y 36875473748909621247 := by
  refine Ps.last hy (Nat.le_refl _) ?_
  rw [bnd_inf]
  have h1 : 2 ^ 1024 * y ≤ x := by
    have e : (2 ^ (b + 1024) : Nat) ≤ 2 ^ a := Nat.pow_le_pow_right (by decide) h
    have e2 := pw_a b 1024
    have e3 := Int.mul_le_mul_of_nonneg_left (Int.le_of_lt hyb) (show (0 : Int) ≤ 2 ^ 1024 from Int.le_of_lt (Int.pow_pos (by decide)))
    omega
  have := Int.mul_le_mul_of_nonneg_right h1 (Int.le_of_lt E4_pos)
  rw [cm5]
  omega

theorem h_lt {x y X Y c r C : Int} {h s : Nat} (hc : 0 < c) (hX : X * c = x * E4) (hY : Y * c = y * 2 ^ s) (hq : X * 2 = h * Y + r) (hr : 0 ≤ r) (hr' : r < Y) (hu : 2 * (x * E4) < C * (y * 2 ^ s)) : (h : Int) < C := by
  rw [← hX, ← hY, cm3, ← Int.mul_assoc] at hu
  have h1 := Int.lt_of_mul_lt_mul_right hu (Int.le_of_lt hc)
  exact Int.lt_of_mul_lt_mul_right (show (h : Int) * Y < C * Y by omega) (by omega)
theorem h_ge {x y X Y c r C : Int} {h s : Nat} (hc : 0 < c) (hX : X * c = x * E4) (hY : Y * c = y * 2 ^ s) (hq : X * 2 = h * Y + r) (hr : 0 ≤ r) (hr' : r < Y) (hu : C * (y * 2 ^ s) ≤ 2 * (x * E4)) : C ≤ (h : Int) := by
  rw [← hX, ← hY, cm3, ← Int.mul_assoc] at hu
  have h1 := Int.le_of_mul_le_mul_right hu hc
  have := Int.lt_of_mul_lt_mul_right (show C * Y < (h + 1) * Y by rw [Int.add_mul]; omega) (by omega)
  omega
theorem h_le {x y X Y c r C : Int} {h s : Nat} (hc : 0 < c) (hX : X * c = x * E4) (hY : Y * c = y * 2 ^ s) (hq : X * 2 = h * Y + r) (hr : 0 ≤ r) (hY0 : 0 < Y) (hu : C ≤ (h : Int)) : C * (y * 2 ^ s) ≤ 2 * (x * E4) := by
  rw [← hX, ← hY, cm3, ← Int.mul_assoc]
  refine Int.mul_le_mul_of_nonneg_right ?_ (Int.le_of_lt hc)
  have := Int.mul_le_mul_of_nonneg_right hu (Int.le_of_lt hY0)
  omega
theorem up0 {x y : Int} {a b s : Nat} (hx : x < ((2 ^ a : Nat) : Int)) (hy : ((2 ^ (b - 1) : Nat) : Int) ≤ y) (hb : 1 ≤ b) (h : a + 1021 ≤ b + s) : 2 * (x * E4) < 36028797018963968 * (y * 2 ^ s) := by
  have h1 := Int.mul_lt_mul_of_pos_right hx E4_pos
  have h2 := Int.mul_le_mul_of_nonneg_right hy (show (0 : Int) ≤ 2 ^ s from Int.le_of_lt (Int.pow_pos (by decide)))
  have h3 : 2 * (((2 ^ a : Nat) : Int) * E4) ≤ 36028797018963968 * (((2 ^ (b - 1) : Nat) : Int) * 2 ^ s) := by
    unfold E4
    rw [Int.natCast_pow, Int.natCast_pow, show ((2 : Nat) : Int) = 2 from rfl, ← Int.pow_add, ← Int.pow_add, ← Int.pow_succ', show (36028797018963968 : Int) = 2 ^ 55 by decide, ← Int.pow_add]
    have := Nat.pow_le_pow_right (show 0 < 2 by decide) (show a + 1074 + 1 ≤ 55 + (b - 1 + s) by omega)
    have h4 := Int.ofNat_le.2 this
    rwa [Int.natCast_pow, Int.natCast_pow] at h4
  omega
theorem lo0 {x y : Int} {a b s : Nat} (hx : ((2 ^ (a - 1) : Nat) : Int) ≤ x) (hy : y < ((2 ^ b : Nat) : Int)) (ha : 1 ≤ a) (h : b + s ≤ a + 1021) : 9007199254740992 * (y * 2 ^ s) ≤ 2 * (x * E4) := by
  have h1 := Int.mul_le_mul_of_nonneg_right hx (Int.le_of_lt E4_pos)
  have h2 := Int.mul_lt_mul_of_pos_right hy (show (0 : Int) < 2 ^ s from (Int.pow_pos (by decide)))
  have h3 : 9007199254740992 * (((2 ^ b : Nat) : Int) * 2 ^ s) ≤ 2 * (((2 ^ (a - 1) : Nat) : Int) * E4) := by
    unfold E4
    rw [Int.natCast_pow, Int.natCast_pow, show ((2 : Nat) : Int) = 2 from rfl, ← Int.pow_add, ← Int.pow_add, ← Int.pow_succ', show (9007199254740992 : Int) = 2 ^ 53 by decide, ← Int.pow_add]
    have := Nat.pow_le_pow_right (show 0 < 2 by decide) (show 53 + (b + s) ≤ a - 1 + 1074 + 1 by omega)
    have h4 := Int.ofNat_le.2 this
    rwa [Int.natCast_pow, Int.natCast_pow] at h4
  omega
theorem half_up {A y : Int} {s : Nat} : 2 * A * (y * 2 ^ s) = A * (y * 2 ^ (s + 1)) := by rw [Int.pow_succ]; ac_rfl
/-- A float's place in the row of all. -/
def key (b : Nat) : Int := if (b / 9223372036854775808 % 2 == 1) then -((b % 9223372036854775808 : Nat) : Int) else ((b % 9223372036854775808 : Nat) : Int)
def fb (z : Int) : Nat := if z < 0 then (-z).toNat + 9223372036854775808 else z.toNat
theorem rd_fin {b : Nat} (h : b % 9223372036854775808 < 9218868437227405312) : ∃ m i : Nat, Ieee.double.read b = .number (b / 9223372036854775808 % 2 == 1) m (-1074 + (i : Int)) ∧ m * 2 ^ i = NB 4503599627370496 (b % 9223372036854775808) := by
  rw [rd64]
  generalize (b / 9223372036854775808 % 2 == 1) = s
  generalize b % 9223372036854775808 = r at *
  by_cases h1 : r < 4503599627370496
  · refine ⟨r, 0, by rw [if_pos h1]; rfl, ?_⟩
    have := (NB_of (B := 4503599627370496) (m := r) (s := 0) (by omega)).2
    rw [Nat.zero_mul, Nat.zero_add] at this
    exact this.symm
  · refine ⟨4503599627370496 + r % 4503599627370496, r / 4503599627370496 - 1, by rw [if_neg h1, if_pos h], ?_⟩
    have := (NB_of (B := 4503599627370496) (m := 4503599627370496 + r % 4503599627370496) (s := r / 4503599627370496 - 1) (by omega)).2
    rw [← this]
    congr 1
    omega
theorem rd_inf {b : Nat} (h : b % 9223372036854775808 = 9218868437227405312) : Ieee.double.read b = .infinity (b / 9223372036854775808 % 2 == 1) := by
  rw [rd64, h]; rfl
theorem cmp_iff {a b c d : Int} (h1 : a < b ↔ c < d) (h2 : b < a ↔ d < c) : compare a b = compare c d := by
  rcases Int.lt_trichotomy c d with h | h | h
  · rw [Int.compare_eq_lt.2 h, Int.compare_eq_lt.2 (h1.2 h)]
  · have : a = b := by omega
    rw [Int.compare_eq_eq.2 h, Int.compare_eq_eq.2 this]
  · rw [Int.compare_eq_gt.2 h, Int.compare_eq_gt.2 (h2.2 h)]
theorem cmp_N (s t : Bool) (a b : Nat) : compare (if s then -((NB 4503599627370496 a : Nat) : Int) else ((NB 4503599627370496 a : Nat) : Int)) (if t then -((NB 4503599627370496 b : Nat) : Int) else ((NB 4503599627370496 b : Nat) : Int)) = compare (if s then -(a : Int) else (a : Int)) (if t then -(b : Int) else (b : Int)) := by
  have z : NB 4503599627370496 0 = 0 := by decide
  have m : ∀ {i j : Nat}, i < j ↔ NB 4503599627370496 i < NB 4503599627370496 j := by
    intro i j
    refine ⟨NB_lt (by decide), fun h => ?_⟩
    rcases (by omega : i < j ∨ j ≤ i) with h1 | h1
    · exact h1
    · have := NB_le (B := 4503599627370496) (by decide) h1; omega
  have m1 := m (i := a) (j := b)
  have m2 := m (i := b) (j := a)
  have z1 := m (i := 0) (j := a)
  have z2 := m (i := 0) (j := b)
  rw [z] at z1 z2
  apply cmp_iff
  · cases s <;> cases t <;> simp only [Bool.false_eq_true, if_false, if_true] <;> omega
  · cases s <;> cases t <;> simp only [Bool.false_eq_true, if_false, if_true] <;> omega
theorem signed_up {s : Bool} {m i k N : Nat} (h : m * 2 ^ i = N) (hk : k ≤ i) : Ieee.signed s m (i - k) * 2 ^ k = if s then -(N : Int) else (N : Int) := by
  have e : ((m <<< (i - k) : Nat) : Int) * 2 ^ k = (N : Int) := by
    rw [Nat.shiftLeft_eq, ← h, Int.natCast_mul, Int.natCast_mul, Int.natCast_pow, Int.natCast_pow, Int.mul_assoc, show ((2 : Nat) : Int) = 2 from rfl, ← Int.pow_add, Nat.sub_add_cancel hk]
  unfold Ieee.signed
  cases s
  · simpa using e
  · simp only [if_true]; rw [Int.neg_mul, e]
theorem order_key {a b : Nat} (ha : a % 9223372036854775808 ≤ 9218868437227405312) (hb : b % 9223372036854775808 ≤ 9218868437227405312) : Ieee.double.order a b = some (compare (key a) (key b)) := by
  unfold Ieee.Format.order key
  by_cases h1 : a % 9223372036854775808 = 9218868437227405312
  · rw [rd_inf h1]
    by_cases h2 : b % 9223372036854775808 = 9218868437227405312
    · rw [rd_inf h2, h1, h2]
      cases (a / 9223372036854775808 % 2 == 1) <;> cases (b / 9223372036854775808 % 2 == 1) <;> rfl
    · obtain ⟨n, j, e2, -⟩ := rd_fin (b := b) (by omega)
      rw [e2, h1]
      simp only [Ieee.Datum.order]
      congr 1
      cases (a / 9223372036854775808 % 2 == 1) <;> cases (b / 9223372036854775808 % 2 == 1) <;> simp only [if_true, Bool.false_eq_true, if_false] <;> symm <;> first | (rw [Int.compare_eq_gt]; omega) | (rw [Int.compare_eq_lt]; omega)
  · obtain ⟨m, i, e1, f1⟩ := rd_fin (b := a) (by omega)
    rw [e1]
    by_cases h2 : b % 9223372036854775808 = 9218868437227405312
    · rw [rd_inf h2, h2]
      simp only [Ieee.Datum.order]
      congr 1
      cases (a / 9223372036854775808 % 2 == 1) <;> cases (b / 9223372036854775808 % 2 == 1) <;> simp only [if_true, Bool.false_eq_true, if_false] <;> symm <;> first | (rw [Int.compare_eq_gt]; omega) | (rw [Int.compare_eq_lt]; omega)
    · obtain ⟨n, j, e2, f2⟩ := rd_fin (b := b) (by omega)
      rw [e2]
      simp only [Ieee.Datum.order]
      congr 1
      rw [show ((-1074 : Int) + i - min (-1074 + (i : Int)) (-1074 + (j : Int))).toNat = i - min i j by omega, show ((-1074 : Int) + j - min (-1074 + (i : Int)) (-1074 + (j : Int))).toNat = j - min i j by omega]
      have c : (0 : Int) < 2 ^ min i j := Int.pow_pos (by decide)
      rw [← cmp_N, ← signed_up f1 (Nat.min_le_left i j), ← signed_up f2 (Nat.min_le_right i j)]
      exact cmp_iff (Int.mul_lt_mul_right c).symm (Int.mul_lt_mul_right c).symm
theorem fb_ok {z : Int} (h1 : -9218868437227405312 ≤ z) (h2 : z ≤ 9218868437227405312) : fb z % 9223372036854775808 ≤ 9218868437227405312 ∧ key (fb z) = z ∧ fb z < 18446744073709551616 := by
  unfold fb key
  split
  · refine ⟨by omega, ?_, by omega⟩
    rw [show ((-z).toNat + 9223372036854775808) / 9223372036854775808 = 1 by omega]
    simp only [show (1 % 2 == 1) = true from rfl, if_true]; omega
  · refine ⟨by omega, ?_, by omega⟩
    rw [show z.toNat / 9223372036854775808 = 0 by omega]
    simp only [show (0 % 2 == 1) = false from rfl, Bool.false_eq_true, if_false]; omega
theorem order_fb {x y : Int} (h1 : -9218868437227405312 ≤ x) (h2 : x ≤ 9218868437227405312) (h3 : -9218868437227405312 ≤ y) (h4 : y ≤ 9218868437227405312) : Ieee.double.order (fb x) (fb y) = some (compare x y) := by
  rw [order_key (fb_ok h1 h2).1 (fb_ok h3 h4).1, (fb_ok h1 h2).2.1, (fb_ok h3 h4).2.1]
end Go.Proofs.YtjlmboakeigmpaaDoor

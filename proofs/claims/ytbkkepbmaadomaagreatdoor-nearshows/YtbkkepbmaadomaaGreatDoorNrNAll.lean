import Derived.Test.YtbkkepbmaadomaaGreatDoorNrGAll
import Derived.Test.YtbkkepbmaadomaaGreatDoorCsAll
import Derived.Test.YtbkkepbmaadomaaGreatDoorNbA
import Derived.Test.YtbkkepbmaadomaaGreatDoorNrCAll
import Derived.Test.YtbkkepbmaadomaaGreatDoorR4All
namespace Go.Proofs.YtbkkepbmaadomaaGreatDoor
open Go.RowKit

/-- The boundaries of ranks told in blocks of B: the i-th one. -/
def sg4 (B i : Nat) : Nat := i / B - 1
def NB (B i : Nat) : Nat := (i - sg4 B i * B) * 2 ^ sg4 B i
theorem NB_of {B m s : Nat} (h : s = 0 ∧ m < 2 * B ∨ B ≤ m ∧ m < 2 * B) : sg4 B (s * B + m) = s ∧ NB B (s * B + m) = m * 2 ^ s := by
  have hB : 0 < B := by omega
  have e : sg4 B (s * B + m) = s := by
    unfold sg4
    rw [Nat.mul_comm s B, Nat.mul_add_div hB]
    rcases h with ⟨rfl, h⟩ | ⟨h, h'⟩
    · have : m / B < 2 := Nat.div_lt_of_lt_mul (by omega)
      omega
    · have : m / B < 2 := Nat.div_lt_of_lt_mul (by omega)
      have : 0 < m / B := Nat.div_pos h hB
      omega
  refine ⟨e, ?_⟩
  unfold NB
  rw [e, Nat.add_comm, Nat.add_sub_cancel]
theorem NB_at {B : Nat} (hB : 0 < B) (i : Nat) : ∃ m s, i = s * B + m ∧ (s = 0 ∧ m < 2 * B ∨ B ≤ m ∧ m < 2 * B) := by
  have h1 := Nat.div_add_mod i B
  have h2 := Nat.mod_lt i hB
  rcases Nat.eq_zero_or_pos (i / B) with h | h
  · have h3 := (Nat.div_eq_zero_iff_lt hB).1 h
    exact ⟨i, 0, by omega, .inl ⟨rfl, by omega⟩⟩
  · obtain ⟨s, hs⟩ : ∃ s, i / B = s + 1 := ⟨i / B - 1, by omega⟩
    refine ⟨B + i % B, s, ?_, .inr ⟨by omega, by omega⟩⟩
    rw [hs, Nat.mul_comm, Nat.succ_mul] at h1
    omega
theorem NB_succ {B : Nat} (hB : 0 < B) (i : Nat) : NB B (i + 1) = NB B i + 2 ^ sg4 B i := by
  obtain ⟨m, s, rfl, h⟩ := NB_at hB i
  obtain ⟨h1, h2⟩ := NB_of h
  rw [h1, h2]
  by_cases hm : m + 1 < 2 * B
  · have := (NB_of (B := B) (m := m + 1) (s := s) (by omega)).2
    rw [Nat.add_assoc, this, Nat.succ_mul]
  · have := (NB_of (B := B) (m := B) (s := s + 1) (by omega)).2
    rw [show s * B + m + 1 = (s + 1) * B + B by rw [Nat.succ_mul]; omega, this, show m = 2 * B - 1 by omega, ← Nat.succ_mul, show (2 * B - 1).succ = B * 2 by omega, Nat.pow_succ, Nat.mul_assoc, Nat.mul_comm 2]
theorem NB_lt {B i j : Nat} (hB : 0 < B) (h : i < j) : NB B i < NB B j := by
  induction j with
  | zero => omega
  | succ j ih =>
    have := Nat.two_pow_pos (sg4 B j)
    rw [NB_succ hB]
    rcases (by omega : i = j ∨ i < j) with rfl | h
    · omega
    · have := ih h; omega
theorem NB_le {B i j : Nat} (hB : 0 < B) (h : i ≤ j) : NB B i ≤ NB B j := by
  rcases (by omega : i = j ∨ i < j) with rfl | h
  · exact Nat.le_refl _
  · exact Nat.le_of_lt (NB_lt hB h)
theorem NB_two {B : Nat} (hB : 0 < B) (k : Nat) : NB (2 * B) (2 * k) = 2 * NB B k := by
  obtain ⟨m, s, rfl, h⟩ := NB_at hB k
  rw [(NB_of h).2, show 2 * (s * B + m) = s * (2 * B) + 2 * m by rw [Nat.mul_add, Nat.mul_left_comm], (NB_of (B := 2 * B) (m := 2 * m) (s := s) (by omega)).2, Nat.mul_assoc]
theorem cm1 (x E v : Int) : 2 * (x * E) * v = 2 * E * (x * v) := by ac_rfl
theorem cm2 (x g E : Int) : 2 * (x * g * E) = 2 * (x * E) * g := by ac_rfl
theorem cm3 (X c : Int) : 2 * (X * c) = X * 2 * c := by ac_rfl
theorem cm4 (h p y : Int) : h * p * y = h * (y * p) := by ac_rfl
theorem cm5 (k E y : Int) : 2 * (k * E) * y = 2 * (k * y * E) := by ac_rfl
theorem cm6 (b y v : Int) : b * y * v = b * v * y := by ac_rfl
/-- 2^1074 -/
def E4 : Int := 2 ^ 1074
theorem E4_pos : 0 < E4 := Int.pow_pos (by decide)
theorem E4_split {n s : Nat} (h : n + s = 1074) : (2 : Int) ^ n * 2 ^ s = E4 := by unfold E4; rw [← Int.pow_add, h]
/-- The boundaries: floats and the middles between them, in halves of 2^-1074. -/
def bnd (i : Nat) : Int := ((NB 9007199254740992 i : Nat) : Int)
theorem bnd_lt {i j : Nat} (h : i < j) : bnd i < bnd j := by have := NB_lt (B := 9007199254740992) (by decide) h; unfold bnd; omega
theorem bnd_le {i j : Nat} (h : i ≤ j) : bnd i ≤ bnd j := by have := NB_le (B := 9007199254740992) (by decide) h; unfold bnd; omega
theorem bnd_nn (i : Nat) : 0 ≤ bnd i := by unfold bnd; omega
/-- x by y stands at t: at the boundary of t / 2, or (odd) behind it. -/
def Ps (x y : Int) (t : Nat) : Prop := t ≤ 36875473748909621247 ∧ (t % 2 = 0 ∧ bnd (t / 2) * y = 2 * (x * E4) ∨ t % 2 = 1 ∧ bnd (t / 2) * y < 2 * (x * E4) ∧ (t = 36875473748909621247 ∨ 2 * (x * E4) < bnd (t / 2 + 1) * y))
theorem Ps.low {x y : Int} {t : Nat} (h : Ps x y t) : bnd (t / 2) * y ≤ 2 * (x * E4) := by
  obtain ⟨_, ⟨_, h⟩ | ⟨_, h, _⟩⟩ := h <;> omega
theorem Ps.mono {x y z v : Int} {t u : Nat} (h : Ps x y t) (k : Ps z v u) (hy : 0 < y) (hv : 0 < v) (hz : x * v ≤ z * y) : t ≤ u := by
  rcases (by omega : t ≤ u ∨ u < t) with hh | hh
  · exact hh
  exfalso
  have hE := E4_pos
  have c1 : 2 * (x * E4) * v ≤ 2 * (z * E4) * y := by
    have := Int.mul_le_mul_of_nonneg_left hz (show 0 ≤ 2 * E4 by omega)
    rwa [cm1, cm1]
  have hl := Int.mul_le_mul_of_nonneg_right h.low (Int.le_of_lt hv)
  obtain ⟨ht, h⟩ := h
  obtain ⟨hu, k⟩ := k
  rcases k with ⟨k0, k1⟩ | ⟨k0, k1, k2⟩
  · have e2 : 2 * (z * E4) * y = bnd (u / 2) * y * v := by rw [← k1]; exact cm6 _ _ _
    rcases (by omega : t / 2 = u / 2 ∨ u / 2 < t / 2) with e | e
    · rcases h with ⟨h0, h1⟩ | ⟨h0, h1, h2⟩
      · omega
      · have := Int.mul_lt_mul_of_pos_right h1 hv
        rw [e] at this
        omega
    · have := Int.mul_lt_mul_of_pos_right (Int.mul_lt_mul_of_pos_right (bnd_lt e) hy) hv
      omega
  · have k3 : 2 * (z * E4) < bnd (u / 2 + 1) * v := by omega
    have e2 := Int.mul_lt_mul_of_pos_right k3 hy
    have := Int.mul_le_mul_of_nonneg_right (Int.mul_le_mul_of_nonneg_right (bnd_le (show u / 2 + 1 ≤ t / 2 by omega)) (Int.le_of_lt hy)) (Int.le_of_lt hv)
    rw [cm6 (bnd (u / 2 + 1))] at e2
    have e3 : 2 * (z * E4) * y < bnd (u / 2 + 1) * y * v := e2
    clear e2
    omega
theorem Ps.uniq {x y : Int} {t u : Nat} (h : Ps x y t) (k : Ps x y u) (hy : 0 < y) : t = u :=
  Nat.le_antisymm (h.mono k hy hy (Int.le_refl _)) (k.mono h hy hy (Int.le_refl _))
/-- .. and it is a number's, not a telling's. -/
theorem Ps.scale {x y g : Int} {t : Nat} (hg : 0 < g) : Ps (x * g) (y * g) t ↔ Ps x y t := by
  unfold Ps
  have e : ∀ b : Int, b * (y * g) = b * y * g := fun b => (Int.mul_assoc b y g).symm
  rw [cm2, e, e, Int.mul_lt_mul_right hg, Int.mul_lt_mul_right hg, Int.mul_eq_mul_right_iff (by omega)]
/-- What the counting of halves tells. -/
theorem Ps.of {x y X Y c r : Int} {h s : Nat} (hc : 0 < c) (hX : X * c = x * E4) (hY : Y * c = y * 2 ^ s) (hh : s = 0 ∧ h < 2 * 9007199254740992 ∨ 9007199254740992 ≤ h ∧ h < 2 * 9007199254740992)
    (hq : X * 2 = h * Y + r) (hr : 0 ≤ r) (hr' : r < Y) (ht : s * 9007199254740992 + h < 18437736874454810624) : Ps x y (2 * (s * 9007199254740992 + h) + if r = 0 then 0 else 1) := by
  have e1 : bnd (s * 9007199254740992 + h) * y = h * Y * c := by
    unfold bnd; rw [(NB_of hh).2, Int.natCast_mul, Int.natCast_pow, cm4, Int.mul_assoc (h : Int) Y c, hY]; rfl
  have e2 : bnd (s * 9007199254740992 + h + 1) * y = (h * Y + Y) * c := by
    unfold bnd; rw [NB_succ (by decide), (NB_of hh).2, (NB_of hh).1, Int.natCast_add, Int.natCast_mul, Int.natCast_pow, Int.add_mul, cm4, Int.add_mul, Int.mul_assoc (h : Int) Y c, hY, Int.mul_comm ((2 : Nat) ^ s : Int) y]; rfl
  have e3 : 2 * (x * E4) = (h * Y + r) * c := by rw [← hX, ← hq]; exact cm3 _ _
  by_cases h0 : r = 0
  · rw [if_pos h0]
    refine ⟨by omega, .inl ⟨by omega, ?_⟩⟩
    rw [show (2 * (s * 9007199254740992 + h) + 0) / 2 = s * 9007199254740992 + h by omega, e1, e3, h0, Int.add_zero]
  · rw [if_neg h0]
    refine ⟨by omega, .inr ⟨by omega, ?_, .inr ?_⟩⟩
    · rw [show (2 * (s * 9007199254740992 + h) + 1) / 2 = s * 9007199254740992 + h by omega, e1, e3]
      exact Int.mul_lt_mul_of_pos_right (by omega) hc
    · rw [show (2 * (s * 9007199254740992 + h) + 1) / 2 = s * 9007199254740992 + h by omega, e2, e3]
      exact Int.mul_lt_mul_of_pos_right (by omega) hc
theorem Ps.last {x y : Int} {i : Nat} (hy : 0 < y) (hi : 18437736874454810624 ≤ i) (h : bnd i * y ≤ 2 * (x * E4)) : Ps x y 36875473748909621247 := by
  refine ⟨Nat.le_refl _, .inr ⟨by decide, ?_, .inl rfl⟩⟩
  have := Int.mul_lt_mul_of_pos_right (bnd_lt (show 36875473748909621247 / 2 < i by omega)) hy
  omega
theorem Ps.far {x y X Y c r : Int} {h s : Nat} (hy : 0 < y) (hc : 0 < c) (hX : X * c = x * E4) (hY : Y * c = y * 2 ^ s) (hh : s = 0 ∧ h < 2 * 9007199254740992 ∨ 9007199254740992 ≤ h ∧ h < 2 * 9007199254740992)
    (hq : X * 2 = h * Y + r) (hr : 0 ≤ r) (ht : 18437736874454810624 ≤ s * 9007199254740992 + h) : Ps x y 36875473748909621247 := by
  refine Ps.last hy ht ?_
  have e1 : bnd (s * 9007199254740992 + h) * y = h * Y * c := by
    unfold bnd; rw [(NB_of hh).2, Int.natCast_mul, Int.natCast_pow, cm4, Int.mul_assoc (h : Int) Y c, hY]; rfl
  have e3 : 2 * (x * E4) = (h * Y + r) * c := by rw [← hX, ← hq]; exact cm3 _ _
  rw [e1, e3]
  exact Int.mul_le_mul_of_nonneg_right (by omega) (Int.le_of_lt hc)
theorem bnd_gen (s : Nat) : bnd (s * 9007199254740992 + 9007199254740992) = 2 ^ (s + 53) := by
  have := (NB_of (B := 9007199254740992) (m := 9007199254740992) (s := s) (by omega)).2
  unfold bnd
  rw [this, Int.pow_add, Int.natCast_mul, Int.natCast_pow, Int.mul_comm]
  rfl
theorem pw_a (b n : Nat) : ((2 ^ (b + n) : Nat) : Int) = 2 ^ n * ((2 ^ b : Nat) : Int) := by
  rw [Nat.pow_add, Nat.mul_comm, Int.natCast_mul, Int.natCast_pow]; rfl
theorem pw_b (a b : Nat) : 2 * ((2 : Int) ^ a * 2 ^ b) = 2 ^ (a + b + 1) := by rw [← Int.pow_add, ← Int.pow_succ']
theorem bnd_inf : bnd 18437736874454810624 = 2 * (2 ^ 1024 * E4) :=
  (bnd_gen 2046).trans ((congrArg (fun n : Nat => (2 : Int) ^ n) (show 2046 + 53 = 1024 + 1074 + 1 from rfl)).trans (pw_b 1024 1074).symm)
theorem Ps.big {x y : Int} {a b : Nat} (hy : 0 < y) (hx : ((2 ^ a : Nat) : Int) ≤ x) (hyb : y < ((2 ^ b : Nat) : Int)) (h : b + 1024 ≤ a) : Ps x y 36875473748909621247 := by
  refine Ps.last hy (Nat.le_refl _) ?_
  rw [bnd_inf]
  have h1 : 2 ^ 1024 * y ≤ x := by
    have e : (2 ^ (b + 1024) : Nat) ≤ 2 ^ a := Nat.pow_le_pow_right (by decide) h
    have e2 := pw_a b 1024
    have e3 := Int.mul_le_mul_of_nonneg_left (Int.le_of_lt hyb) (show (0 : Int) ≤ 2 ^ 1024 from Int.le_of_lt (Int.pow_pos (by decide)))
    omega
  have := Int.mul_le_mul_of_nonneg_right h1 (Int.le_of_lt E4_pos)
  rw [cm5]
  omega

theorem h_lt {x y X Y c r C : Int} {h s : Nat} (hc : 0 < c) (hX : X * c = x * E4) (hY : Y * c = y * 2 ^ s) (hq : X * 2 = h * Y + r) (hr : 0 ≤ r) (hr' : r < Y) (hu : 2 * (x * E4) < C * (y * 2 ^ s)) : (h : Int) < C := by
  rw [← hX, ← hY, cm3, ← Int.mul_assoc] at hu
  have h1 := Int.lt_of_mul_lt_mul_right hu (Int.le_of_lt hc)
  exact Int.lt_of_mul_lt_mul_right (show (h : Int) * Y < C * Y by omega) (by omega)
theorem h_ge {x y X Y c r C : Int} {h s : Nat} (hc : 0 < c) (hX : X * c = x * E4) (hY : Y * c = y * 2 ^ s) (hq : X * 2 = h * Y + r) (hr : 0 ≤ r) (hr' : r < Y) (hu : C * (y * 2 ^ s) ≤ 2 * (x * E4)) : C ≤ (h : Int) := by
  rw [← hX, ← hY, cm3, ← Int.mul_assoc] at hu
  have h1 := Int.le_of_mul_le_mul_right hu hc
  have := Int.lt_of_mul_lt_mul_right (show C * Y < (h + 1) * Y by rw [Int.add_mul]; omega) (by omega)
  omega
theorem h_le {x y X Y c r C : Int} {h s : Nat} (hc : 0 < c) (hX : X * c = x * E4) (hY : Y * c = y * 2 ^ s) (hq : X * 2 = h * Y + r) (hr : 0 ≤ r) (hY0 : 0 < Y) (hu : C ≤ (h : Int)) : C * (y * 2 ^ s) ≤ 2 * (x * E4) := by
  rw [← hX, ← hY, cm3, ← Int.mul_assoc]
  refine Int.mul_le_mul_of_nonneg_right ?_ (Int.le_of_lt hc)
  have := Int.mul_le_mul_of_nonneg_right hu (Int.le_of_lt hY0)
  omega
theorem up0 {x y : Int} {a b s : Nat} (hx : x < ((2 ^ a : Nat) : Int)) (hy : ((2 ^ (b - 1) : Nat) : Int) ≤ y) (hb : 1 ≤ b) (h : a + 1021 ≤ b + s) : 2 * (x * E4) < 36028797018963968 * (y * 2 ^ s) := by
  have h1 := Int.mul_lt_mul_of_pos_right hx E4_pos
  have h2 := Int.mul_le_mul_of_nonneg_right hy (show (0 : Int) ≤ 2 ^ s from Int.le_of_lt (Int.pow_pos (by decide)))
  have h3 : 2 * (((2 ^ a : Nat) : Int) * E4) ≤ 36028797018963968 * (((2 ^ (b - 1) : Nat) : Int) * 2 ^ s) := by
    unfold E4
    rw [Int.natCast_pow, Int.natCast_pow, show ((2 : Nat) : Int) = 2 from rfl, ← Int.pow_add, ← Int.pow_add, ← Int.pow_succ', show (36028797018963968 : Int) = 2 ^ 55 by decide, ← Int.pow_add]
    have := Nat.pow_le_pow_right (show 0 < 2 by decide) (show a + 1074 + 1 ≤ 55 + (b - 1 + s) by omega)
    have h4 := Int.ofNat_le.2 this
    rwa [Int.natCast_pow, Int.natCast_pow] at h4
  omega
theorem lo0 {x y : Int} {a b s : Nat} (hx : ((2 ^ (a - 1) : Nat) : Int) ≤ x) (hy : y < ((2 ^ b : Nat) : Int)) (ha : 1 ≤ a) (h : b + s ≤ a + 1021) : 9007199254740992 * (y * 2 ^ s) ≤ 2 * (x * E4) := by
  have h1 := Int.mul_le_mul_of_nonneg_right hx (Int.le_of_lt E4_pos)
  have h2 := Int.mul_lt_mul_of_pos_right hy (show (0 : Int) < 2 ^ s from (Int.pow_pos (by decide)))
  have h3 : 9007199254740992 * (((2 ^ b : Nat) : Int) * 2 ^ s) ≤ 2 * (((2 ^ (a - 1) : Nat) : Int) * E4) := by
    unfold E4
    rw [Int.natCast_pow, Int.natCast_pow, show ((2 : Nat) : Int) = 2 from rfl, ← Int.pow_add, ← Int.pow_add, ← Int.pow_succ', show (9007199254740992 : Int) = 2 ^ 53 by decide, ← Int.pow_add]
    have := Nat.pow_le_pow_right (show 0 < 2 by decide) (show 53 + (b + s) ≤ a - 1 + 1074 + 1 by omega)
    have h4 := Int.ofNat_le.2 this
    rwa [Int.natCast_pow, Int.natCast_pow] at h4
  omega
theorem half_up {A y : Int} {s : Nat} : 2 * A * (y * 2 ^ s) = A * (y * 2 ^ (s + 1)) := by rw [Int.pow_succ]; ac_rfl
/-- A float's place in the row of all. -/
def key (b : Nat) : Int := if (b / 9223372036854775808 % 2 == 1) then -((b % 9223372036854775808 : Nat) : Int) else ((b % 9223372036854775808 : Nat) : Int)
def fb (z : Int) : Nat := if z < 0 then (-z).toNat + 9223372036854775808 else z.toNat
theorem rd_fin {b : Nat} (h : b % 9223372036854775808 < 9218868437227405312) : ∃ m i : Nat, Ieee.double.read b = .number (b / 9223372036854775808 % 2 == 1) m (-1074 + (i : Int)) ∧ m * 2 ^ i = NB 4503599627370496 (b % 9223372036854775808) := by
  rw [rd64]
  generalize (b / 9223372036854775808 % 2 == 1) = s
  generalize b % 9223372036854775808 = r at *
  by_cases h1 : r < 4503599627370496
  · refine ⟨r, 0, by rw [if_pos h1]; rfl, ?_⟩
    have := (NB_of (B := 4503599627370496) (m := r) (s := 0) (by omega)).2
    rw [Nat.zero_mul, Nat.zero_add] at this
    exact this.symm
  · refine ⟨4503599627370496 + r % 4503599627370496, r / 4503599627370496 - 1, by rw [if_neg h1, if_pos h], ?_⟩
    have := (NB_of (B := 4503599627370496) (m := 4503599627370496 + r % 4503599627370496) (s := r / 4503599627370496 - 1) (by omega)).2
    rw [← this]
    congr 1
    omega
theorem rd_inf {b : Nat} (h : b % 9223372036854775808 = 9218868437227405312) : Ieee.double.read b = .infinity (b / 9223372036854775808 % 2 == 1) := by
  rw [rd64, h]; rfl
theorem cmp_iff {a b c d : Int} (h1 : a < b ↔ c < d) (h2 : b < a ↔ d < c) : compare a b = compare c d := by
  rcases Int.lt_trichotomy c d with h | h | h
  · rw [Int.compare_eq_lt.2 h, Int.compare_eq_lt.2 (h1.2 h)]
  · have : a = b := by omega
    rw [Int.compare_eq_eq.2 h, Int.compare_eq_eq.2 this]
  · rw [Int.compare_eq_gt.2 h, Int.compare_eq_gt.2 (h2.2 h)]
theorem cmp_N (s t : Bool) (a b : Nat) : compare (if s then -((NB 4503599627370496 a : Nat) : Int) else ((NB 4503599627370496 a : Nat) : Int)) (if t then -((NB 4503599627370496 b : Nat) : Int) else ((NB 4503599627370496 b : Nat) : Int)) = compare (if s then -(a : Int) else (a : Int)) (if t then -(b : Int) else (b : Int)) := by
  have z : NB 4503599627370496 0 = 0 := by decide
  have m : ∀ {i j : Nat}, i < j ↔ NB 4503599627370496 i < NB 4503599627370496 j := by
    intro i j
    refine ⟨NB_lt (by decide), fun h => ?_⟩
    rcases (by omega : i < j ∨ j ≤ i) with h1 | h1
    · exact h1
    · have := NB_le (B := 4503599627370496) (by decide) h1; omega
  have m1 := m (i := a) (j := b)
  have m2 := m (i := b) (j := a)
  have z1 := m (i := 0) (j := a)
  have z2 := m (i := 0) (j := b)
  rw [z] at z1 z2
  apply cmp_iff
  · cases s <;> cases t <;> simp only [Bool.false_eq_true, if_false, if_true] <;> omega
  · cases s <;> cases t <;> simp only [Bool.false_eq_true, if_false, if_true] <;> omega
theorem signed_up {s : Bool} {m i k N : Nat} (h : m * 2 ^ i = N) (hk : k ≤ i) : Ieee.signed s m (i - k) * 2 ^ k = if s then -(N : Int) else (N : Int) := by
  have e : ((m <<< (i - k) : Nat) : Int) * 2 ^ k = (N : Int) := by
    rw [Nat.shiftLeft_eq, ← h, Int.natCast_mul, Int.natCast_mul, Int.natCast_pow, Int.natCast_pow, Int.mul_assoc, show ((2 : Nat) : Int) = 2 from rfl, ← Int.pow_add, Nat.sub_add_cancel hk]
  unfold Ieee.signed
  cases s
  · simpa using e
  · simp only [if_true]; rw [Int.neg_mul, e]
theorem order_key {a b : Nat} (ha : a % 9223372036854775808 ≤ 9218868437227405312) (hb : b % 9223372036854775808 ≤ 9218868437227405312) : Ieee.double.order a b = some (compare (key a) (key b)) := by
  unfold Ieee.Format.order key
  by_cases h1 : a % 9223372036854775808 = 9218868437227405312
  · rw [rd_inf h1]
    by_cases h2 : b % 9223372036854775808 = 9218868437227405312
    · rw [rd_inf h2, h1, h2]
      cases (a / 9223372036854775808 % 2 == 1) <;> cases (b / 9223372036854775808 % 2 == 1) <;> rfl
    · obtain ⟨n, j, e2, -⟩ := rd_fin (b := b) (by omega)
      rw [e2, h1]
      simp only [Ieee.Datum.order]
      congr 1
      cases (a / 9223372036854775808 % 2 == 1) <;> cases (b / 9223372036854775808 % 2 == 1) <;> simp only [if_true, Bool.false_eq_true, if_false] <;> symm <;> first | (rw [Int.compare_eq_gt]; omega) | (rw [Int.compare_eq_lt]; omega)
  · obtain ⟨m, i, e1, f1⟩ := rd_fin (b := a) (by omega)
    rw [e1]
    by_cases h2 : b % 9223372036854775808 = 9218868437227405312
    · rw [rd_inf h2, h2]
      simp only [Ieee.Datum.order]
      congr 1
      cases (a / 9223372036854775808 % 2 == 1) <;> cases (b / 9223372036854775808 % 2 == 1) <;> simp only [if_true, Bool.false_eq_true, if_false] <;> symm <;> first | (rw [Int.compare_eq_gt]; omega) | (rw [Int.compare_eq_lt]; omega)
    · obtain ⟨n, j, e2, f2⟩ := rd_fin (b := b) (by omega)
      rw [e2]
      simp only [Ieee.Datum.order]
      congr 1
      rw [show ((-1074 : Int) + i - min (-1074 + (i : Int)) (-1074 + (j : Int))).toNat = i - min i j by omega, show ((-1074 : Int) + j - min (-1074 + (i : Int)) (-1074 + (j : Int))).toNat = j - min i j by omega]
      have c : (0 : Int) < 2 ^ min i j := Int.pow_pos (by decide)
      rw [← cmp_N, ← signed_up f1 (Nat.min_le_left i j), ← signed_up f2 (Nat.min_le_right i j)]
      exact cmp_iff (Int.mul_lt_mul_right c).symm (Int.mul_lt_mul_right c).symm
theorem fb_ok {z : Int} (h1 : -9218868437227405312 ≤ z) (h2 : z ≤ 9218868437227405312) : fb z % 9223372036854775808 ≤ 9218868437227405312 ∧ key (fb z) = z ∧ fb z < 18446744073709551616 := by
  unfold fb key
  split
  · refine ⟨by omega, ?_, by omega⟩
    rw [show ((-z).toNat + 9223372036854775808) / 9223372036854775808 = 1 by omega]
    simp only [show (1 % 2 == 1) = true from rfl, if_true]; omega
  · refine ⟨by omega, ?_, by omega⟩
    rw [show z.toNat / 9223372036854775808 = 0 by omega]
    simp only [show (0 % 2 == 1) = false from rfl, Bool.false_eq_true, if_false]; omega
theorem order_fb {x y : Int} (h1 : -9218868437227405312 ≤ x) (h2 : x ≤ 9218868437227405312) (h3 : -9218868437227405312 ≤ y) (h4 : y ≤ 9218868437227405312) : Ieee.double.order (fb x) (fb y) = some (compare x y) := by
  rw [order_key (fb_ok h1 h2).1 (fb_ok h3 h4).1, (fb_ok h1 h2).2.1, (fb_ok h3 h4).2.1]
end Go.Proofs.YtbkkepbmaadomaaGreatDoor

namespace Go.Proofs.YtbkkepbmaadomaaGreatDoor
open Go.RowKit

theorem Num.upto {w : World} {a : Option Addr} {n cap : Nat} {x : Int} {S R : Nat} (h : Num w a n cap x S) (hS : S ≤ R) : Num w a n cap x R := by
  obtain ⟨xs, h1, h2, h3, h4, h5, h6⟩ := h
  exact ⟨xs, h1, h2, h3, h4, h5, by omega⟩
/-- near.count: the halves, and whether something is left. -/
theorem countQ {a b : Option Addr} {na nb ca cb : Nat} {x y r : Int} {S R : Nat} (h : Nat) (w : World) (ha : Num w a na ca x S) (hb : Num w b nb cb y R) (hS : S ≤ 9000000) (hR : R ≤ 9000000) (hy : 0 < y) (hq : x * 2 = h * y + r) (hr : 0 ≤ r) (hr' : r < y) (hk : h < 18446744073709551616) :
    Calls Tryz.prog 81 #[.slice a na ca, .slice b nb cb] w fun e w' => e = .returned (.tuple #[.int .u64 ((h / 2 : Nat) : Int), .int .i64 ((2 * (h % 2) + (if r = 0 then 0 else 1) : Nat) : Int)]) ∧ Below w.heap.size w w' := by
  have e0 : x * 2 ^ 1 = r + h * y := by rw [Int.pow_one, hq, Int.add_comm]
  have e1 : x * 2 ^ 1 / y = (h : Int) := by rw [e0, Int.add_mul_ediv_right _ _ (by omega), Int.ediv_eq_zero_of_lt hr hr', Int.zero_add]
  have e2 : x * 2 ^ 1 % y = r := by rw [e0, Int.add_mul_emod_self_right, Int.emod_eq_of_lt hr hr']
  by_cases h0 : r = 0
  · rw [if_pos h0]
    rcases (by omega : h % 2 = 1 ∨ h % 2 = 0) with ho | ho
    · rw [ho]; exact count10 h w ha hb hS hR hy e1 hk ho (by omega)
    · rw [ho]; exact count00 h w ha hb hS hR hy e1 hk ho (by omega)
  · rw [if_neg h0]
    rcases (by omega : h % 2 = 1 ∨ h % 2 = 0) with ho | ho
    · rw [ho]; exact count11 h w ha hb hS hR hy e1 hk ho (by omega)
    · rw [ho]; exact count01 h w ha hb hS hR hy e1 hk ho (by omega)
theorem sc_up {x : Int} {s : Nat} (h : s ≤ 1074) : x * 2 ^ (1074 - s) * 2 ^ s = x * E4 := by rw [Int.mul_assoc, E4_split (by omega)]
theorem sc_dn {y : Int} {s : Nat} (h : 1074 < s) : y * 2 ^ (s - 1074) * E4 = y * 2 ^ s := by
  unfold E4; rw [Int.mul_assoc, ← Int.pow_add, Nat.sub_add_cancel (by omega)]
/-- near.scale by twos, either way. -/
theorem scaleQ {z : Int} {a b : Option Addr} {na nb ca cb : Nat} {x y : Int} {S R : Nat} (s : Nat) (w : World) (hz : z = 1074 - (s : Int)) (ha : Num w a na ca x S) (hb : Num w b nb cb y R) (hS : S ≤ 8000000) (hR : R ≤ 8000000) (hs : s ≤ 3000) (hy : 0 < y) :
    Calls Tryz.prog 31 #[.slice a na ca, .slice b nb cb, .int .i64 z, .func (.func 33) #[] #[]] w fun e w' => ∃ a' na' ca' b' nb' cb' X Y c, e = .returned (.tuple #[.slice a' na' ca', .slice b' nb' cb']) ∧ Num w' a' na' ca' X (S + 1025) ∧ Num w' b' nb' cb' Y (R + 1025) ∧ 0 < c ∧ 0 < Y ∧ X * c = x * E4 ∧ Y * c = y * 2 ^ s ∧ Below w.heap.size w w' := by
  rcases (by omega : s ≤ 1074 ∨ 1074 < s) with h | h
  · refine (scaleUz (1074 - s) w (by omega) ha (by omega) (by omega)).mono ?_
    rintro e w1 ⟨c, m, k, rfl, G, hx⟩
    exact ⟨_, _, _, _, _, _, _, _, 2 ^ s, rfl, G.num, (hb.below hx).upto (by omega), Int.pow_pos (by decide), hy, sc_up h, rfl, hx⟩
  · refine (scaleDz (s - 1074) w (by omega) hb (by omega) (by omega) (by omega)).mono ?_
    rintro e w1 ⟨c, m, k, rfl, G, hx⟩
    exact ⟨_, _, _, _, _, _, _, _, E4, rfl, (ha.below hx).upto (by omega), G.num, E4_pos, Int.mul_pos hy (Int.pow_pos (by decide)), rfl, sc_dn h, hx⟩
end Go.Proofs.YtbkkepbmaadomaaGreatDoor

namespace Go.Proofs.YtbkkepbmaadomaaGreatDoor
open Go.RowKit

theorem bnd_zero : bnd 0 = 0 := by decide
theorem Ps.pos {x y : Int} {t : Nat} (h : Ps x y t) (hx : 0 < x) : 0 < t := by
  rcases Nat.eq_zero_or_pos t with rfl | h0
  · obtain ⟨_, ⟨_, h⟩ | ⟨h, _⟩⟩ := h
    · rw [show 0 / 2 = 0 from rfl, bnd_zero, Int.zero_mul] at h
      have := Int.mul_pos hx E4_pos
      omega
    · simp at h
  · exact h0
theorem Ps.ex1 {y Z : Int} (hZ : 0 ≤ Z) (n : Nat) : (∃ i, i ≤ n ∧ bnd i * y ≤ Z ∧ Z < bnd (i + 1) * y) ∨ bnd (n + 1) * y ≤ Z := by
  induction n with
  | zero =>
    rcases Int.lt_or_le Z (bnd (0 + 1) * y) with h | h
    · exact .inl ⟨0, Nat.le_refl _, by rw [bnd_zero, Int.zero_mul]; exact hZ, h⟩
    · exact .inr h
  | succ n ih =>
    rcases ih with ⟨i, h1, h2⟩ | h
    · exact .inl ⟨i, by omega, h2⟩
    · rcases Int.lt_or_le Z (bnd (n + 1 + 1) * y) with h' | h'
      · exact .inl ⟨n + 1, Nat.le_refl _, h, h'⟩
      · exact .inr h'
theorem Ps.ex {x y : Int} (hx : 0 ≤ x) (hy : 0 < y) : ∃ t, Ps x y t := by
  have hZ : 0 ≤ 2 * (x * E4) := by have := Int.mul_nonneg hx (Int.le_of_lt E4_pos); omega
  rcases Ps.ex1 (y := y) hZ 18437736874454810623 with ⟨i, h1, h2, h3⟩ | h
  · by_cases e : bnd i * y = 2 * (x * E4)
    · exact ⟨2 * i, by omega, .inl ⟨by omega, by rw [Nat.mul_div_cancel_left _ (by decide)]; exact e⟩⟩
    · refine ⟨2 * i + 1, by omega, .inr ⟨by omega, ?_, .inr ?_⟩⟩
      · rw [show (2 * i + 1) / 2 = i by omega]; omega
      · rw [show (2 * i + 1) / 2 = i by omega]; exact h3
  · exact ⟨_, Ps.last hy (Nat.le_refl _) h⟩
/-- A fraction's place among floats and middles. -/
def Pz (r : Rat) (z : Int) : Prop := (r.num = 0 ∧ z = 0) ∨ (0 < r.num ∧ 0 < z ∧ Ps r.num r.den z.toNat) ∨ (r.num < 0 ∧ z < 0 ∧ Ps (-r.num) r.den (-z).toNat)
theorem den_pos (r : Rat) : (0 : Int) < r.den := by have := r.den_pos; omega
theorem Pz.ex (r : Rat) : ∃ z, Pz r z := by
  rcases Int.lt_trichotomy r.num 0 with h | h | h
  · obtain ⟨t, ht⟩ := Ps.ex (x := -r.num) (by omega) (den_pos r)
    have := ht.pos (by omega)
    exact ⟨-(t : Int), .inr (.inr ⟨h, by omega, by rw [Int.neg_neg, Int.toNat_natCast]; exact ht⟩)⟩
  · exact ⟨0, .inl ⟨h, rfl⟩⟩
  · obtain ⟨t, ht⟩ := Ps.ex (x := r.num) (by omega) (den_pos r)
    have := ht.pos (by omega)
    exact ⟨(t : Int), .inr (.inl ⟨h, by omega, by rw [Int.toNat_natCast]; exact ht⟩)⟩
theorem Pz.mono {r s : Rat} {y z : Int} (h : Pz r y) (k : Pz s z) (hrs : r.num * s.den ≤ s.num * r.den) : y ≤ z := by
  have d1 := den_pos r
  have d2 := den_pos s
  rcases h with ⟨h1, rfl⟩ | ⟨h1, h2, h3⟩ | ⟨h1, h2, h3⟩ <;> rcases k with ⟨k1, rfl⟩ | ⟨k1, k2, k3⟩ | ⟨k1, k2, k3⟩
  · omega
  · omega
  · rw [h1, Int.zero_mul] at hrs; have := Int.mul_neg_of_neg_of_pos k1 d1; omega
  · rw [k1, Int.zero_mul] at hrs; have := Int.mul_pos h1 d2; omega
  · have := h3.mono k3 d1 d2 hrs; omega
  · have := Int.mul_pos h1 d2; have := Int.mul_neg_of_neg_of_pos k1 d1; omega
  · omega
  · omega
  · have := k3.mono h3 d2 d1 (by rw [Int.neg_mul, Int.neg_mul]; omega); omega
theorem Pz.uniq {r : Rat} {y z : Int} (h : Pz r y) (k : Pz r z) : y = z := Int.le_antisymm (h.mono k (Int.le_refl _)) (k.mono h (Int.le_refl _))
theorem Pz.bnd {r : Rat} {z : Int} (h : Pz r z) : -36875473748909621247 ≤ z ∧ z ≤ 36875473748909621247 := by
  rcases h with ⟨_, rfl⟩ | ⟨_, _, h, _⟩ | ⟨_, _, h, _⟩ <;> omega
def dnz (z : Int) : Int := z / 4
def upz (z : Int) : Int := -((-z) / 4)
def nrz (t : Nat) : Nat := (t + 1 + t / 4 % 2) / 4
def flz (z : Int) : Int := if z < 0 then -((nrz (-z).toNat : Nat) : Int) else ((nrz z.toNat : Nat) : Int)
def sdz (z : Int) : Int := if z % 4 = 0 then 0 else if flz z = upz z then 1 else -1
theorem dnz_mono {y z : Int} (h : y ≤ z) : dnz y ≤ dnz z := by unfold dnz; omega
theorem upz_mono {y z : Int} (h : y ≤ z) : upz y ≤ upz z := by unfold upz; omega
theorem nrz_mono {y z : Nat} (h : y ≤ z) : nrz y ≤ nrz z := by
  rcases (by omega : y / 4 = z / 4 ∨ y / 4 + 1 ≤ z / 4) with e | e
  · unfold nrz; rw [e]; omega
  · have : nrz y ≤ y / 4 + 1 := by unfold nrz; omega
    have : z / 4 ≤ nrz z := by unfold nrz; omega
    omega
theorem flz_mono {y z : Int} (h : y ≤ z) : flz y ≤ flz z := by
  unfold flz
  split <;> split
  · have := nrz_mono (show (-z).toNat ≤ (-y).toNat by omega); omega
  · omega
  · omega
  · have := nrz_mono (show y.toNat ≤ z.toNat by omega); omega
theorem Pz.dn {r : Rat} {z : Int} (h : Pz r z) : -9218868437227405312 ≤ dnz z ∧ dnz z ≤ 9218868437227405312 := by have := h.bnd; unfold dnz; omega
theorem Pz.up {r : Rat} {z : Int} (h : Pz r z) : -9218868437227405312 ≤ upz z ∧ upz z ≤ 9218868437227405312 := by have := h.bnd; unfold upz; omega
theorem flz_or (z : Int) : flz z = dnz z ∨ flz z = upz z := by unfold flz dnz upz nrz; split <;> omega
theorem Pz.fl {r : Rat} {z : Int} (h : Pz r z) : -9218868437227405312 ≤ flz z ∧ flz z ≤ 9218868437227405312 := by
  rcases flz_or z with e | e <;> rw [e]
  · exact h.dn
  · exact h.up
end Go.Proofs.YtbkkepbmaadomaaGreatDoor

namespace Go.Proofs.YtbkkepbmaadomaaGreatDoor
open Go.RowKit

theorem joinQ {z : Int} (m s : Nat) (w : World) (hz : z = (s : Int) - 1074) (hm : m < 9007199254740992) (hs : s ≤ 2046) : Calls Tryz.prog 124 #[.int .u64 (m : Int), .int .i64 z] w fun e w' => e = .returned (.int .u64 ((s * 4503599627370496 + m : Nat) : Int)) ∧ w' = w := by
  subst hz
  have w1 : wrap64 (s : Int) = (s : Int) := by unfold wrap64; omega
  have w2 : IntKind.u64.wrap (s : Int) = (s : Int) := by rw [IntKind.wrap_u64]; omega
  have w3 : IntKind.u64.wrap ((s : Int) * 4503599627370496) = (s : Int) * 4503599627370496 := by rw [IntKind.wrap_u64]; omega
  have w4 : IntKind.u64.wrap ((s : Int) * 4503599627370496 + (m : Int)) = (s : Int) * 4503599627370496 + (m : Int) := by rw [IntKind.wrap_u64]; omega
  have w5 : ((s * 4503599627370496 + m : Nat) : Int) = (s : Int) * 4503599627370496 + (m : Int) := by omega
  rw [w5]
  clear hm hs w5
  go_enter Tryz.func124, Tryz.ntmps124
  go_wp2
  go_ret
  exact ⟨by simp, rfl⟩
theorem dm {X Y : Int} (hX : 0 ≤ X) (hY : 0 < Y) : ∃ (h : Nat) (r : Int), X * 2 = h * Y + r ∧ 0 ≤ r ∧ r < Y := by
  obtain ⟨h, hh⟩ := Int.eq_ofNat_of_zero_le (Int.ediv_nonneg (show 0 ≤ X * 2 by omega) (Int.le_of_lt hY))
  refine ⟨h, X * 2 % Y, ?_, Int.emod_nonneg _ (by omega), Int.emod_lt_of_pos _ hY⟩
  rw [← hh, Int.mul_comm (X * 2 / Y)]
  exact (Int.mul_ediv_add_emod _ _).symm
theorem jn (s h : Nat) : s * 4503599627370496 + h / 2 = (s * 9007199254740992 + h) / 2 ∧ h % 2 = (s * 9007199254740992 + h) % 2 := by omega
/-- 2 x E4 below C y 2^s -/
def HiB (C x y : Int) (s : Nat) : Prop := 2 * (x * E4) < C * (y * 2 ^ s)
def LoB (x y : Int) (s : Nat) : Prop := s = 0 ∨ 9007199254740992 * (y * 2 ^ s) ≤ 2 * (x * E4)
def Cn (x y X Y : Int) (s : Nat) : Prop := ∃ c, 0 < c ∧ X * c = x * E4 ∧ Y * c = y * 2 ^ s
def Dm (X Y : Int) (h : Nat) (r : Int) : Prop := X * 2 = h * Y + r ∧ 0 ≤ r ∧ r < Y
theorem Cn.lt {C x y X Y r : Int} {s h : Nat} (H : Cn x y X Y s) (D : Dm X Y h r) (U : HiB C x y s) : (h : Int) < C := by
  obtain ⟨c, h1, h2, h3⟩ := H; exact h_lt h1 h2 h3 D.1 D.2.1 D.2.2 U
theorem Cn.can {x y X Y r : Int} {s h : Nat} (H : Cn x y X Y s) (D : Dm X Y h r) (L : LoB x y s) (hm : h < 18014398509481984) : s = 0 ∧ h < 2 * 9007199254740992 ∨ 9007199254740992 ≤ h ∧ h < 2 * 9007199254740992 := by
  obtain ⟨c, h1, h2, h3⟩ := H
  rcases L with L | L
  · exact .inl ⟨L, by omega⟩
  · have := h_ge h1 h2 h3 D.1 D.2.1 D.2.2 L
    exact .inr ⟨by omega, by omega⟩
def Out (x y : Int) (i j : Nat) : Prop := j ≤ 1 ∧ (i < 18437736874454810624 → Ps x y (2 * i + j)) ∧ (18437736874454810624 ≤ i → Ps x y 36875473748909621247)
theorem Cn.out {x y X Y r : Int} {s h : Nat} (H : Cn x y X Y s) (D : Dm X Y h r) (hy : 0 < y) (L : LoB x y s) (hm : h < 18014398509481984) : Out x y (s * 9007199254740992 + h) (if r = 0 then 0 else 1) := by
  have hh := H.can D L hm
  obtain ⟨c, h1, h2, h3⟩ := H
  exact ⟨by split <;> omega, fun ht => Ps.of h1 h2 h3 hh D.1 D.2.1 D.2.2 ht, fun ht => Ps.far hy h1 h2 h3 hh D.1 D.2.1 ht⟩
theorem Cn.next {x y X Y r : Int} {s h : Nat} (H : Cn x y X Y s) (D : Dm X Y h r) (hY : 0 < Y) (hm : ¬ h < 18014398509481984) : LoB x y (s + 1) := by
  obtain ⟨c, h1, h2, h3⟩ := H
  right
  rw [← half_up]
  exact h_le (C := 18014398509481984) h1 h2 h3 D.1 D.2.1 hY (by omega)
theorem HiB.next {x y : Int} {s : Nat} (U : HiB 36028797018963968 x y s) : HiB 18014398509481984 x y (s + 1) := by
  unfold HiB; rw [← half_up]; exact U
theorem HiB.up {x y : Int} {s : Nat} (hy : 0 < y) (U : HiB 18014398509481984 x y s) : HiB 36028797018963968 x y s := by
  unfold HiB at *
  have : 0 < y * 2 ^ s := Int.mul_pos hy (Int.pow_pos (by decide))
  omega
set_option maxRecDepth 100000 in
set_option maxHeartbeats 1000000 in
/-- near.rankOfSize: at most two rounds. -/
theorem rankS {z : Int} {a b : Option Addr} {na nb ca cb : Nat} {x y : Int} {S R : Nat} (bx bY : Nat) (w : World) (ha : Num w a na ca x S) (hb : Num w b nb cb y R) (hS : S ≤ 6000000) (hR : R ≤ 6000000) (hy : 0 < y)
    (hz : z = (bx : Int) - (bY : Int)) (hz1 : z ≤ 1024) (hz2 : -1000000000 ≤ z) (b1 : 1 ≤ bx) (b2 : 1 ≤ bY) (x1 : ((2 ^ (bx - 1) : Nat) : Int) ≤ x) (x2 : x < ((2 ^ bx : Nat) : Int)) (y1 : ((2 ^ (bY - 1) : Nat) : Int) ≤ y) (y2 : y < ((2 ^ bY : Nat) : Int)) :
    Calls Tryz.prog 104 #[.slice a na ca, .slice b nb cb, .int .i64 z] w fun e w' => ∃ i j : Nat, e = .returned (.tuple #[.int .u64 ((i / 2 : Nat) : Int), .int .i64 ((2 * (i % 2) + j : Nat) : Int)]) ∧ Out x y i j ∧ Below w.heap.size w w' := by
  obtain ⟨s0, hs0⟩ : ∃ s0 : Nat, max (z - 53) (-1074) = (s0 : Int) - 1074 := ⟨(max (z - 53) (-1074) + 1074).toNat, by omega⟩
  have hs1 : s0 ≤ 2045 := by omega
  have U0 : HiB 36028797018963968 x y s0 := up0 x2 y1 b2 (by omega)
  have L0 : LoB x y s0 := by
    rcases Nat.eq_zero_or_pos s0 with h | h
    · exact .inl h
    · exact .inr (lo0 x1 y2 b1 (by omega))
  have w1 : IntKind.i64.wrap (z - 53) = z - 53 := by rw [IntKind.wrap_i64]; omega
  clear x1 x2 y1 y2 b1 b2 hz
  go_enter Tryz.func104, Tryz.ntmps104
  go_wp2
  go_loopw [8] (fun v wr => ∃ s j : Nat, j ≤ 1 ∧ s = s0 + j ∧ v = .int .i64 ((s : Int) - 1074) ∧ HiB 36028797018963968 x y s ∧ (j = 1 → HiB 18014398509481984 x y s) ∧ LoB x y s ∧ Below w.heap.size w wr) (fun v _ => ((s0 : Int) + 1 - (intOf v + 1074)).toNat)
  case atStart => exact ⟨s0, 0, by omega, rfl, by rw [← hs0], U0, (fun h => absurd h (by decide)), L0, Below.refl _ _⟩
  case round =>
    obtain ⟨s, j, hj, hs, rfl, U, U2, L, hbw⟩ := hrel
    have HS : Hid (s = s0 + j) := hs
    have hs2 : s ≤ 2046 := by omega
    clear hs
    have ha' := ha.below hbw
    have hb' := hb.below hbw
    have w2 : IntKind.i64.wrap (-((s : Int) - 1074)) = 1074 - (s : Int) := by rw [IntKind.wrap_i64]; omega
    have w3 : IntKind.i64.wrap ((s : Int) - 1074 + 1) = (s : Int) - 1073 := by rw [IntKind.wrap_i64]; omega
    clear ha hb
    go_wp2_with fail
    refine (scaleQ s _ (by omega) ha' hb' (by omega) (by omega) (by omega) hy).mono ?_
    rintro e v1 ⟨a1, na1, ca1, b1, nb1, cb1, X, Y, c, rfl, N1, N2, hc, hY0, hX, hY, hx⟩
    have HC : Cn x y X Y s := ⟨c, hc, hX, hY⟩
    obtain ⟨h, r, hq⟩ := dm N1.nn hY0
    have HD : Dm X Y h r := hq
    have l1 := HC.lt HD U
    have hbw1 := bel_tr hbw hx
    clear hx ha' hb' hX hY hq hc
    go_wp2_with fail
    refine (countQ h _ N1 N2 (by omega) (by omega) hY0 HD.1 HD.2.1 HD.2.2 (by omega)).mono ?_
    rintro e v2 ⟨rfl, hx⟩
    replace hbw1 := bel_tr hbw1 hx
    clear hx N1 N2
    by_cases hm : h < 18014398509481984
    · have hsh : ((h / 2 : Nat) : Int) / 9007199254740992 = 0 := by omega
      have HO := HC.out HD hy L hm
      generalize (if r = 0 then 0 else 1) = jj at *
      clear L U U2 l1 HC HD
      have hh2 : h / 2 < 9007199254740992 := by omega
      rw [(jn s h).2]
      obtain ⟨pp, hpp⟩ : ∃ pp : Int, ((2 * ((s * 9007199254740992 + h) % 2) + jj : Nat) : Int) = pp := ⟨_, rfl⟩
      have HPP : Hid (((2 * ((s * 9007199254740992 + h) % 2) + jj : Nat) : Int) = pp) := hpp
      obtain ⟨m, hm2⟩ : ∃ m, h / 2 = m := ⟨_, rfl⟩
      have HM : Hid (h / 2 = m) := hm2
      rw [hm2] at hsh hh2 ⊢
      rw [hpp]
      clear hm hpp hm2
      go_wp2_with fail
      refine (joinQ m s _ rfl hh2 (by omega)).mono ?_
      rintro e v3 ⟨rfl, rfl⟩
      rw [← HM.out, (jn s h).1, ← HPP.out]
      generalize s * 9007199254740992 + h = i at *
      obtain ⟨i2, hi2⟩ : ∃ i2 : Int, ((i / 2 : Nat) : Int) = i2 := ⟨_, rfl⟩
      obtain ⟨i3, hi3⟩ : ∃ i3 : Int, ((2 * (i % 2) + jj : Nat) : Int) = i3 := ⟨_, rfl⟩
      have HI2 : Hid (((i / 2 : Nat) : Int) = i2) := hi2
      have HI3 : Hid (((2 * (i % 2) + jj : Nat) : Int) = i3) := hi3
      rw [hi2, hi3]
      clear hi2 hi3 HM HPP
      go_wp2
      go_ret2
      exact ⟨i, jj, by rw [HI2.out, HI3.out]; rfl, HO, hbw1⟩
    · have hsh : ¬ ((h / 2 : Nat) : Int) / 9007199254740992 = 0 := by omega
      have j0 : j = 0 := by
        rcases (by omega : j = 0 ∨ j = 1) with h1 | h1
        · exact h1
        · have := HC.lt HD (U2 h1); omega
      have G1 := HC.next HD hY0 hm
      have G2 := U.next
      have G3 := G2.up hy
      generalize ((2 * (h % 2) + (if r = 0 then 0 else 1) : Nat) : Int) = jj at *
      generalize ((h / 2 : Nat) : Int) = hh at *
      clear U U2 L l1 HC HD hm
      go_wp2
      go_roundw
      case rel => exact ⟨s + 1, 1, by omega, by have := HS.out; omega, by first | (congr 1; omega) | (congr 2; omega), G3, fun _ => G2, G1, hbw1⟩
      case measure => have := HS.out; simp [intOf]; omega
theorem last4 : ((36875473748909621247 / 4 : Nat) : Int) = 9218868437227405311 := by decide
theorem last3 : ((36875473748909621247 % 4 : Nat) : Int) = 3 := by decide
theorem bits_le {t S : Nat} {x : Int} (h : ((2 ^ (t - 1) : Nat) : Int) ≤ x) (hx : x < pw S) : t ≤ 64 * S + 1 := by
  rw [pwN] at hx
  have h1 : 2 ^ (t - 1) < 2 ^ (64 * S) := by omega
  have := (Nat.pow_lt_pow_iff_right (show 1 < 2 by decide)).1 h1
  omega
set_option maxRecDepth 100000 in
set_option maxHeartbeats 4000000 in
/-- near.rankBelow -/
theorem belowQ {a b : Option Addr} {na nb ca cb : Nat} {x y : Int} {S R : Nat} (t : Nat) (w : World) (ha : Num w a na ca x S) (hb : Num w b nb cb y R) (hS : S ≤ 6000000) (hR : R ≤ 6000000) (hx0 : 0 < x) (hy : 0 < y) (hP : Ps x y t) :
    Calls Tryz.prog 72 #[.slice a na ca, .slice b nb cb] w fun e w' => e = .returned (.tuple #[.int .u64 ((t / 4 : Nat) : Int), .int .i64 ((t % 4 : Nat) : Int)]) ∧ Below w.heap.size w w' := by
  have px := ha.below_pw
  have py := hb.below_pw
  go_enter Tryz.func72, Tryz.ntmps72
  go_wp2_with fail
  refine (bitsN _ ha (by omega)).mono ?_
  rintro e w1 ⟨bx, rfl, h1, hx⟩
  have b1 : 0 < bx ∧ ((2 ^ (bx - 1) : Nat) : Int) ≤ x ∧ x < ((2 ^ bx : Nat) : Int) := by
    rcases h1 with ⟨_, h⟩ | h
    · omega
    · exact h
  clear h1
  replace ha := ha.below hx
  replace hb := hb.below hx
  have hb0 := hx
  clear hx
  go_wp2_with fail
  refine (bitsN _ hb (by omega)).mono ?_
  rintro e w2 ⟨bY, rfl, h1, hx⟩
  have b2 : 0 < bY ∧ ((2 ^ (bY - 1) : Nat) : Int) ≤ y ∧ y < ((2 ^ bY : Nat) : Int) := by
    rcases h1 with ⟨_, h⟩ | h
    · omega
    · exact h
  clear h1
  replace ha := ha.below hx
  replace hb := hb.below hx
  replace hb0 := bel_tr hb0 hx
  clear hx
  have l1 := bits_le b1.2.1 px
  have l2 := bits_le b2.2.1 py
  have w1' : IntKind.i64.wrap ((bx : Int) - (bY : Int)) = (bx : Int) - (bY : Int) := by rw [IntKind.wrap_i64]; omega
  by_cases hz : (bx : Int) - (bY : Int) ≤ 1024
  · go_wp2_with fail
    refine (rankS bx bY _ ha hb hS hR hy rfl hz (by omega) (by omega) (by omega) b1.2.1 b1.2.2 b2.2.1 b2.2.2).mono ?_
    rintro e w3 ⟨i, j, rfl, ⟨hj, H1, H2⟩, hx⟩
    replace hb0 := bel_tr hb0 hx
    clear hx ha hb b1 b2 px py
    by_cases hi : i < 18437736874454810624
    · have hc : ((i / 2 : Nat) : Int) < 9218868437227405312 := by omega
      obtain rfl := hP.uniq (H1 hi) hy
      have e1 : i / 2 = (2 * i + j) / 4 := by omega
      have e2 : 2 * (i % 2) + j = (2 * i + j) % 4 := by omega
      obtain ⟨r4, h4⟩ : ∃ r4 : Int, ((i / 2 : Nat) : Int) = r4 := ⟨_, rfl⟩
      obtain ⟨p4, h5⟩ : ∃ p4 : Int, ((2 * (i % 2) + j : Nat) : Int) = p4 := ⟨_, rfl⟩
      have H4 : Hid ((((2 * i + j) / 4 : Nat) : Int) = r4) := by show _ = _; rw [← h4, e1]
      have H5 : Hid ((((2 * i + j) % 4 : Nat) : Int) = p4) := by show _ = _; rw [← h5, e2]
      rw [h4] at hc ⊢
      rw [h5]
      clear hz w1' H1 H2 e1 e2 h4 h5
      go_wp2
      go_ret2
      exact ⟨by rw [H4.out, H5.out]; rfl, hb0⟩
    · have hc : ¬ ((i / 2 : Nat) : Int) < 9218868437227405312 := by omega
      obtain rfl := hP.uniq (H2 (by omega)) hy
      generalize ((2 * (i % 2) + j : Nat) : Int) = jj at *
      generalize ((i / 2 : Nat) : Int) = ii at *
      clear hz w1' H1 H2
      go_wp2
      go_ret2
      exact ⟨by rw [last4, last3]; rfl, hb0⟩
  · obtain rfl := hP.uniq (Ps.big (a := bx - 1) (b := bY) hy b1.2.1 b2.2.2 (by omega)) hy
    clear ha hb b1 b2 px py
    go_wp2
    go_ret2
    exact ⟨by rw [last4, last3]; rfl, hb0⟩
end Go.Proofs.YtbkkepbmaadomaaGreatDoor

namespace Go.Proofs.YtbkkepbmaadomaaGreatDoor
open Go.RowKit

theorem Pz.ps {r : Rat} {z : Int} (h : Pz r z) (h0 : r.num ≠ 0) : Ps (r.num.natAbs : Int) r.den z.natAbs := by
  rcases h with ⟨h1, _⟩ | ⟨h1, h2, h3⟩ | ⟨h1, h2, h3⟩
  · exact absurd h1 h0
  · rwa [show (r.num.natAbs : Int) = r.num by omega, show z.natAbs = z.toNat by omega]
  · rwa [show (r.num.natAbs : Int) = -r.num by omega, show z.natAbs = (-z).toNat by omega]
theorem Pz.sign {r : Rat} {z : Int} (h : Pz r z) : r.num.sign = z.sign := by
  rcases h with ⟨h1, h2⟩ | ⟨h1, h2, h3⟩ | ⟨h1, h2, h3⟩
  · rw [h1, h2]
  · rw [Int.sign_eq_one_of_pos h1, Int.sign_eq_one_of_pos h2]
  · rw [Int.sign_eq_neg_one_of_neg h1, Int.sign_eq_neg_one_of_neg h2]
theorem tr_parts {w : World} {p : Bool} {a : Option Addr} {na ca : Nat} {d : Option Addr} {nd cd : Nat} {r : Rat} {S : Nat} (h : TR w p a na ca d nd cd r S) (h0 : r.num ≠ 0) :
    ∃ m k g : Int, Num w a na ca m S ∧ Num w d nd cd k S ∧ 0 < m ∧ 0 < k ∧ 0 < g ∧ m = (r.num.natAbs : Int) * g ∧ k = (r.den : Int) * g := by
  obtain ⟨x, k, ⟨m, hm, rfl⟩, hk, rfl⟩ := h
  have hm0 := hm.nn
  have hk0 := hk.nn
  have hk1 : 0 < k := by
    rcases (by omega : k = 0 ∨ 0 < k) with rfl | h
    · exact absurd (by rw [Rat.divInt_zero]; rfl) h0
    · exact h
  have hm1 : 0 < m := by
    rcases (by omega : m = 0 ∨ 0 < m) with rfl | h
    · exact absurd (by rw [ws_zero, Rat.zero_divInt]; rfl) h0
    · exact h
  have e1 := low_num p false hm0 hk1
  have e2 := low_den p false hm0 hk1
  have e3 : ws false k = k := rfl
  rw [e3] at e1 e2
  have g0 : 0 < Nat.gcd m.toNat k.toNat := Nat.gcd_pos_of_pos_right _ (by omega)
  have d1 : ((Nat.gcd m.toNat k.toNat : Nat) : Int) ∣ m := by have := Int.ofNat_dvd.2 (Nat.gcd_dvd_left m.toNat k.toNat); rwa [Int.toNat_of_nonneg hm0] at this
  have d2 : ((Nat.gcd m.toNat k.toNat : Nat) : Int) ∣ k := by have := Int.ofNat_dvd.2 (Nat.gcd_dvd_right m.toNat k.toNat); rwa [Int.toNat_of_nonneg hk0] at this
  generalize Nat.gcd m.toNat k.toNat = g at *
  refine ⟨m, k, g, hm, hk, hm1, hk1, by omega, ?_, ?_⟩
  · have h1 : 0 ≤ m / (g : Int) := Int.ediv_nonneg hm0 (by omega)
    have h2 : (((Rat.divInt (ws p m) k).num.natAbs : Nat) : Int) = m / (g : Int) := by
      rw [e1]; unfold ws; split <;> omega
    rw [h2, Int.ediv_mul_cancel d1]
  · rw [e2, Int.ediv_mul_cancel d2]
theorem belowV {k4 p4 : Int} {a b : Option Addr} {na nb ca cb : Nat} {x y : Int} {S R : Nat} (t : Nat) (w : World) (ha : Num w a na ca x S) (hb : Num w b nb cb y R) (hS : S ≤ 6000000) (hR : R ≤ 6000000) (hx0 : 0 < x) (hy : 0 < y) (hP : Ps x y t) (hk : ((t / 4 : Nat) : Int) = k4) (hp : ((t % 4 : Nat) : Int) = p4) :
    Calls Tryz.prog 72 #[.slice a na ca, .slice b nb cb] w fun e w' => e = .returned (.tuple #[.int .u64 k4, .int .i64 p4]) ∧ Below w.heap.size w w' := by
  subst hk; subst hp; exact belowQ t w ha hb hS hR hx0 hy hP
/-- What find tells of z. -/
def Pt (z sg k4 p4 : Int) : Prop := z.sign = sg ∧ ((z.natAbs / 4 : Nat) : Int) = k4 ∧ ((z.natAbs % 4 : Nat) : Int) = p4
set_option maxRecDepth 100000 in
set_option maxHeartbeats 1000000 in
/-- near.find -/
theorem findQ {sg k4 p4 : Int} {p : Bool} {a b : Option Addr} {na nb ca cb : Nat} {r : Rat} {S : Nat} (z : Int) (w : World) (hr : TR w p a na ca b nb cb r S) (hS : S ≤ 6000000) (hS1 : 1 ≤ S) (hP : Pz r z) (hQ : Pt z sg k4 p4) :
    Calls Tryz.prog 37 #[.agg #[.bool p, .slice a na ca, .slice b nb cb]] w fun e w' => e = .returned (.tuple #[.int .i64 sg, .int .u64 k4, .int .i64 p4]) ∧ Below w.heap.size w w' := by
  have P0 := var3_new w (.bool p) (.slice a na ca) (.slice b nb cb) 35
  have hb0 := bel_d0 w (.cells #[.bool p, .slice a na ca, .slice b nb cb] 35)
  replace hr := hr.below hb0
  obtain ⟨c0, c1, c2, c3, c4, c5⟩ := id P0
  go_enter Tryz.func37, Tryz.ntmps37
  go_wp2_with fail
  generalize w.alloc (.cells #[.bool p, .slice a na ca, .slice b nb cb] 35) = W0 at *
  refine (rsignB sg _ hr (by omega) (by omega) (hQ.1.symm.trans hP.sign.symm)).mono ?_
  rintro e w1 ⟨rfl, hx⟩
  replace hr := hr.below hx
  replace P0 := P0.below hx
  replace hb0 := bel_tr hb0 hx
  clear hx c0 c1 c2 c3 c4 c5
  obtain ⟨c0, c1, c2, c3, c4, c5⟩ := id P0
  by_cases h0 : r.num = 0
  · have hz : z = 0 := by
      rcases hP with ⟨_, h⟩ | ⟨h, _⟩ | ⟨h, _⟩ <;> first | exact h | omega
    subst hz
    obtain ⟨q1, q2, q3⟩ := hQ
    obtain rfl : sg = 0 := q1.symm
    obtain rfl : k4 = 0 := q2.symm
    obtain rfl : p4 = 0 := q3.symm
    clear hr P0 c0 c1 c2 c3 c4 c5 hP q1 q2 q3
    go_wp2
    refine bodyPost_ret (v := .tuple #[.int .i64 0, .int .u64 0, .int .i64 0]) (by simp [results, Tryz.results37, go_sem]) rfl ⟨rfl, hb0⟩
  · obtain ⟨m, k, g, hm, hk, hm0, hk0, hg, em, ek⟩ := tr_parts hr h0
    have hPs : Ps m k z.natAbs := by rw [em, ek]; exact (Ps.scale hg).2 (hP.ps h0)
    have hsg : ¬ sg = 0 := by rw [← hQ.1, ← hP.sign, Int.sign_eq_zero_iff_zero]; exact h0
    clear hr hP em ek hg
    go_wp2_with fail
    refine (belowV z.natAbs _ hm hk hS hS hm0 hk0 hPs hQ.2.1 hQ.2.2).mono ?_
    rintro e w2 ⟨rfl, hx⟩
    replace hb0 := bel_tr hb0 hx
    clear hx c0 c1 c2 c3 c4 c5 hm hk P0 hPs hQ
    go_wp2
    refine bodyPost_ret (v := .tuple #[.int .i64 sg, .int .u64 k4, .int .i64 p4]) (by simp [results, Tryz.results37, go_sem]) rfl ⟨rfl, hb0⟩
theorem ranked0 (w : World) : Calls Tryz.prog 36 #[.int .i64 0, .int .u64 0] w fun e w' => e = .returned (.float .f64 0) ∧ w' = w := by
  have HB := fun u => ext_from 0 u
  go_enter Tryz.func36, Tryz.ntmps36
  go_wp2
  go_ret
  exact ⟨rfl, rfl⟩
theorem rankedV {k4 s : Int} {F : Nat} (w : World) (h0 : 0 ≤ k4) (h1 : k4 ≤ 9218868437227405312) (hs : s = 1 ∨ s = -1 ∨ s = 0 ∧ k4 = 0) (hF : fb (s * k4) = F) : Calls Tryz.prog 36 #[.int .i64 s, .int .u64 k4] w fun e w' => e = .returned (.float .f64 F) ∧ w' = w := by
  subst hF
  obtain ⟨k, rfl⟩ := Int.eq_ofNat_of_zero_le h0
  rcases hs with rfl | rfl | ⟨rfl, hk⟩
  · have := rankedP (k : Int) w
    rw [show ((k : Int)).toNat = fb (1 * (k : Int)) by unfold fb; rw [if_neg (by omega)]; omega] at this
    exact this
  · rcases Nat.eq_zero_or_pos k with rfl | h
    · exact rankedN0 w
    · have := rankedN k w h (by omega)
      rw [show k + 9223372036854775808 = fb (-1 * (k : Int)) by unfold fb; rw [if_pos (by omega)]; omega] at this
      exact this
  · obtain rfl : k = 0 := by omega
    exact ranked0 w
theorem nearerA (k : Nat) (w : World) : Calls Tryz.prog 38 #[.int .u64 (k : Int), .int .i64 0] w fun e w' => e = .returned (.int .u64 (k : Int)) ∧ w' = w := by
  go_enter Tryz.func38, Tryz.ntmps38
  go_wp2
  go_ret
  exact ⟨rfl, rfl⟩
theorem nearerB (k : Nat) (w : World) : Calls Tryz.prog 38 #[.int .u64 (k : Int), .int .i64 1] w fun e w' => e = .returned (.int .u64 (k : Int)) ∧ w' = w := by
  go_enter Tryz.func38, Tryz.ntmps38
  go_wp2
  go_ret
  exact ⟨rfl, rfl⟩
theorem nearerC (k : Nat) (w : World) (h : (k : Int) % 2 = 0) : Calls Tryz.prog 38 #[.int .u64 (k : Int), .int .i64 2] w fun e w' => e = .returned (.int .u64 (k : Int)) ∧ w' = w := by
  go_enter Tryz.func38, Tryz.ntmps38
  go_wp2
  go_ret
  exact ⟨rfl, rfl⟩
theorem nearerD (k : Nat) (w : World) (h : (k : Int) % 2 = 1) (hk : k < 9223372036854775808) : Calls Tryz.prog 38 #[.int .u64 (k : Int), .int .i64 2] w fun e w' => e = .returned (.int .u64 ((k : Int) + 1)) ∧ w' = w := by
  have h1 : IntKind.u64.wrap ((k : Int) + 1) = (k : Int) + 1 := by rw [IntKind.wrap_u64]; omega
  clear hk
  go_enter Tryz.func38, Tryz.ntmps38
  go_wp2
  go_ret
  exact ⟨by simp, rfl⟩
theorem nearerQ (t : Nat) (w : World) (ht : t ≤ 36875473748909621247) : Calls Tryz.prog 38 #[.int .u64 ((t / 4 : Nat) : Int), .int .i64 ((t % 4 : Nat) : Int)] w fun e w' => e = .returned (.int .u64 ((nrz t : Nat) : Int)) ∧ w' = w := by
  have h3 := Nat.div_add_mod t 4
  rcases (by omega : t % 4 = 0 ∨ t % 4 = 1 ∨ t % 4 = 2 ∨ t % 4 = 3) with h | h | h | h
  · rw [h, show nrz t = t / 4 by unfold nrz; omega]; exact nearerA _ w
  · rw [h, show nrz t = t / 4 by unfold nrz; omega]; exact nearerB _ w
  · rcases (by omega : t / 4 % 2 = 0 ∨ t / 4 % 2 = 1) with ho | ho
    · rw [h, show nrz t = t / 4 by unfold nrz; omega]; exact nearerC _ w (by omega)
    · rw [h, show nrz t = t / 4 + 1 by unfold nrz; omega]; exact nearerD _ w (by omega) (by omega)
  · rw [h, show nrz t = t / 4 + 1 by unfold nrz; omega]; exact nearer3 _ w (by omega)
theorem nearerV {k4 p4 n4 : Int} (t : Nat) (w : World) (ht : t ≤ 36875473748909621247) (hk : ((t / 4 : Nat) : Int) = k4) (hp : ((t % 4 : Nat) : Int) = p4) (hn : ((nrz t : Nat) : Int) = n4) : Calls Tryz.prog 38 #[.int .u64 k4, .int .i64 p4] w fun e w' => e = .returned (.int .u64 n4) ∧ w' = w := by
  subst hk; subst hp; subst hn; exact nearerQ t w ht
theorem sign3 (z : Int) : z.sign = 1 ∧ 0 < z ∨ z.sign = -1 ∧ z < 0 ∨ z.sign = 0 ∧ z = 0 := by
  rcases Int.lt_trichotomy z 0 with h | h | h
  · exact .inr (.inl ⟨Int.sign_eq_neg_one_of_neg h, h⟩)
  · exact .inr (.inr ⟨by rw [h]; rfl, h⟩)
  · exact .inl ⟨Int.sign_eq_one_of_pos h, h⟩
theorem Pt.ok {z sg k4 p4 : Int} (h : Pt z sg k4 p4) (h1 : -36875473748909621247 ≤ z) (h2 : z ≤ 36875473748909621247) : 0 ≤ k4 ∧ k4 ≤ 9218868437227405311 ∧ 0 ≤ p4 ∧ p4 ≤ 3 ∧ (sg = 1 ∨ sg = -1 ∨ sg = 0 ∧ k4 = 0 ∧ p4 = 0) := by
  obtain ⟨e1, e2, e3⟩ := h
  rcases sign3 z with ⟨e, h⟩ | ⟨e, h⟩ | ⟨e, h⟩ <;> omega
theorem Pt.flA {z sg k4 p4 : Int} (h : Pt z sg k4 p4) (hp : p4 = 0) : sg * k4 = flz z ∧ sdz z = 0 ∧ sg * k4 = dnz z ∧ sg * k4 = upz z := by
  obtain ⟨e1, e2, e3⟩ := h
  have hs3 := sign3 z
  rw [e1] at hs3
  have e4 : ((nrz z.natAbs : Nat) : Int) = k4 := by unfold nrz; omega
  refine ⟨?_, by unfold sdz; rw [if_pos (by omega)], ?_, ?_⟩
  · unfold flz
    rcases hs3 with ⟨rfl, h⟩ | ⟨rfl, h⟩ | ⟨rfl, h⟩
    · rw [if_neg (by omega), show z.toNat = z.natAbs by omega, e4]; omega
    · rw [if_pos h, show (-z).toNat = z.natAbs by omega, e4]; omega
    · subst h; rw [Int.zero_mul]; rfl
  · unfold dnz; rcases hs3 with ⟨rfl, h⟩ | ⟨rfl, h⟩ | ⟨rfl, h⟩ <;> omega
  · unfold upz; rcases hs3 with ⟨rfl, h⟩ | ⟨rfl, h⟩ | ⟨rfl, h⟩ <;> omega
theorem Pt.flB {z sg k4 p4 n4 : Int} (h : Pt z sg k4 p4) (hp : ¬ p4 = 0) (hn : ((nrz z.natAbs : Nat) : Int) = n4) : sg * n4 = flz z ∧ (n4 = k4 → sdz z = -sg) ∧ (¬ n4 = k4 → n4 = k4 + 1 ∧ sdz z = sg) ∧ (sg = 1 ∨ sg = -1) := by
  obtain ⟨e1, e2, e3⟩ := h
  have hs3 := sign3 z
  rw [e1] at hs3
  have hfl : sg * n4 = flz z := by
    unfold flz
    rcases hs3 with ⟨rfl, h⟩ | ⟨rfl, h⟩ | ⟨rfl, h⟩
    · rw [if_neg (by omega), show z.toNat = z.natAbs by omega, hn]; omega
    · rw [if_pos h, show (-z).toNat = z.natAbs by omega, hn]; omega
    · subst h; exact absurd e3.symm hp
  have h1 : n4 = k4 ∨ n4 = k4 + 1 := by unfold nrz at hn; omega
  refine ⟨hfl, ?_, ?_, by omega⟩
  · intro e
    unfold sdz upz
    rw [if_neg (by omega), ← hfl, e]
    rcases hs3 with ⟨rfl, h⟩ | ⟨rfl, h⟩ | ⟨rfl, h⟩ <;> split <;> omega
  · intro e
    refine ⟨by omega, ?_⟩
    unfold sdz upz
    rw [if_neg (by omega), ← hfl, show n4 = k4 + 1 by omega]
    rcases hs3 with ⟨rfl, h⟩ | ⟨rfl, h⟩ | ⟨rfl, h⟩ <;> split <;> omega
set_option maxRecDepth 100000 in
set_option maxHeartbeats 1000000 in
/-- near.Float -/
theorem floatQ {F : Nat} {D : Int} {p : Bool} {a b : Option Addr} {na nb ca cb : Nat} {r : Rat} {S : Nat} (z : Int) (w : World) (hr : TR w p a na ca b nb cb r S) (hS : S ≤ 6000000) (hS1 : 1 ≤ S) (hP : Pz r z) (hF : fb (flz z) = F) (hD : sdz z = D) :
    Calls Tryz.prog 13 #[.agg #[.bool p, .slice a na ca, .slice b nb cb]] w fun e w' => e = .returned (.tuple #[.float .f64 F, .int .i64 D]) ∧ Below w.heap.size w w' := by
  obtain ⟨sg, k4, p4, n4, hQ, hN⟩ : ∃ sg k4 p4 n4, Pt z sg k4 p4 ∧ Hid (((nrz z.natAbs : Nat) : Int) = n4) := ⟨_, _, _, _, ⟨rfl, rfl, rfl⟩, rfl⟩
  have HF : Hid (fb (flz z) = F) := hF
  have HD : Hid (sdz z = D) := hD
  have P0 := var3_new w (.bool p) (.slice a na ca) (.slice b nb cb) 35
  have hb0 := bel_d0 w (.cells #[.bool p, .slice a na ca, .slice b nb cb] 35)
  replace hr := hr.below hb0
  obtain ⟨c0, c1, c2, c3, c4, c5⟩ := id P0
  clear hF hD
  go_enter Tryz.func13, Tryz.ntmps13
  go_wp2_with fail
  generalize w.alloc (.cells #[.bool p, .slice a na ca, .slice b nb cb] 35) = W0 at *
  refine (findQ z _ hr hS hS1 hP hQ).mono ?_
  rintro e w1 ⟨rfl, hx⟩
  replace hb0 := bel_tr hb0 hx
  have hB := hP.bnd
  have hO := hQ.ok hB.1 hB.2
  clear hx c0 c1 c2 c3 c4 c5 hr P0 hP
  go_wp2_with fail
  refine (nearerV z.natAbs _ (by omega) hQ.2.1 hQ.2.2 hN.out).mono ?_
  rintro e w2 ⟨rfl, rfl⟩
  clear hB
  by_cases h4 : p4 = 0
  · have HA := hQ.flA h4
    obtain rfl : D = 0 := HD.out.symm.trans HA.2.1
    have HFF : Hid (fb (sg * k4) = F) := by show _ = _; rw [HA.1]; exact HF.out
    subst h4
    clear HA hQ hN HF HD
    go_wp2_with fail
    refine (rankedV _ hO.1 (by omega) (by omega) HFF.out).mono ?_
    rintro e w3 ⟨rfl, rfl⟩
    go_wp2
    go_ret2
    exact ⟨rfl, hb0⟩
  · have HA := hQ.flB h4 hN.out
    have HFF : Hid (fb (sg * n4) = F) := by show _ = _; rw [HA.1]; exact HF.out
    have hs := HA.2.2.2
    have hn0 : 0 ≤ n4 ∧ n4 ≤ 9218868437227405312 := by
      by_cases e : n4 = k4
      · omega
      · have := (HA.2.2.1 e).1; omega
    by_cases hn : n4 = k4
    · obtain rfl : D = -sg := HD.out.symm.trans (HA.2.1 hn)
      have wn : IntKind.i64.wrap (-sg) = -sg := by rw [IntKind.wrap_i64]; omega
      subst hn
      clear HA hQ hN HF HD
      go_wp2_with fail
      refine (rankedV _ hn0.1 hn0.2 (by omega) HFF.out).mono ?_
      rintro e w3 ⟨rfl, rfl⟩
      go_wp2
      go_ret2
      exact ⟨rfl, hb0⟩
    · obtain rfl : D = sg := HD.out.symm.trans (HA.2.2.1 hn).2
      clear HA hQ hN HF HD
      go_wp2_with fail
      refine (rankedV _ hn0.1 hn0.2 (by omega) HFF.out).mono ?_
      rintro e w3 ⟨rfl, rfl⟩
      go_wp2
      go_ret2
      exact ⟨rfl, hb0⟩
theorem Pt.dn {z sg k4 p4 : Int} (h : Pt z sg k4 p4) (hp : ¬ p4 = 0) : (sg = -1 → sg * (k4 + 1) = dnz z) ∧ (¬ sg = -1 → sg * k4 = dnz z) ∧ (sg = 1 → sg * (k4 + 1) = upz z) ∧ (¬ sg = 1 → sg * k4 = upz z) := by
  obtain ⟨e1, e2, e3⟩ := h
  have hs3 := sign3 z
  rw [e1] at hs3
  unfold dnz upz
  rcases hs3 with ⟨rfl, h⟩ | ⟨rfl, h⟩ | ⟨rfl, h⟩
  · refine ⟨?_, ?_, ?_, ?_⟩ <;> omega
  · refine ⟨?_, ?_, ?_, ?_⟩ <;> omega
  · subst h; exact absurd e3.symm hp
set_option maxRecDepth 100000 in
set_option maxHeartbeats 1000000 in
theorem downS {F : Nat} {p : Bool} {a b : Option Addr} {na nb ca cb : Nat} {r : Rat} {S : Nat} (z : Int) (w : World) (hr : TR w p a na ca b nb cb r S) (hS : S ≤ 6000000) (hS1 : 1 ≤ S) (hP : Pz r z) (hF : fb (dnz z) = F) :
    Calls Tryz.prog 40 #[.agg #[.bool p, .slice a na ca, .slice b nb cb], .int .i64 (-1)] w fun e w' => e = .returned (.float .f64 F) ∧ Below w.heap.size w w' := by
  obtain ⟨sg, k4, p4, hQ⟩ : ∃ sg k4 p4, Pt z sg k4 p4 := ⟨_, _, _, ⟨rfl, rfl, rfl⟩⟩
  have HF : Hid (fb (dnz z) = F) := hF
  have P0 := var3_new w (.bool p) (.slice a na ca) (.slice b nb cb) 35
  have hb0 := bel_d0 w (.cells #[.bool p, .slice a na ca, .slice b nb cb] 35)
  replace hr := hr.below hb0
  obtain ⟨c0, c1, c2, c3, c4, c5⟩ := id P0
  clear hF
  go_enter Tryz.func40, Tryz.ntmps40
  go_wp2_with fail
  generalize w.alloc (.cells #[.bool p, .slice a na ca, .slice b nb cb] 35) = W0 at *
  refine (findQ z _ hr hS hS1 hP hQ).mono ?_
  rintro e w1 ⟨rfl, hx⟩
  replace hb0 := bel_tr hb0 hx
  have hB := hP.bnd
  have hO := hQ.ok hB.1 hB.2
  clear hx c0 c1 c2 c3 c4 c5 hr P0 hP hB
  by_cases h4 : p4 = 0
  · have HFF : Hid (fb (sg * k4) = F) := by show _ = _; rw [(hQ.flA h4).2.2.1]; exact HF.out
    subst h4
    clear hQ HF
    go_wp2_with fail
    refine (rankedV _ hO.1 (by omega) (by omega) HFF.out).mono ?_
    rintro e w3 ⟨rfl, rfl⟩
    go_wp2
    go_ret
    exact ⟨rfl, hb0⟩
  · have HD := hQ.dn h4
    by_cases hd : sg = -1
    · obtain ⟨k5, h5⟩ : ∃ k5, k4 + 1 = k5 := ⟨_, rfl⟩
      have HFF : Hid (fb (sg * k5) = F) := by show _ = _; rw [← h5, HD.1 hd]; exact HF.out
      have wk : IntKind.u64.wrap (k4 + 1) = k5 := by rw [IntKind.wrap_u64]; omega
      have hk5 : 0 ≤ k5 ∧ k5 ≤ 9218868437227405312 := by omega
      clear h5
      subst hd
      clear hQ HF HD
      go_wp2_with fail
      refine (rankedV _ hk5.1 hk5.2 (by omega) HFF.out).mono ?_
      rintro e w3 ⟨rfl, rfl⟩
      go_wp2
      go_ret
      exact ⟨rfl, hb0⟩
    · have HFF : Hid (fb (sg * k4) = F) := by show _ = _; rw [HD.2.1 hd]; exact HF.out
      obtain rfl : sg = 1 := by omega
      clear hQ HF HD hd
      go_wp2_with fail
      refine (rankedV _ hO.1 (by omega) (by omega) HFF.out).mono ?_
      rintro e w3 ⟨rfl, rfl⟩
      go_wp2
      go_ret
      exact ⟨rfl, hb0⟩
set_option maxRecDepth 100000 in
set_option maxHeartbeats 1000000 in
/-- near.Down -/
theorem downQ {F : Nat} {p : Bool} {a b : Option Addr} {na nb ca cb : Nat} {r : Rat} {S : Nat} (z : Int) (w : World) (hr : TR w p a na ca b nb cb r S) (hS : S ≤ 6000000) (hS1 : 1 ≤ S) (hP : Pz r z) (hF : fb (dnz z) = F) :
    Calls Tryz.prog 15 #[.agg #[.bool p, .slice a na ca, .slice b nb cb]] w fun e w' => e = .returned (.float .f64 F) ∧ Below w.heap.size w w' := by
  have P0 := var3_new w (.bool p) (.slice a na ca) (.slice b nb cb) 35
  have hb0 := bel_d0 w (.cells #[.bool p, .slice a na ca, .slice b nb cb] 35)
  replace hr := hr.below hb0
  obtain ⟨c0, c1, c2, c3, c4, c5⟩ := id P0
  have HF : Hid (fb (dnz z) = F) := hF
  clear hF
  go_enter Tryz.func15, Tryz.ntmps15
  go_wp2_with fail
  generalize w.alloc (.cells #[.bool p, .slice a na ca, .slice b nb cb] 35) = W0 at *
  refine (downS z _ hr hS hS1 hP HF.out).mono ?_
  rintro e w1 ⟨rfl, hx⟩
  replace hb0 := bel_tr hb0 hx
  clear hx c0 c1 c2 c3 c4 c5 hr P0 hP
  go_wp2
  go_ret
  exact ⟨rfl, hb0⟩
set_option maxRecDepth 100000 in
set_option maxHeartbeats 1000000 in
theorem upS {F : Nat} {p : Bool} {a b : Option Addr} {na nb ca cb : Nat} {r : Rat} {S : Nat} (z : Int) (w : World) (hr : TR w p a na ca b nb cb r S) (hS : S ≤ 6000000) (hS1 : 1 ≤ S) (hP : Pz r z) (hF : fb (upz z) = F) :
    Calls Tryz.prog 40 #[.agg #[.bool p, .slice a na ca, .slice b nb cb], .int .i64 (1)] w fun e w' => e = .returned (.float .f64 F) ∧ Below w.heap.size w w' := by
  obtain ⟨sg, k4, p4, hQ⟩ : ∃ sg k4 p4, Pt z sg k4 p4 := ⟨_, _, _, ⟨rfl, rfl, rfl⟩⟩
  have HF : Hid (fb (upz z) = F) := hF
  have P0 := var3_new w (.bool p) (.slice a na ca) (.slice b nb cb) 35
  have hb0 := bel_d0 w (.cells #[.bool p, .slice a na ca, .slice b nb cb] 35)
  replace hr := hr.below hb0
  obtain ⟨c0, c1, c2, c3, c4, c5⟩ := id P0
  clear hF
  go_enter Tryz.func40, Tryz.ntmps40
  go_wp2_with fail
  generalize w.alloc (.cells #[.bool p, .slice a na ca, .slice b nb cb] 35) = W0 at *
  refine (findQ z _ hr hS hS1 hP hQ).mono ?_
  rintro e w1 ⟨rfl, hx⟩
  replace hb0 := bel_tr hb0 hx
  have hB := hP.bnd
  have hO := hQ.ok hB.1 hB.2
  clear hx c0 c1 c2 c3 c4 c5 hr P0 hP hB
  by_cases h4 : p4 = 0
  · have HFF : Hid (fb (sg * k4) = F) := by show _ = _; rw [(hQ.flA h4).2.2.2]; exact HF.out
    subst h4
    clear hQ HF
    go_wp2_with fail
    refine (rankedV _ hO.1 (by omega) (by omega) HFF.out).mono ?_
    rintro e w3 ⟨rfl, rfl⟩
    go_wp2
    go_ret
    exact ⟨rfl, hb0⟩
  · have HD := hQ.dn h4
    by_cases hd : sg = 1
    · obtain ⟨k5, h5⟩ : ∃ k5, k4 + 1 = k5 := ⟨_, rfl⟩
      have HFF : Hid (fb (sg * k5) = F) := by show _ = _; rw [← h5, HD.2.2.1 hd]; exact HF.out
      have wk : IntKind.u64.wrap (k4 + 1) = k5 := by rw [IntKind.wrap_u64]; omega
      have hk5 : 0 ≤ k5 ∧ k5 ≤ 9218868437227405312 := by omega
      clear h5
      subst hd
      clear hQ HF HD
      go_wp2_with fail
      refine (rankedV _ hk5.1 hk5.2 (by omega) HFF.out).mono ?_
      rintro e w3 ⟨rfl, rfl⟩
      go_wp2
      go_ret
      exact ⟨rfl, hb0⟩
    · have HFF : Hid (fb (sg * k4) = F) := by show _ = _; rw [HD.2.2.2 hd]; exact HF.out
      obtain rfl : sg = -1 := by omega
      clear hQ HF HD hd
      go_wp2_with fail
      refine (rankedV _ hO.1 (by omega) (by omega) HFF.out).mono ?_
      rintro e w3 ⟨rfl, rfl⟩
      go_wp2
      go_ret
      exact ⟨rfl, hb0⟩
set_option maxRecDepth 100000 in
set_option maxHeartbeats 1000000 in
/-- near.Up -/
theorem upQ {F : Nat} {p : Bool} {a b : Option Addr} {na nb ca cb : Nat} {r : Rat} {S : Nat} (z : Int) (w : World) (hr : TR w p a na ca b nb cb r S) (hS : S ≤ 6000000) (hS1 : 1 ≤ S) (hP : Pz r z) (hF : fb (upz z) = F) :
    Calls Tryz.prog 16 #[.agg #[.bool p, .slice a na ca, .slice b nb cb]] w fun e w' => e = .returned (.float .f64 F) ∧ Below w.heap.size w w' := by
  have P0 := var3_new w (.bool p) (.slice a na ca) (.slice b nb cb) 35
  have hb0 := bel_d0 w (.cells #[.bool p, .slice a na ca, .slice b nb cb] 35)
  replace hr := hr.below hb0
  obtain ⟨c0, c1, c2, c3, c4, c5⟩ := id P0
  have HF : Hid (fb (upz z) = F) := hF
  clear hF
  go_enter Tryz.func16, Tryz.ntmps16
  go_wp2_with fail
  generalize w.alloc (.cells #[.bool p, .slice a na ca, .slice b nb cb] 35) = W0 at *
  refine (upS z _ hr hS hS1 hP HF.out).mono ?_
  rintro e w1 ⟨rfl, hx⟩
  replace hb0 := bel_tr hb0 hx
  clear hx c0 c1 c2 c3 c4 c5 hr P0 hP
  go_wp2
  go_ret
  exact ⟨rfl, hb0⟩
end Go.Proofs.YtbkkepbmaadomaaGreatDoor

namespace Go.Proofs.YtbkkepbmaadomaaGreatDoor
open Go.RowKit

set_option maxRecDepth 100000 in
set_option maxHeartbeats 1000000 in
/-- near.Read of what is a literal -/
theorem readOk {F : Nat} {s : ByteArray} {r : Rat} {S : Nat} (z : Int) (w : World) (HP : Parses s r S w) (hS : S ≤ 5000000) (hP : Pz r z) (hF : fb (flz z) = F) :
    Calls Tryz.prog 14 #[.string s] w fun e w' => e = .returned (.tuple #[.float .f64 F, .nilIface]) ∧ Below w.heap.size w w' := by
  have HF : Hid (fb (flz z) = F) := hF
  clear hF
  go_enter Tryz.func14, Tryz.ntmps14
  go_wp2_with fail
  refine HP.mono ?_
  rintro e w1 ⟨f, c, n, k, c', n', k', rfl, G, hb0⟩
  clear HP
  have V := var3_new w1 (.bool f) (.slice c n k) (.slice c' n' k') 35
  have hx := bel_d0 w1 (.cells #[.bool f, .slice c n k, .slice c' n' k'] 35)
  replace G := G.below hx
  replace hb0 := bel_tr hb0 hx
  clear hx
  obtain ⟨c0, c1, c2, c3, c4, c5⟩ := id V
  go_wp2_with fail
  generalize w1.alloc (.cells #[.bool f, .slice c n k, .slice c' n' k'] 35) = w2 at *
  refine (floatQ (S := S + 1) z _ (G.le (by omega)).tr (by omega) (by omega) hP HF.out rfl).mono ?_
  rintro e w3 ⟨rfl, hx⟩
  replace hb0 := bel_tr hb0 hx
  clear hx c0 c1 c2 c3 c4 c5 V G hP HF
  generalize sdz z = sd
  go_wp2
  go_ret2
  exact ⟨rfl, hb0⟩
end Go.Proofs.YtbkkepbmaadomaaGreatDoor

import Derived.Test.YtbkkepbmaadomaaGreatDoorNsAll
namespace Go.Proofs.YtbkkepbmaadomaaGreatDoor
open Go.RowKit

/-- 10 to the x, as a fraction: v by u. -/
def vT (x : Int) : Int := 10 ^ x.toNat
def uT (x : Int) : Int := 10 ^ (-x).toNat
theorem vT_pos (x : Int) : 0 < vT x := Int.pow_pos (by decide)
theorem uT_pos (x : Int) : 0 < uT x := Int.pow_pos (by decide)
theorem shift10 (x : Int) : vT x * uT (x - 1) = 10 * (vT (x - 1) * uT x) := by
  unfold vT uT
  rcases (by omega : 1 ≤ x ∨ x ≤ 0) with h | h
  · rw [show x.toNat = (x - 1).toNat + 1 by omega, show (-(x - 1)).toNat = (-x).toNat by omega, Int.pow_succ]; ac_rfl
  · rw [show (-(x - 1)).toNat = (-x).toNat + 1 by omega, show (x - 1).toNat = x.toNat by omega, Int.pow_succ]; ac_rfl
/-- The step of k is not above so many 10^x. -/
def Iv (s : Nat) (x : Int) : Prop := 2 ^ s * uT x ≤ 20 * E4 * vT x
def Cv (s : Nat) (x : Int) : Prop := 2 * E4 * vT x < 2 ^ s * uT x
theorem Iv.next {s : Nat} {x : Int} (h : ¬ Cv s x) : Iv s (x - 1) := by
  unfold Cv at h
  unfold Iv
  have h1 : 2 ^ s * uT x ≤ 2 * E4 * vT x := by omega
  have h2 := Int.mul_le_mul_of_nonneg_right h1 (Int.le_of_lt (uT_pos (x - 1)))
  have e1 : 2 * E4 * vT x * uT (x - 1) = 20 * E4 * vT (x - 1) * uT x := by
    rw [Int.mul_assoc, shift10]
    generalize E4 = E
    generalize vT (x - 1) = v
    generalize uT x = u
    rw [show (20 : Int) = 2 * 10 from rfl]; ac_rfl
  have e2 : 2 ^ s * uT x * uT (x - 1) = 2 ^ s * uT (x - 1) * uT x := by ac_rfl
  rw [e1, e2] at h2
  exact Int.le_of_mul_le_mul_right h2 (uT_pos x)
/-- What is counted at x. -/
structure Ct (A B : Int) (k s : Nat) (h : Nat) (r x : Int) : Prop where
  b : 0 < B
  a : A * E4 = Nn k * B
  m : ∃ m : Nat, k = s * 4503599627370496 + m ∧ (s = 0 ∧ m < 2 * 4503599627370496 ∨ 4503599627370496 ≤ m ∧ m < 2 * 4503599627370496)
  q : A * uT x * 2 = h * (B * vT x) + r
  r0 : 0 ≤ r
  r1 : r < B * vT x
theorem Nn_m {k s m : Nat} (e : k = s * 4503599627370496 + m) (h : s = 0 ∧ m < 2 * 4503599627370496 ∨ 4503599627370496 ≤ m ∧ m < 2 * 4503599627370496) : Nn k = (m : Int) * 2 ^ s ∧ sg4 4503599627370496 k = s := by
  obtain ⟨e1, e2⟩ := NB_of h
  rw [← e] at e1 e2
  refine ⟨?_, e1⟩
  unfold Nn; rw [e2, Int.natCast_mul, Int.natCast_pow]; rfl
theorem cm7 (A u E : Int) : A * u * 2 * E = 2 * (A * E) * u := by ac_rfl
theorem cm8 (m p B u : Int) : 2 * (m * p * B) * u = 2 * m * B * (p * u) := by ac_rfl
theorem cm9 (m B E v : Int) : 2 * m * B * (20 * E * v) = 40 * m * (B * v) * E := by
  rw [show (40 : Int) = 2 * 20 from rfl]; ac_rfl
theorem Ct.small {A B : Int} {k s h : Nat} {r x : Int} (C : Ct A B k s h r x) (I : Iv s x) : h < 720575940379279360 := by
  obtain ⟨m, e, hm⟩ := C.m
  obtain ⟨n1, -⟩ := Nn_m e hm
  have hE := E4_pos
  have hY := Int.mul_pos C.b (vT_pos x)
  have h1 : A * uT x * 2 * E4 ≤ 40 * m * (B * vT x) * E4 := by
    rw [cm7, C.a, n1, cm8, ← cm9]
    exact Int.mul_le_mul_of_nonneg_left I (Int.mul_nonneg (by omega) (Int.le_of_lt C.b))
  have h2 := Int.le_of_mul_le_mul_right h1 hE
  rw [C.q] at h2
  have h3 : (h : Int) * (B * vT x) ≤ 40 * m * (B * vT x) := by have := C.r0; omega
  have h4 := Int.le_of_mul_le_mul_right h3 hY
  omega
theorem Nn_ge {k s m : Nat} (e : k = s * 4503599627370496 + m) (h : s = 0 ∧ m < 2 * 4503599627370496 ∨ 4503599627370496 ≤ m ∧ m < 2 * 4503599627370496) (hk : 1 ≤ k) : (2 : Int) ^ s ≤ Nn k := by
  rw [(Nn_m e h).1]
  have h1 : (1 : Int) ≤ m := by omega
  have hp : (0 : Int) < 2 ^ s := Int.pow_pos (by decide)
  have := Int.mul_le_mul_of_nonneg_right h1 (Int.le_of_lt hp)
  rwa [Int.one_mul] at this
theorem Ct.some {A B : Int} {k s h : Nat} {r x : Int} (C : Ct A B k s h r x) (hk : 1 ≤ k) (K : Cv s x) : 2 ≤ h / 2 := by
  obtain ⟨m, e, hm⟩ := C.m
  have n1 := Nn_ge e hm hk
  have hE := E4_pos
  have hu := uT_pos x
  have hY := Int.mul_pos C.b (vT_pos x)
  have h1 : 4 * (B * vT x) * E4 < A * uT x * 2 * E4 := by
    rw [cm7, C.a]
    have a1 := Int.mul_lt_mul_of_pos_left K (show 0 < 2 * B by have := C.b; omega)
    have a2 := Int.mul_le_mul_of_nonneg_left (Int.mul_le_mul_of_nonneg_right n1 (Int.le_of_lt hu)) (show 0 ≤ 2 * B by have := C.b; omega)
    rw [show 4 * (B * vT x) * E4 = 2 * B * (2 * E4 * vT x) by generalize E4 = E; generalize vT x = v; rw [show (4 : Int) = 2 * 2 from rfl]; ac_rfl, show 2 * (Nn k * B) * uT x = 2 * B * (Nn k * uT x) by ac_rfl]
    omega
  have h2 := Int.lt_of_mul_lt_mul_right h1 (Int.le_of_lt hE)
  rw [C.q] at h2
  have h3 : 4 * (B * vT x) < (h + 1) * (B * vT x) := by rw [Int.add_mul]; have := C.r1; omega
  have h4 := Int.lt_of_mul_lt_mul_right h3 (Int.le_of_lt hY)
  omega
/-- The nearest one. -/
theorem Ct.near {A B : Int} {k s h : Nat} {r x : Int} (C : Ct A B k s h r x) : 2 * (((nrz (2 * h + if r = 0 then 0 else 1) : Nat) : Int) * (B * vT x)) ≤ A * uT x * 2 + B * vT x ∧ A * uT x * 2 ≤ 2 * (((nrz (2 * h + if r = 0 then 0 else 1) : Nat) : Int) * (B * vT x)) + B * vT x := by
  have hq := C.q
  have r0 := C.r0
  have r1 := C.r1
  have hY := Int.mul_pos C.b (vT_pos x)
  generalize A * uT x * 2 = X at *
  generalize B * vT x = Y at *
  obtain ⟨b, hb⟩ : ∃ b, h / 2 = b := ⟨_, rfl⟩
  rcases (by omega : h % 2 = 0 ∨ h % 2 = 1) with ho | ho
  · have e : nrz (2 * h + if r = 0 then 0 else 1) = b := by unfold nrz; split <;> omega
    rw [e]
    rw [show (h : Int) = 2 * (b : Int) by omega, Int.mul_assoc] at hq
    omega
  · rw [show (h : Int) = 2 * (b : Int) + 1 by omega, Int.add_mul, Int.mul_assoc] at hq
    by_cases h0 : r = 0
    · rw [if_pos h0]
      rcases (by unfold nrz; omega : nrz (2 * h + 0) = b ∨ nrz (2 * h + 0) = b + 1) with e | e <;> rw [e]
      · omega
      · rw [Int.natCast_add, Int.add_mul]; omega
    · rw [if_neg h0, show nrz (2 * h + 1) = b + 1 by unfold nrz; omega, Int.natCast_add, Int.add_mul]; omega
theorem cm10 (n v E B : Int) : 2 * (n * (B * v)) * E = 2 * (n * v * E) * B := by ac_rfl
theorem cm11 (Ak u B E v : Int) : (Ak * u * 2 + B * v) * E = 2 * (Ak * E) * u + E * v * B := by rw [Int.add_mul]; congr 1 <;> ac_rfl
theorem cm12 (N B u : Int) : 2 * (N * B) * u = 2 * N * u * B := by ac_rfl
/-- The nearest one of so fine a step is read as the float. -/
theorem Ct.stop {A B : Int} {k s h : Nat} {r x : Int} {t : Nat} (C : Ct A B k s h r x) (hk : 1 ≤ k) (hki : k < 9218868437227405312) (K : Cv s x) (P : Ps (((nrz (2 * h + if r = 0 then 0 else 1) : Nat) : Int) * vT x) (uT x) t) : nrz t = k := by
  obtain ⟨n1, n2⟩ := C.near
  obtain ⟨m, e, hm⟩ := C.m
  obtain ⟨e1, e2⟩ := Nn_m e hm
  generalize nrz (2 * h + if r = 0 then 0 else 1) = n at *
  have hE := E4_pos
  have hu := uT_pos x
  have hB := C.b
  have a1 : 2 * ((n : Int) * vT x * E4) ≤ 2 * Nn k * uT x + E4 * vT x := by
    have := Int.mul_le_mul_of_nonneg_right n1 (Int.le_of_lt hE)
    rw [cm10, cm11, C.a, cm12 (Nn k) B (uT x), ← Int.add_mul] at this
    exact Int.le_of_mul_le_mul_right this hB
  have a2 : 2 * Nn k * uT x ≤ 2 * ((n : Int) * vT x * E4) + E4 * vT x := by
    have := Int.mul_le_mul_of_nonneg_right n2 (Int.le_of_lt hE)
    rw [cm7, C.a, Int.add_mul, cm10, cm12 (Nn k) B (uT x), show B * vT x * E4 = E4 * vT x * B by generalize E4 = E; ac_rfl, ← Int.add_mul] at this
    exact Int.le_of_mul_le_mul_right this hB
  unfold Cv at K
  have s1 := NB_succ (B := 4503599627370496) (by decide) k
  rw [e2] at s1
  have s1' : Nn (k + 1) = Nn k + 2 ^ s := by unfold Nn; rw [s1, Int.natCast_add, Int.natCast_pow]; rfl
  have up : ¬ 4 * k + 2 ≤ t := by
    intro hh
    have h1 : bnd (2 * k + 1) * uT x ≤ 2 * ((n : Int) * vT x * E4) := by
      rcases (by omega : 2 * (2 * k + 1) = t ∨ 2 * (2 * k + 1) < t) with h | h
      · exact Int.le_of_eq (P.eqB h)
      · exact Int.le_of_lt (P.ltB hu h)
    rw [Nn_mid, s1', show (Nn k + (Nn k + 2 ^ s)) * uT x = 2 * Nn k * uT x + 2 ^ s * uT x by rw [← Int.add_mul]; congr 1; omega] at h1
    have hv := Int.mul_pos hE (vT_pos x)
    rw [Int.mul_assoc] at K
    omega
  have dn : ¬ t + 2 ≤ 4 * k := by
    intro hh
    obtain ⟨j, rfl⟩ : ∃ j, k = j + 1 := ⟨k - 1, by omega⟩
    have h1 : 2 * ((n : Int) * vT x * E4) ≤ bnd (2 * j + 1) * uT x := by
      rcases (by omega : 2 * (2 * j + 1) = t ∨ t < 2 * (2 * j + 1)) with h | h
      · exact Int.le_of_eq (P.eqB h).symm
      · exact Int.le_of_lt (P.gtB hu (by omega) h)
    obtain ⟨m', s', e', hm'⟩ := NB_at (B := 4503599627370496) (by decide) j
    obtain ⟨-, f2⟩ := Nn_m e' hm'
    have s2 := NB_succ (B := 4503599627370496) (by decide) j
    rw [f2] at s2
    have s2' : Nn (j + 1) = Nn j + 2 ^ s' := by unfold Nn; rw [s2, Int.natCast_add, Int.natCast_pow]; rfl
    have hs : (2 : Int) ^ s ≤ 2 * 2 ^ s' := by
      have : s ≤ s' + 1 := by omega
      have h3 := Nat.pow_le_pow_right (show 0 < 2 by decide) this
      have h4 := Int.ofNat_le.2 h3
      rw [Int.natCast_pow, Int.natCast_pow, Int.pow_succ] at h4
      have h5 : ((2 : Nat) : Int) = 2 := rfl
      rw [h5] at h4
      omega
    have hsu := Int.mul_le_mul_of_nonneg_right hs (Int.le_of_lt hu)
    rw [Nn_mid, s2', show (Nn j + (Nn j + 2 ^ s')) * uT x = 2 * (Nn j + 2 ^ s') * uT x - 2 ^ s' * uT x by rw [← Int.sub_mul]; congr 1; omega, ← s2'] at h1
    rw [Int.mul_assoc] at K hsu
    omega
  unfold nrz
  omega
end Go.Proofs.YtbkkepbmaadomaaGreatDoor

namespace Go.Proofs.YtbkkepbmaadomaaGreatDoor
open Go.RowKit

theorem tab1 : ∀ n, n < 1100 → 2 ^ n ≤ 20 * 10 ^ (n * 30103 / 100000) := by decide +kernel
theorem tab2 : ∀ n, n < 1100 → 10 ^ (n * 30103 / 100000) ≤ 20 * 2 ^ n := by decide +kernel
theorem low331 : ¬ (10 : Int) ^ 331 ≤ 20 * 2 ^ 1074 := by decide +kernel
theorem pow10_le {a b : Nat} (h : a ≤ b) : (10 : Int) ^ a ≤ 10 ^ b := by
  have h2 := Int.ofNat_le.2 (Nat.pow_le_pow_right (show 0 < 10 by decide) h)
  rwa [Int.natCast_pow, Int.natCast_pow] at h2
theorem Iv.low {s : Nat} {x : Int} (I : Iv s x) : -330 ≤ x := by
  rcases Int.lt_or_le x (-330) with h | h
  · exfalso
    have hp : (0 : Int) < 2 ^ s := Int.pow_pos (by decide)
    have hv : vT x = 1 := by unfold vT; rw [show x.toNat = 0 by omega]; rfl
    have hu : (10 : Int) ^ 331 ≤ uT x := pow10_le (show 331 ≤ (-x).toNat by omega)
    unfold Iv at I
    rw [hv, Int.mul_one] at I
    have h3 : uT x ≤ 2 ^ s * uT x := by
      have := Int.mul_le_mul_of_nonneg_right (show (1 : Int) ≤ 2 ^ s by omega) (Int.le_of_lt (uT_pos x))
      rwa [Int.one_mul] at this
    exact low331 (Int.le_trans hu (Int.le_trans h3 I))
  · exact h
theorem pwI (a b : Nat) : ((2 ^ (a + b) : Nat) : Int) = ((2 ^ a : Nat) : Int) * ((2 ^ b : Nat) : Int) := by rw [Nat.pow_add, Int.natCast_mul]
theorem cast10 (n : Nat) : ((10 ^ n : Nat) : Int) = 10 ^ n := by rw [Int.natCast_pow]; rfl
/-- Where the search begins. -/
theorem Iv.init {A B : Int} {k s m bx bY : Nat} {x : Int} (hB : 0 < B) (hA0 : 0 ≤ A) (a : A * E4 = Nn k * B) (e : k = s * 4503599627370496 + m) (hc : s = 0 ∧ m < 2 * 4503599627370496 ∨ 4503599627370496 ≤ m ∧ m < 2 * 4503599627370496) (hk : 1 ≤ k)
    (b1 : 1 ≤ bY) (x2 : A < ((2 ^ bx : Nat) : Int)) (y1 : ((2 ^ (bY - 1) : Nat) : Int) ≤ B) (n1 : -1090 < (bx : Int) - bY + 1) (n2 : (bx : Int) - bY + 1 < 1090) (hx : x = (((bx : Int) - bY + 1) * 30103).tdiv 100000) : Iv s x := by
  have hN := Nn_ge e hc hk
  have hE := E4_pos
  have hu := uT_pos x
  have hv := vT_pos x
  have key : A * uT x ≤ 20 * vT x * B := by
    rcases (by omega : 0 ≤ (bx : Int) - bY + 1 ∨ (bx : Int) - bY + 1 < 0) with h | h
    · obtain ⟨n, hn⟩ := Int.eq_ofNat_of_zero_le h
      have hxn : x = ((n * 30103 / 100000 : Nat) : Int) := by rw [hx, hn, Int.tdiv_eq_ediv_of_nonneg (by omega)]; omega
      have hu1 : uT x = 1 := by unfold uT; rw [show (-x).toNat = 0 by omega]; rfl
      have hv1 : vT x = ((10 ^ (n * 30103 / 100000) : Nat) : Int) := by unfold vT; rw [cast10, show x.toNat = n * 30103 / 100000 by omega]
      have t := Int.ofNat_le.2 (tab1 n (by omega))
      rw [Int.natCast_mul, ← hv1] at t
      have h20 : ((20 : Nat) : Int) = 20 := rfl
      rw [h20] at t
      rw [hu1, Int.mul_one]
      have q1 : ((2 ^ bx : Nat) : Int) = ((2 ^ n : Nat) : Int) * ((2 ^ (bY - 1) : Nat) : Int) := by rw [← pwI, show n + (bY - 1) = bx by omega]
      have q2 := Int.mul_le_mul_of_nonneg_left y1 (Int.natCast_nonneg (2 ^ n))
      have q3 := Int.mul_le_mul_of_nonneg_right t (Int.le_of_lt hB)
      omega
    · obtain ⟨n, hn⟩ : ∃ n : Nat, (bx : Int) - bY + 1 = -(n : Int) := ⟨(-((bx : Int) - bY + 1)).toNat, by omega⟩
      have hxn : x = -((n * 30103 / 100000 : Nat) : Int) := by rw [hx, hn, Int.neg_mul, Int.neg_tdiv, Int.tdiv_eq_ediv_of_nonneg (by omega)]; omega
      have hv1 : vT x = 1 := by unfold vT; rw [show x.toNat = 0 by omega]; rfl
      have hu1 : uT x = ((10 ^ (n * 30103 / 100000) : Nat) : Int) := by unfold uT; rw [cast10, show (-x).toNat = n * 30103 / 100000 by omega]
      have t := Int.ofNat_le.2 (tab2 n (by omega))
      rw [Int.natCast_mul, ← hu1] at t
      have h20 : ((20 : Nat) : Int) = 20 := rfl
      rw [h20] at t
      rw [hv1, Int.mul_one]
      have q1 : ((2 ^ (bY - 1) : Nat) : Int) = ((2 ^ bx : Nat) : Int) * ((2 ^ n : Nat) : Int) := by rw [← pwI, show bx + n = bY - 1 by omega]
      have q2 := Int.mul_le_mul_of_nonneg_left t hA0
      have q3 := Int.mul_le_mul_of_nonneg_right (Int.le_of_lt x2) (Int.natCast_nonneg (2 ^ n))
      rw [show A * (20 * ((2 ^ n : Nat) : Int)) = 20 * (A * ((2 ^ n : Nat) : Int)) by ac_rfl] at q2
      omega
  unfold Iv
  have h1 := Int.mul_le_mul_of_nonneg_right (Int.mul_le_mul_of_nonneg_right hN (Int.le_of_lt hu)) (Int.le_of_lt hB)
  have h2 := Int.mul_le_mul_of_nonneg_right key (Int.le_of_lt hE)
  rw [show Nn k * uT x * B = Nn k * B * uT x by ac_rfl, ← a] at h1
  rw [show A * uT x * E4 = A * E4 * uT x by generalize E4 = E; ac_rfl, show 20 * vT x * B * E4 = 20 * E4 * vT x * B by generalize E4 = E; ac_rfl] at h2
  exact Int.le_of_mul_le_mul_right (Int.le_trans h1 h2) hB
end Go.Proofs.YtbkkepbmaadomaaGreatDoor

namespace Go.Proofs.YtbkkepbmaadomaaGreatDoor
open Go.RowKit

/-- d 10^x is read as the float of rank k. -/
def Rk (k d : Nat) (x : Int) : Prop := ∃ t, Ps ((d : Int) * vT x) (uT x) t ∧ nrz t = k
/-- c is the whole number below the float, counted in 10^x. -/
def Fk (k : Nat) (x : Int) (c : Nat) : Prop := (c : Int) * (E4 * vT x) ≤ Nn k * uT x ∧ Nn k * uT x < ((c : Int) + 1) * (E4 * vT x)
/-- The lower one is the nearer. -/
def Lw (k : Nat) (x : Int) (c : Nat) : Prop := 2 * (Nn k * uT x) < (2 * (c : Int) + 1) * (E4 * vT x) ∨ 2 * (Nn k * uT x) = (2 * (c : Int) + 1) * (E4 * vT x) ∧ c % 2 = 0
/-- No power above x has it. -/
def Bd (k : Nat) (x : Int) : Prop := ∀ (y : Int) (c : Nat), x < y → Fk k y c → c = 0 ∨ ¬ Rk k c y ∧ ¬ Rk k (c + 1) y
/-- What is found at x. -/
def Ou (k d : Nat) (x : Int) : Prop := Bd k x ∧ ∃ c, Fk k x c ∧ 1 ≤ c ∧ (d = c ∧ Rk k c x ∧ (Lw k x c ∨ ¬ Rk k (c + 1) x) ∨ d = c + 1 ∧ Rk k (c + 1) x ∧ (¬ Lw k x c ∨ ¬ Rk k c x))
theorem ev_pos (x : Int) : 0 < E4 * vT x := Int.mul_pos E4_pos (vT_pos x)
theorem Fk.uniq {k c d : Nat} {x : Int} (h : Fk k x c) (g : Fk k x d) : c = d := by
  have hp := ev_pos x
  have h1 := Int.lt_of_mul_lt_mul_right (Int.lt_of_le_of_lt h.1 g.2) (Int.le_of_lt hp)
  have h2 := Int.lt_of_mul_lt_mul_right (Int.lt_of_le_of_lt g.1 h.2) (Int.le_of_lt hp)
  omega
theorem Ct.two {A B : Int} {k s h : Nat} {r x : Int} (C : Ct A B k s h r x) : ∃ r' : Int, 2 * (Nn k * uT x) * B = ((h : Int) * (E4 * vT x)) * B + r' ∧ 0 ≤ r' ∧ r' < E4 * vT x * B ∧ (r = 0 ↔ r' = 0) := by
  have hE := E4_pos
  refine ⟨r * E4, ?_, Int.mul_nonneg C.r0 (Int.le_of_lt hE), ?_, ?_⟩
  · have e : A * uT x * 2 * E4 = ((h : Int) * (B * vT x) + r) * E4 := by rw [C.q]
    rw [cm7, C.a, Int.add_mul] at e
    rw [show 2 * (Nn k * uT x) * B = 2 * (Nn k * B) * uT x by ac_rfl, e]
    congr 1
    generalize E4 = E
    ac_rfl
  · have := Int.mul_lt_mul_of_pos_right C.r1 hE
    rwa [show B * vT x * E4 = E4 * vT x * B by generalize E4 = E; ac_rfl] at this
  · constructor
    · rintro rfl; exact Int.zero_mul _
    · intro h
      rcases Int.mul_eq_zero.1 h with h | h
      · exact h
      · omega
theorem Ct.fk {A B : Int} {k s h : Nat} {r x : Int} (C : Ct A B k s h r x) : Fk k x (h / 2) := by
  obtain ⟨r', e, r0, r1, -⟩ := C.two
  have hB := C.b
  have hp := ev_pos x
  unfold Fk
  generalize Nn k * uT x = V at *
  generalize E4 * vT x = Y at *
  obtain ⟨c, hc⟩ : ∃ c, h / 2 = c := ⟨_, rfl⟩
  rw [hc]
  constructor
  · have h1 : 2 * ((c : Int) * Y) * B ≤ 2 * V * B := by
      have : 2 * ((c : Int) * Y) * B ≤ (h : Int) * Y * B := by
        rw [← Int.mul_assoc 2 (c : Int) Y]
        exact Int.mul_le_mul_of_nonneg_right (Int.mul_le_mul_of_nonneg_right (by omega) (Int.le_of_lt hp)) (Int.le_of_lt hB)
      omega
    have h2 := Int.le_of_mul_le_mul_right h1 hB
    omega
  · have h1 : 2 * V * B < 2 * (((c : Int) + 1) * Y) * B := by
      have : ((h : Int) + 1) * Y * B ≤ 2 * (((c : Int) + 1) * Y) * B := by
        rw [← Int.mul_assoc 2 ((c : Int) + 1) Y]
        exact Int.mul_le_mul_of_nonneg_right (Int.mul_le_mul_of_nonneg_right (by omega) (Int.le_of_lt hp)) (Int.le_of_lt hB)
      rw [Int.add_mul, Int.add_mul, Int.one_mul] at this
      omega
    have h2 := Int.lt_of_mul_lt_mul_right h1 (Int.le_of_lt hB)
    omega
/-- Which one is tried first. -/
theorem Ct.lw {A B : Int} {k s h : Nat} {r x : Int} (C : Ct A B k s h r x) : (Lw k x (h / 2) → nrz (2 * h + if r = 0 then 0 else 1) = h / 2) ∧ (¬ Lw k x (h / 2) → nrz (2 * h + if r = 0 then 0 else 1) = h / 2 + 1) := by
  obtain ⟨r', e, r0, r1, hz⟩ := C.two
  have hB := C.b
  have hp := ev_pos x
  unfold Lw
  generalize Nn k * uT x = V at *
  generalize E4 * vT x = Y at *
  obtain ⟨c, hc⟩ : ∃ c, h / 2 = c := ⟨_, rfl⟩
  rw [hc]
  rcases (by omega : h % 2 = 0 ∨ h % 2 = 1) with ho | ho
  · have e1 : nrz (2 * h + if r = 0 then 0 else 1) = c := by unfold nrz; split <;> omega
    refine ⟨fun _ => e1, fun hn => absurd (.inl ?_) hn⟩
    have h1 : 2 * V * B < (2 * (c : Int) + 1) * Y * B := by
      rw [show (h : Int) = 2 * (c : Int) by omega] at e
      rw [Int.add_mul, Int.add_mul, Int.one_mul]
      omega
    exact Int.lt_of_mul_lt_mul_right h1 (Int.le_of_lt hB)
  · rw [show (h : Int) = 2 * (c : Int) + 1 by omega] at e
    by_cases h0 : r = 0
    · rw [if_pos h0]
      rw [hz.1 h0, Int.add_zero] at e
      have e2 := Int.eq_of_mul_eq_mul_right (by omega) e
      constructor
      · intro hl
        have : c % 2 = 0 := by rcases hl with hl | hl <;> omega
        unfold nrz; omega
      · intro hn
        have : ¬ c % 2 = 0 := fun h2 => hn (.inr ⟨e2, h2⟩)
        unfold nrz; omega
    · rw [if_neg h0]
      have hr : ¬ r' = 0 := fun h => h0 (hz.2 h)
      have h1 : (2 * (c : Int) + 1) * Y * B < 2 * V * B := by omega
      have h2 := Int.lt_of_mul_lt_mul_right h1 (Int.le_of_lt hB)
      refine ⟨fun hl => by rcases hl with hl | hl <;> omega, fun _ => by unfold nrz; omega⟩
theorem ten_fk (k : Nat) (x : Int) : ∃ W Z : Int, 0 < W ∧ Nn k * uT (x + 1) * uT x = Nn k * uT x * uT (x + 1) ∧ E4 * vT (x + 1) * uT x = 10 * (E4 * vT x) * uT (x + 1) ∧ 0 < Z ∧ W = uT x ∧ Z = uT (x + 1) := by
  refine ⟨_, _, uT_pos x, by ac_rfl, ?_, uT_pos (x + 1), rfl, rfl⟩
  have e := shift10 (x + 1)
  rw [show x + 1 - 1 = x by omega] at e
  rw [Int.mul_assoc, e]
  generalize E4 = E
  ac_rfl
/-- A digit less. -/
theorem Fk.up {k c : Nat} {x : Int} (h : Fk k x c) : Fk k (x + 1) (c / 10) := by
  obtain ⟨W, Z, hW, e1, e2, hZ, rfl, rfl⟩ := ten_fk k x
  obtain ⟨h1, h2⟩ := h
  have hp := ev_pos x
  unfold Fk
  have g1 := Int.mul_le_mul_of_nonneg_right h1 (Int.le_of_lt hZ)
  have g2 := Int.mul_lt_mul_of_pos_right h2 hZ
  rw [← e1] at g1 g2
  generalize E4 * vT x = Y at *
  generalize E4 * vT (x + 1) = Y' at *
  generalize Nn k * uT (x + 1) = V at *
  generalize uT x = W at *
  generalize uT (x + 1) = Z at *
  obtain ⟨d, hd⟩ : ∃ d, c / 10 = d := ⟨_, rfl⟩
  rw [hd]
  constructor
  · refine Int.le_of_mul_le_mul_right (a := W) ?_ hW
    rw [Int.mul_assoc, e2]
    have : (d : Int) * (10 * Y * Z) ≤ (c : Int) * Y * Z := by
      rw [show (d : Int) * (10 * Y * Z) = 10 * (d : Int) * Y * Z by ac_rfl]
      exact Int.mul_le_mul_of_nonneg_right (Int.mul_le_mul_of_nonneg_right (by omega) (Int.le_of_lt hp)) (Int.le_of_lt hZ)
    exact Int.le_trans this g1
  · refine Int.lt_of_mul_lt_mul_right (a := W) ?_ (Int.le_of_lt hW)
    rw [Int.mul_assoc, e2]
    have : ((c : Int) + 1) * Y * Z ≤ ((d : Int) + 1) * (10 * Y * Z) := by
      rw [show ((d : Int) + 1) * (10 * Y * Z) = 10 * ((d : Int) + 1) * Y * Z by ac_rfl]
      exact Int.mul_le_mul_of_nonneg_right (Int.mul_le_mul_of_nonneg_right (by omega) (Int.le_of_lt hp)) (Int.le_of_lt hZ)
    exact Int.lt_of_lt_of_le g2 this
/-- A nought at the end is no digit. -/
theorem Rk.ten {k d : Nat} {x : Int} : Rk k (10 * d) x ↔ Rk k d (x + 1) := by
  unfold Rk
  have e := shift10 (x + 1)
  rw [show x + 1 - 1 = x by omega] at e
  have h1 : ∀ t, Ps (((10 * d : Nat) : Int) * vT x) (uT x) t ↔ Ps ((d : Int) * vT (x + 1)) (uT (x + 1)) t := fun t => by
    rw [← Ps.scale (uT_pos (x + 1)) (x := ((10 * d : Nat) : Int) * vT x), ← Ps.scale (uT_pos x) (x := (d : Int) * vT (x + 1))]
    rw [show ((10 * d : Nat) : Int) * vT x * uT (x + 1) = (d : Int) * vT (x + 1) * uT x by rw [Int.mul_assoc (d : Int), e, Int.natCast_mul, show ((10 : Nat) : Int) = 10 from rfl]; ac_rfl, Int.mul_comm (uT x)]
  constructor
  · rintro ⟨t, a, b⟩; exact ⟨t, (h1 t).1 a, b⟩
  · rintro ⟨t, a, b⟩; exact ⟨t, (h1 t).2 a, b⟩
/-- Nothing is above so great a power. -/
theorem above_up {k : Nat} {x : Int} (h : Nn k * uT x < E4 * vT x) (n : Nat) : Nn k * uT (x + n) < E4 * vT (x + n) := by
  induction n with
  | zero => rwa [show x + ((0 : Nat) : Int) = x by omega]
  | succ n ih =>
    obtain ⟨W, Z, hW, e1, e2, hZ, rfl, rfl⟩ := ten_fk k (x + n)
    rw [show x + ((n + 1 : Nat) : Int) = x + n + 1 by omega]
    refine Int.lt_of_mul_lt_mul_right (a := uT (x + n)) ?_ (Int.le_of_lt hW)
    rw [e1, e2]
    have g := Int.mul_lt_mul_of_pos_right ih hZ
    have hp := Int.mul_pos (ev_pos (x + n)) hZ
    rw [Int.mul_assoc 10]
    omega
theorem Bd.init {k : Nat} {x : Int} (h : Nn k * uT (x + 1) < E4 * vT (x + 1)) : Bd k x := by
  intro y c hy hc
  left
  have h2 := above_up h (y - (x + 1)).toNat
  rw [show x + 1 + ((y - (x + 1)).toNat : Int) = y by omega] at h2
  have h3 := Int.lt_of_le_of_lt hc.1 h2
  have hp := ev_pos y
  have h4 : (c : Int) * (E4 * vT y) < 1 * (E4 * vT y) := by rw [Int.one_mul]; exact h3
  have := Int.lt_of_mul_lt_mul_right h4 (Int.le_of_lt hp)
  omega
theorem Bd.next {k c : Nat} {x : Int} (h : Bd k x) (hc : Fk k x c) (hn : c = 0 ∨ ¬ Rk k c x ∧ ¬ Rk k (c + 1) x) : Bd k (x - 1) := by
  intro y d hy hd
  by_cases e : y = x
  · subst e
    rw [hd.uniq hc]; exact hn
  · exact h y d (by omega) hd
/-- The nearest one of so fine a step is read as the float, II. -/
theorem Ct.stop2 {A B : Int} {k s h : Nat} {r x : Int} {t : Nat} (C : Ct A B k s h r x) (hk : 1 ≤ k) (hki : k < 9218868437227405312) (K : E4 * vT x < 2 ^ s * uT x)
    (L : ∀ j m' s' : Nat, k = j + 1 → j = s' * 4503599627370496 + m' → (s' = 0 ∧ m' < 2 * 4503599627370496 ∨ 4503599627370496 ≤ m' ∧ m' < 2 * 4503599627370496) → E4 * vT x < 2 ^ s' * uT x) (P : Ps (((nrz (2 * h + if r = 0 then 0 else 1) : Nat) : Int) * vT x) (uT x) t) : nrz t = k := by
  obtain ⟨n1, n2⟩ := C.near
  obtain ⟨m, e, hm⟩ := C.m
  obtain ⟨e1, e2⟩ := Nn_m e hm
  generalize nrz (2 * h + if r = 0 then 0 else 1) = n at *
  have hE := E4_pos
  have hu := uT_pos x
  have hB := C.b
  have a1 : 2 * ((n : Int) * vT x * E4) ≤ 2 * Nn k * uT x + E4 * vT x := by
    have := Int.mul_le_mul_of_nonneg_right n1 (Int.le_of_lt hE)
    rw [cm10, cm11, C.a, cm12 (Nn k) B (uT x), ← Int.add_mul] at this
    exact Int.le_of_mul_le_mul_right this hB
  have a2 : 2 * Nn k * uT x ≤ 2 * ((n : Int) * vT x * E4) + E4 * vT x := by
    have := Int.mul_le_mul_of_nonneg_right n2 (Int.le_of_lt hE)
    rw [cm7, C.a, Int.add_mul, cm10, cm12 (Nn k) B (uT x), show B * vT x * E4 = E4 * vT x * B by generalize E4 = E; ac_rfl, ← Int.add_mul] at this
    exact Int.le_of_mul_le_mul_right this hB
  have s1 := NB_succ (B := 4503599627370496) (by decide) k
  rw [e2] at s1
  have s1' : Nn (k + 1) = Nn k + 2 ^ s := by unfold Nn; rw [s1, Int.natCast_add, Int.natCast_pow]; rfl
  have up : ¬ 4 * k + 2 ≤ t := by
    intro hh
    have h1 : bnd (2 * k + 1) * uT x ≤ 2 * ((n : Int) * vT x * E4) := by
      rcases (by omega : 2 * (2 * k + 1) = t ∨ 2 * (2 * k + 1) < t) with h | h
      · exact Int.le_of_eq (P.eqB h)
      · exact Int.le_of_lt (P.ltB hu h)
    rw [Nn_mid, s1', show (Nn k + (Nn k + 2 ^ s)) * uT x = 2 * Nn k * uT x + 2 ^ s * uT x by rw [← Int.add_mul]; congr 1; omega] at h1
    omega
  have dn : ¬ t + 2 ≤ 4 * k := by
    intro hh
    obtain ⟨j, rfl⟩ : ∃ j, k = j + 1 := ⟨k - 1, by omega⟩
    have h1 : 2 * ((n : Int) * vT x * E4) ≤ bnd (2 * j + 1) * uT x := by
      rcases (by omega : 2 * (2 * j + 1) = t ∨ t < 2 * (2 * j + 1)) with h | h
      · exact Int.le_of_eq (P.eqB h).symm
      · exact Int.le_of_lt (P.gtB hu (by omega) h)
    obtain ⟨m', s', e', hm'⟩ := NB_at (B := 4503599627370496) (by decide) j
    obtain ⟨-, f2⟩ := Nn_m e' hm'
    have s2 := NB_succ (B := 4503599627370496) (by decide) j
    rw [f2] at s2
    have s2' : Nn (j + 1) = Nn j + 2 ^ s' := by unfold Nn; rw [s2, Int.natCast_add, Int.natCast_pow]; rfl
    have K2 := L j m' s' rfl e' hm'
    rw [Nn_mid, s2', show (Nn j + (Nn j + 2 ^ s')) * uT x = 2 * (Nn j + 2 ^ s') * uT x - 2 ^ s' * uT x by rw [← Int.sub_mul]; congr 1; omega, ← s2'] at h1
    omega
  unfold nrz
  omega
theorem E16 {P Q : Int} {m : Nat} (h : 10000000000000000 * P ≤ (m : Int) * Q) (hm : m ≤ 9007199254740992) (hP : 0 < P) : P < Q := by
  rcases Int.lt_or_le P Q with h1 | h1
  · exact h1
  · exfalso
    have h2 : (m : Int) * Q ≤ 9007199254740992 * P := Int.le_trans (Int.mul_le_mul_of_nonneg_left h1 (by omega)) (Int.mul_le_mul_of_nonneg_right (by omega) (Int.le_of_lt hP))
    omega
/-- Seventeen digits are enough. -/
theorem stop17 {k c : Nat} {x : Int} (hk : 1 ≤ k) (hki : k < 9218868437227405312) (hc : Fk k x c) (h16 : 10000000000000000 ≤ c) : Rk k c x ∨ Rk k (c + 1) x := by
  obtain ⟨m, s, e, hm⟩ := NB_at (B := 4503599627370496) (by decide) k
  obtain ⟨e1, -⟩ := Nn_m e hm
  have hY := ev_pos x
  have hN : 0 ≤ Nn k := by unfold Nn; omega
  obtain ⟨h, r, hq, hr, hr'⟩ := dm (Int.mul_nonneg hN (Int.le_of_lt (uT_pos x))) hY
  have C : Ct (Nn k) E4 k s h r x := ⟨E4_pos, rfl, ⟨m, e, hm⟩, hq, hr, hr'⟩
  have hcc := hc.uniq C.fk
  have g : 10000000000000000 * (E4 * vT x) ≤ (m : Int) * (2 ^ s * uT x) := by
    have h1 : 10000000000000000 * (E4 * vT x) ≤ (c : Int) * (E4 * vT x) := Int.mul_le_mul_of_nonneg_right (by omega) (Int.le_of_lt hY)
    have h2 := Int.le_trans h1 hc.1
    rwa [e1, Int.mul_assoc] at h2
  have K := E16 g (by omega) hY
  have hn : nrz (2 * h + if r = 0 then 0 else 1) = c ∨ nrz (2 * h + if r = 0 then 0 else 1) = c + 1 := by
    rw [hcc]
    by_cases hl : Lw k x (h / 2)
    · exact .inl (C.lw.1 hl)
    · exact .inr (C.lw.2 hl)
  have hst : ∀ t, Ps (((nrz (2 * h + if r = 0 then 0 else 1) : Nat) : Int) * vT x) (uT x) t → nrz t = k := fun t P => by
    refine C.stop2 hk hki K (fun j m' s' ej e' hm' => ?_) P
    rcases (by omega : s' = s ∨ s = s' + 1 ∧ m = 4503599627370496) with hs | ⟨hs, hmm⟩
    · rw [hs]; exact K
    · refine E16 (m := 9007199254740992) ?_ (Nat.le_refl _) hY
      rw [hmm, hs, Int.pow_succ] at g
      rw [show ((9007199254740992 : Nat) : Int) * (2 ^ s' * uT x) = ((4503599627370496 : Nat) : Int) * (2 ^ s' * 2 * uT x) by
        rw [show ((9007199254740992 : Nat) : Int) = ((4503599627370496 : Nat) : Int) * 2 from rfl]; ac_rfl]
      exact g
  obtain ⟨n, hn'⟩ : ∃ n, nrz (2 * h + if r = 0 then 0 else 1) = n := ⟨_, rfl⟩
  rw [hn'] at hst hn
  obtain ⟨t, ht⟩ := Ps.ex (x := (n : Int) * vT x) (y := uT x) (Int.mul_nonneg (by omega) (Int.le_of_lt (vT_pos x))) (uT_pos x)
  rcases hn with hn | hn
  · exact .inl ⟨t, by rw [← hn]; exact ht, hst t ht⟩
  · exact .inr ⟨t, by rw [← hn]; exact ht, hst t ht⟩
/-- The decimal that is shown, 10 turned into 1. -/
def Sd (k d : Nat) (x : Int) : Prop := Ou k 10 (x - 1) ∧ d = 1 ∨ Ou k d x ∧ ¬ d = 10
theorem Ou.lt {k d : Nat} {x : Int} (h : Ou k d x) (hk : 1 ≤ k) (hki : k < 9218868437227405312) : 1 ≤ d ∧ d ≤ 100000000000000000 ∧ (d < 10 ∨ d = 10 ∨ 10 ≤ d ∧ ¬ d % 10 = 0 ∧ ¬ Rk k (d / 10) (x + 1) ∧ ¬ Rk k (d / 10 + 1) (x + 1)) := by
  obtain ⟨hb, c, hc, c1, hd⟩ := h
  have hu := hc.up
  have hn := hb (x + 1) (c / 10) (by omega) hu
  have hcs : c / 10 < 10000000000000000 := by
    rcases Nat.lt_or_ge (c / 10) 10000000000000000 with h | h
    · exact h
    · exfalso
      rcases hn with hn | ⟨n1, n2⟩
      · omega
      · rcases stop17 hk hki hu h with h | h
        · exact n1 h
        · exact n2 h
  refine ⟨by rcases hd with hd | hd <;> omega, by rcases hd with hd | hd <;> omega, ?_⟩
  rcases hn with hn | ⟨n1, n2⟩
  · rcases hd with hd | hd <;> omega
  · by_cases h10 : d < 10
    · exact .inl h10
    · refine .inr (.inr ⟨by omega, ?_⟩)
      rcases hd with ⟨rfl, hr, -⟩ | ⟨rfl, hr, -⟩
      · refine ⟨fun h => n1 ?_, n1, n2⟩
        obtain ⟨e, he⟩ : ∃ e, d = 10 * e := ⟨d / 10, by omega⟩
        rw [show d / 10 = e by omega, ← Rk.ten, ← he]; exact hr
      · have hz : ¬ (c + 1) % 10 = 0 := fun h => n2 (by
          obtain ⟨e, he⟩ : ∃ e, c + 1 = 10 * e := ⟨(c + 1) / 10, by omega⟩
          rw [show c / 10 + 1 = e by omega, ← Rk.ten, ← he]; exact hr)
        rw [show (c + 1) / 10 = c / 10 by omega]
        exact ⟨hz, n1, n2⟩
/-- It has at most 17 digits, no nought at its end, and none can be left out. -/
theorem Sd.short {k d : Nat} {x : Int} (h : Sd k d x) (hk : 1 ≤ k) (hki : k < 9218868437227405312) : 1 ≤ d ∧ d < 100000000000000000 ∧ ¬ d % 10 = 0 ∧ (10 ≤ d → ¬ Rk k (d / 10) (x + 1) ∧ ¬ Rk k (d / 10 + 1) (x + 1)) := by
  rcases h with ⟨h, rfl⟩ | ⟨h, h10⟩
  · exact ⟨by decide, by decide, by decide, fun h => absurd h (by decide)⟩
  · obtain ⟨h1, h2, h3⟩ := h.lt hk hki
    rcases h3 with h3 | h3 | ⟨h3, h4, h5⟩
    · exact ⟨h1, by omega, by omega, fun h => absurd h (by omega)⟩
    · exact absurd h3 h10
    · exact ⟨h1, by omega, h4, fun _ => h5⟩
theorem tab3 : ∀ n, n < 1100 → 2 ^ n ≤ 10 ^ (n * 30103 / 100000 + 1) := by decide +kernel
theorem tab4 : ∀ n, n < 1100 → 10 ^ (n * 30103 / 100000 - 1) ≤ 2 ^ n := by decide +kernel
/-- The power that the search begins with is above the float. -/
theorem above_init {A B : Int} {k bx bY : Nat} {x : Int} (hB : 0 < B) (hA0 : 0 < A) (a : A * E4 = Nn k * B)
    (b1 : 1 ≤ bY) (x2 : A < ((2 ^ bx : Nat) : Int)) (y1 : ((2 ^ (bY - 1) : Nat) : Int) ≤ B) (n1 : -1090 < (bx : Int) - bY + 1) (n2 : (bx : Int) - bY + 1 < 1090) (hx : x = (((bx : Int) - bY + 1) * 30103).tdiv 100000) : Nn k * uT (x + 1) < E4 * vT (x + 1) := by
  have hE := E4_pos
  have key : A * uT (x + 1) < vT (x + 1) * B := by
    rcases (by omega : 0 ≤ (bx : Int) - bY + 1 ∨ (bx : Int) - bY + 1 < 0) with h | h
    · obtain ⟨n, hn⟩ := Int.eq_ofNat_of_zero_le h
      have hxn : x = ((n * 30103 / 100000 : Nat) : Int) := by rw [hx, hn, Int.tdiv_eq_ediv_of_nonneg (by omega)]; omega
      have hu1 : uT (x + 1) = 1 := by unfold uT; rw [show (-(x + 1)).toNat = 0 by omega]; rfl
      have hv1 : vT (x + 1) = ((10 ^ (n * 30103 / 100000 + 1) : Nat) : Int) := by unfold vT; rw [cast10, show (x + 1).toNat = n * 30103 / 100000 + 1 by omega]
      have t := Int.ofNat_le.2 (tab3 n (by omega))
      rw [← hv1] at t
      rw [hu1, Int.mul_one]
      have q1 : ((2 ^ bx : Nat) : Int) = ((2 ^ n : Nat) : Int) * ((2 ^ (bY - 1) : Nat) : Int) := by rw [← pwI, show n + (bY - 1) = bx by omega]
      have q2 := Int.mul_le_mul_of_nonneg_left y1 (Int.natCast_nonneg (2 ^ n))
      have q3 := Int.mul_le_mul_of_nonneg_right t (Int.le_of_lt hB)
      omega
    · obtain ⟨n, hn⟩ : ∃ n : Nat, (bx : Int) - bY + 1 = -(n : Int) := ⟨(-((bx : Int) - bY + 1)).toNat, by omega⟩
      have hxn : x = -((n * 30103 / 100000 : Nat) : Int) := by rw [hx, hn, Int.neg_mul, Int.neg_tdiv, Int.tdiv_eq_ediv_of_nonneg (by omega)]; omega
      have q1 : ((2 ^ (bY - 1) : Nat) : Int) = ((2 ^ bx : Nat) : Int) * ((2 ^ n : Nat) : Int) := by rw [← pwI, show bx + n = bY - 1 by omega]
      have hp : (0 : Int) < ((2 ^ n : Nat) : Int) := Int.natCast_pos.2 (Nat.two_pow_pos n)
      have q3 := Int.mul_lt_mul_of_pos_right x2 hp
      have q4 : A * ((2 ^ n : Nat) : Int) < B := by omega
      have hu2 : uT (x + 1) ≤ ((2 ^ n : Nat) : Int) := by
        rcases (by omega : 1 ≤ n * 30103 / 100000 ∨ n * 30103 / 100000 = 0) with h1 | h1
        · have t := Int.ofNat_le.2 (tab4 n (by omega))
          unfold uT
          rw [← cast10, show (-(x + 1)).toNat = n * 30103 / 100000 - 1 by omega]
          exact t
        · unfold uT
          rw [show (-(x + 1)).toNat = 0 by omega, Int.pow_zero]; omega
      have q5 := Int.mul_le_mul_of_nonneg_left hu2 (Int.le_of_lt hA0)
      have q6 : 1 * B ≤ vT (x + 1) * B := Int.mul_le_mul_of_nonneg_right (by have := vT_pos (x + 1); omega) (Int.le_of_lt hB)
      rw [Int.one_mul] at q6
      omega
  have h2 := Int.mul_lt_mul_of_pos_right key hE
  rw [show A * uT (x + 1) * E4 = A * E4 * uT (x + 1) by generalize E4 = E; ac_rfl, a, show Nn k * B * uT (x + 1) = Nn k * uT (x + 1) * B by ac_rfl, show vT (x + 1) * B * E4 = E4 * vT (x + 1) * B by generalize E4 = E; ac_rfl] at h2
  exact Int.lt_of_mul_lt_mul_right h2 (Int.le_of_lt hB)
end Go.Proofs.YtbkkepbmaadomaaGreatDoor

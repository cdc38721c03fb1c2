import Derived.Test.YtkgnbcbcgnlodaaGreatDoorPqDAll
import Derived.Test.YtkgnbcbcgnlodaaGreatDoorPqF
namespace Go.Proofs.YtkgnbcbcgnlodaaGreatDoor
open Go.RowKit

/-- What the terms of one variable come to. -/
def gsum (t : Nat → PT) (k : Nat) (x : Int) : Rat := rsum (fun i => if (t i).var = x then (t i).coef else 0) k
theorem rsum_nil {f : Nat → Rat} : ∀ m, (∀ i, i < m → f i = 0) → rsum f m = 0
  | 0, _ => rfl
  | m + 1, h => by rw [rsum_succ, rsum_nil m (fun i hi => h i (by omega)), h m (by omega), Rat.add_zero]
theorem rsum_one (c : Rat) (v : Int) (X : Nat → Rat) : ∀ m : Nat, rsum (fun x => (if v = (x : Int) then c else 0) * X x) m = if 0 ≤ v ∧ v < (m : Int) then c * X v.toNat else 0
  | 0 => by rw [if_neg (by omega)]; rfl
  | m + 1 => by
    rw [rsum_succ, rsum_one c v X m]
    by_cases h : v = (m : Int)
    · subst h
      rw [if_neg (by omega), if_pos rfl, if_pos (by omega), Rat.zero_add]; rfl
    · rw [if_neg h, Rat.zero_mul, Rat.add_zero]
      by_cases h2 : 0 ≤ v ∧ v < (m : Int)
      · rw [if_pos h2, if_pos (by omega)]
      · rw [if_neg h2, if_neg (by omega)]
/-- A row's sum, by its variables. -/
theorem cv_gs (r : PW) (X : Nat → Rat) (m : Nat) : ∀ k, rsum (tv r X m) k = rsum (fun x => gsum r.t k (x : Int) * X x) m
  | 0 => by
    refine (rsum_nil m fun i _ => ?_).symm
    exact Rat.zero_mul _
  | k + 1 => by
    have h : ∀ x : Nat, gsum r.t (k + 1) (x : Int) * X x = gsum r.t k (x : Int) * X x + (if (r.t k).var = (x : Int) then (r.t k).coef else 0) * X x := fun x => by
      show (gsum r.t k (x : Int) + if (r.t k).var = (x : Int) then (r.t k).coef else 0) * X x = _
      exact Rat.add_mul _ _ _
    rw [rsum_succ, cv_gs r X m k, rsum_congr (Y := fun x => gsum r.t k (x : Int) * X x + (if (r.t k).var = (x : Int) then (r.t k).coef else 0) * X x) (fun x _ => h x), rsum_add, rsum_one]
    rfl
theorem rsum_prt (k : Rat) (V : Nat → PV) (X : Nat → Rat) (m : Nat) : rsum (prt k V X) (m + 1) = k + rsum (fun j => (V j).obj * X j) m := by
  induction m with
  | zero => show 0 + k = k + 0; rw [Rat.zero_add, Rat.add_zero]
  | succ m ih => rw [rsum_succ, ih, rsum_succ, Rat.add_assoc]; rfl
theorem cs_lt_iff {r s : Rat} : cs r s < 0 ↔ r < s := by
  unfold cs
  rw [Int.sign_neg_iff, Rat.lt_iff]
  omega
theorem cs_gt_iff {r s : Rat} : 0 < cs r s ↔ s < r := by
  unfold cs
  rw [Int.sign_pos_iff, Rat.lt_iff]
  omega
theorem wthn_iff {a lo hi : Rat} {hlo hhi : Bool} : wthn a hlo lo hhi hi = true ↔ (hlo = true → lo ≤ a) ∧ (hhi = true → a ≤ hi) := by
  unfold wthn
  rw [show (decide (cs a lo < 0)) = decide (a < lo) from decide_eq_decide.2 cs_lt_iff, show (decide (0 < cs a hi)) = decide (hi < a) from decide_eq_decide.2 cs_gt_iff]
  cases hlo <;> cases hhi <;> simp [Rat.not_lt]
end Go.Proofs.YtkgnbcbcgnlodaaGreatDoor

namespace Go.Proofs.YtkgnbcbcgnlodaaGreatDoor
open Go.RowKit

theorem rsum_le {X Y : Nat → Rat} {n : Nat} (h : ∀ i, i < n → X i ≤ Y i) : rsum X n ≤ rsum Y n := by
  induction n with
  | zero => exact Rat.le_refl
  | succ n ih =>
    rw [rsum_succ, rsum_succ]
    have h1 := ih (fun i hi => h i (by omega))
    have h2 := h n (by omega)
    grind
theorem rsum_neg (X : Nat → Rat) (n : Nat) : rsum (fun i => -X i) n = -rsum X n := by
  induction n with
  | zero => show (0 : Rat) = -0; grind
  | succ n ih => rw [rsum_succ, rsum_succ, ih]; grind
theorem rsum_swap (f : Nat → Nat → Rat) (m n : Nat) : rsum (fun j => rsum (fun i => f i j) m) n = rsum (fun i => rsum (fun j => f i j) n) m := by
  induction n with
  | zero =>
    show (0 : Rat) = rsum (fun _ => (0 : Rat)) m
    induction m with
    | zero => rfl
    | succ m ih => rw [rsum_succ, ← ih]; grind
  | succ n ih =>
    rw [rsum_succ, ih, ← rsum_add]
    exact rsum_congr fun i _ => rfl
/-- A point's value. -/
def vlu (P : Prob) (X : Nat → Rat) : Rat := rsum (prt P.k P.V X) (P.vn + 1)
theorem vlu_eq (P : Prob) (X : Nat → Rat) : vlu P X = P.k + rsum (fun j => (P.V j).obj * X j) P.vn := rsum_prt _ _ _ _
/-- Is a better than b, in the problem's sense? -/
def btr (P : Prob) (a b : Rat) : Prop := if P.mx = true then b < a else a < b
end Go.Proofs.YtkgnbcbcgnlodaaGreatDoor

namespace Go.Proofs.YtkgnbcbcgnlodaaGreatDoor
open Go.RowKit

/-- r over D: D and what stands above it are both below pw d. -/
def Wd (d : Nat) (D : Int) (r : Rat) : Prop := 0 < D ∧ D < pw d ∧ ∃ m : Int, r * (D : Rat) = (m : Rat) ∧ (m.natAbs : Int) < pw d
theorem Wd.sz {d : Nat} {D : Int} {r : Rat} (h : Wd d D r) (h1 : 1 ≤ d) : SzR r d := by
  obtain ⟨h0, hd, m, e, hm⟩ := h
  have hD0 : (D : Rat) ≠ 0 := by
    intro e
    have : D = 0 := by exact_mod_cast e
    omega
  have e2 : r = Rat.divInt m D := by rw [Rat.divInt_eq_div, ← e, Rat.div_def, Rat.mul_assoc, Rat.mul_inv_cancel _ hD0, Rat.mul_one]
  rw [e2]
  exact divInt_sz hm (by omega) h1
theorem Wd.mul {d e : Nat} {D E : Int} {r s : Rat} (h : Wd d D r) (k : Wd e E s) : Wd (d + e) (D * E) (r * s) := by
  obtain ⟨h1, h2, m, h3, h4⟩ := h
  obtain ⟨k1, k2, n, k3, k4⟩ := k
  refine ⟨Int.mul_pos h1 k1, (mul_pw (Int.le_of_lt h1) h2 (Int.le_of_lt k1) k2).1, m * n, ?_, mul_lt h4 k4⟩
  rw [Rat.intCast_mul, Rat.intCast_mul, ← h3, ← k3]
  grind
theorem Wd.one {e : Nat} {E : Int} (hE : 0 < E) (he : E < pw e) : Wd e E 1 := ⟨hE, he, E, Rat.one_mul _, by omega⟩
theorem Wd.lift {d e : Nat} {D E : Int} {r : Rat} (h : Wd d D r) (hE : 0 < E) (he : E < pw e) : Wd (d + e) (D * E) r := by
  have h1 := h.mul (Wd.one hE he)
  rwa [Rat.mul_one] at h1
theorem Wd.lift' {d e : Nat} {D E : Int} {r : Rat} (h : Wd d D r) (hE : 0 < E) (he : E < pw e) : Wd (e + d) (E * D) r := by
  rw [Int.mul_comm, Nat.add_comm]; exact h.lift hE he
theorem Wd.up {d e : Nat} {D : Int} {r : Rat} (h : Wd d D r) (hd : d ≤ e) : Wd e D r := by
  obtain ⟨h1, h2, m, h3, h4⟩ := h
  have := pw_mono hd
  exact ⟨h1, by omega, m, h3, by omega⟩
theorem Wd.zero {d : Nat} {D : Int} (hD : 0 < D) (hd : D < pw d) : Wd d D 0 := ⟨hD, hd, 0, by rw [Rat.zero_mul]; rfl, by have := pw_pos d; simpa using this⟩
theorem Wd.self {r : Rat} {T : Nat} (h : SzR r T) : Wd T (r.den : Int) r := by
  refine ⟨by have := r.den_pos; omega, h.2, r.num, ?_, h.1⟩
  have hd : (((r.den : Int)) : Rat) ≠ 0 := by
    intro e
    have e2 : (r.den : Int) = 0 := by exact_mod_cast e
    have := r.den_pos
    omega
  have e1 : r = (r.num : Rat) / ((r.den : Int) : Rat) := by rw [← Rat.divInt_eq_div, Rat.num_divInt_den]
  have e2 : r * ((r.den : Int) : Rat) = (r.num : Rat) / ((r.den : Int) : Rat) * ((r.den : Int) : Rat) := congrArg (· * ((r.den : Int) : Rat)) e1
  rw [e2, Rat.div_mul_cancel hd]
/-- Sums over one number. -/
theorem Wd.sum {Y : Nat → Rat} {d n : Nat} {D : Int} (hD : 0 < D) (hd : D < pw d) (h : ∀ i, i < n → Wd d D (Y i)) (hn : n ≤ 18446744073709551615) : ∀ k, k ≤ n → Wd (d + 1) D (rsum Y k) := by
  have H : ∀ k, k ≤ n → ∃ m : Int, rsum Y k * (D : Rat) = (m : Rat) ∧ (m.natAbs : Int) ≤ (k : Int) * pw d := by
    intro k
    induction k with
    | zero => intro _; exact ⟨0, by show (0 : Rat) * _ = _; rw [Rat.zero_mul]; rfl, by simp⟩
    | succ k ih =>
      intro hk
      obtain ⟨m, h1, h2⟩ := ih (by omega)
      obtain ⟨_, _, q, h3, h4⟩ := h k (by omega)
      refine ⟨m + q, by rw [rsum_succ, Rat.add_mul, h1, h3, Rat.intCast_add], ?_⟩
      rw [show (((k + 1 : Nat) : Int) * pw d) = (k : Int) * pw d + pw d by rw [Int.natCast_add, Int.add_mul, Int.natCast_one, Int.one_mul]]
      omega
  intro k hk
  obtain ⟨m, h1, h2⟩ := H k hk
  have e := pw_succ d
  have p := pw_pos d
  have h3 : (k : Int) * pw d ≤ 18446744073709551615 * pw d := Int.mul_le_mul_of_nonneg_right (by omega) (Int.le_of_lt p)
  exact ⟨hD, by omega, m, h1, by omega⟩
/-- Families, each over a number of its own, over one number. -/
theorem Wd.fam {Z : Nat → Nat} {D : Nat → Int} {X : Nat → Nat → Rat} {N : Nat → Nat} : ∀ n, (∀ i, i < n → 0 < D i ∧ D i < pw (Z i) ∧ ∀ k, k < N i → Wd (Z i) (D i) (X i k)) → ∃ E, 0 < E ∧ E < pw (tot Z n) ∧ ∀ i, i < n → ∀ k, k < N i → Wd (tot Z n) E (X i k)
  | 0, _ => ⟨1, by decide, by show (1 : Int) < pw 1; decide, fun i hi => by omega⟩
  | n + 1, h => by
    obtain ⟨E, e1, e2, e3⟩ := Wd.fam n (fun i hi => h i (by omega))
    obtain ⟨d1, d2, d3⟩ := h n (by omega)
    have q := mul_pw (Int.le_of_lt e1) e2 (Int.le_of_lt d1) d2
    have ht : tot Z (n + 1) = tot Z n + Z n + 1 := rfl
    refine ⟨E * D n, Int.mul_pos e1 d1, Int.lt_of_lt_of_le q.1 (pw_mono (by omega)), fun i hi k hk => ?_⟩
    rcases (by omega : i < n ∨ i = n) with hl | rfl
    · exact ((e3 i hl k hk).lift d1 d2).up (by omega)
    · exact ((d3 k hk).lift' e1 e2).up (by omega)
/-- All of a list over one number. -/
theorem Wd.list {X : Nat → Rat} {Z : Nat → Nat} {n K : Nat} (h : ∀ i, i < n → SzR (X i) (Z i)) (hK : tot Z n ≤ K) : ∃ D, 0 < D ∧ D < pw K ∧ ∀ i, i < n → Wd K D (X i) := by
  obtain ⟨E, e1, e2, e3⟩ := Wd.fam (Z := Z) (D := fun i => ((X i).den : Int)) (X := fun i _ => X i) (N := fun _ => 1) n (fun i hi => ⟨(Wd.self (h i hi)).1, (Wd.self (h i hi)).2.1, fun _ _ => Wd.self (h i hi)⟩)
  exact ⟨E, e1, Int.lt_of_lt_of_le e2 (pw_mono hK), fun i hi => (e3 i hi 0 (by decide)).up hK⟩
theorem PQ.row {w : World} {P : Prob} (hP : PQ w P) {i : Nat} (hi : i < P.rn) : ∃ b o, RowAt w b o (P.R i) (P.ZR i) := by
  rcases hP.r with h0 | ⟨b, o, _, h⟩
  · omega
  · exact ⟨_, _, h i hi⟩
theorem PQ.var {w : World} {P : Prob} (hP : PQ w P) {j : Nat} (hj : j < P.vn) : ∃ b o, VarAt w b o (P.V j) (P.ZV j) := by
  rcases hP.v with h0 | ⟨b, o, _, h⟩
  · omega
  · exact ⟨_, _, h j hj⟩
end Go.Proofs.YtkgnbcbcgnlodaaGreatDoor

namespace Go.Proofs.YtkgnbcbcgnlodaaGreatDoor
open Go.RowKit

end Go.Proofs.YtkgnbcbcgnlodaaGreatDoor

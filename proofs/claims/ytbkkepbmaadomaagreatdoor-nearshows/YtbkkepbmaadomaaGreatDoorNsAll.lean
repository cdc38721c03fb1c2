import Derived.Test.YtbkkepbmaadomaaGreatDoorNrNAll
import Derived.Test.YtbkkepbmaadomaaGreatDoorNrTAll
import Derived.Test.YtbkkepbmaadomaaGreatDoorNrKAll
import Derived.Laws.FloatArith
namespace Go.Proofs.YtbkkepbmaadomaaGreatDoor
open Go.RowKit

/-- A float's number, in 2^-1074. -/
def Gz (k : Int) : Int := if k < 0 then -((NB 4503599627370496 k.natAbs : Nat) : Int) else ((NB 4503599627370496 k.natAbs : Nat) : Int)
def exr (k : Int) : Rat := Rat.divInt (Gz k) E4
theorem Gz_ws (k : Int) : Gz k = ws (decide (k < 0)) ((NB 4503599627370496 k.natAbs : Nat) : Int) := by
  unfold Gz ws
  by_cases h : k < 0 <;> simp [h]
theorem ws_mulR (b : Bool) (x c : Int) : ws b (x * c) = ws b x * c := by unfold ws; cases b <;> simp [Int.neg_mul]
theorem exrU {b : Bool} {m N : Int} {q s : Nat} (hN : N = m * 2 ^ s) (h : s = q + 1074) : Rat.divInt (ws b (m * 2 ^ q)) (ws false 1) = Rat.divInt (ws b N) E4 := by
  have e : N = m * 2 ^ q * E4 := by rw [hN, h, Int.pow_add, Int.mul_assoc]; rfl
  have hE := E4_pos
  rw [e, ws_mulR b (m * 2 ^ q) E4, show ws false 1 = (1 : Int) from rfl]
  have := Rat.divInt_mul_right (n := ws b (m * 2 ^ q)) (d := 1) (a := E4) (by omega)
  rw [← this, Int.one_mul]
theorem exrD {b : Bool} {m N : Int} {q s : Nat} (hN : N = m * 2 ^ s) (h : q + s = 1074) : Rat.divInt (ws b m) (ws false (1 * 2 ^ q)) = Rat.divInt (ws b N) E4 := by
  have hp : (0 : Int) < 2 ^ s := Int.pow_pos (by decide)
  rw [hN, ws_mulR b m (2 ^ s), show ws false (1 * 2 ^ q) = (2 : Int) ^ q by rw [Int.one_mul]; rfl, ← E4_split h]
  have := Rat.divInt_mul_right (n := ws b m) (d := 2 ^ q) (a := 2 ^ s) (by omega)
  rw [← this]
theorem fb_mod {k : Int} (h1 : -9218868437227405312 ≤ k) (h2 : k ≤ 9218868437227405312) : fb k % 9223372036854775808 = k.natAbs := by
  unfold fb; split <;> omega
theorem lt0_fb {k : Int} (h1 : -9218868437227405312 ≤ k) (h2 : k ≤ 9218868437227405312) : (Ieee.double.order (fb k) 0 == some .lt) = decide (k < 0) := by
  have : Ieee.double.order (fb k) (fb 0) = some (compare k 0) := order_fb h1 h2 (by decide) (by decide)
  rw [show fb 0 = 0 from rfl] at this
  rw [this, cmpLt]
/-- near.Exact by a float's place -/
theorem exactK (k : Int) (w : World) (h1 : -9218868437227405312 < k) (h2 : k < 9218868437227405312) (hT : TB w) :
    Calls Tryz.prog 11 #[.float .f64 (fb k)] w fun e w' => ∃ f c n k2 c' n' k', e = .returned (.tuple #[.agg #[.bool f, .slice c n k2, .slice c' n' k'], .nilIface]) ∧ GR w' w.heap.size f c n k2 c' n' k' (exr k) 1026 ∧ Below w.heap.size w w' := by
  have hm := fb_mod (k := k) (by omega) (by omega)
  have hl := (fb_ok (z := k) (by omega) (by omega)).2.2
  have hs := lt0_fb (k := k) (by omega) (by omega)
  obtain ⟨m, s, ek, hc⟩ := NB_at (B := 4503599627370496) (by decide) k.natAbs
  obtain ⟨e1, e2⟩ := NB_of hc
  rw [← ek] at e1 e2
  have hst : steps k.natAbs = s := e1
  have hN : ((NB 4503599627370496 k.natAbs : Nat) : Int) = (m : Int) * 2 ^ s := by rw [e2, Int.natCast_mul, Int.natCast_pow]; rfl
  have hmm : ((fb k % 9223372036854775808 : Nat) : Int) - (steps (fb k % 9223372036854775808) : Int) * 4503599627370496 = (m : Int) := by rw [hm, hst]; omega
  unfold exr
  rw [Gz_ws]
  by_cases h : 1074 ≤ s
  · refine (exactOkU (m := (m : Int)) (q := s - 1074) (sg := decide (k < 0)) w hl (by omega) hmm (by omega) (by omega) (by rw [hm, hst]; omega) (by omega) hs hT).mono ?_
    rintro e w1 ⟨f, c, n, k2, c', n', k', rfl, G, hx⟩
    exact ⟨f, c, n, k2, c', n', k', rfl, G.val (exrU hN (by omega)), hx⟩
  · refine (exactOkD (m := (m : Int)) (q := 1074 - s) (sg := decide (k < 0)) w hl (by omega) hmm (by omega) (by omega) (by rw [hm, hst]; omega) (by omega) hs hT).mono ?_
    rintro e w1 ⟨f, c, n, k2, c', n', k', rfl, G, hx⟩
    exact ⟨f, c, n, k2, c', n', k', rfl, G.val (exrD hN (by omega)), hx⟩
theorem nextK {k : Int} {F : Nat} (w : World) (h1 : -9218868437227405312 ≤ k) (h2 : k < 9218868437227405312) (hF : fb (k + 1) = F) : Calls Tryz.prog 12 #[.float .f64 (fb k)] w fun e w' => e = .returned (.float .f64 F) ∧ w' = w := by
  subst hF
  have hm := fb_mod (k := k) (by omega) (by omega)
  have hl := (fb_ok (z := k) (by omega) (by omega)).2.2
  by_cases h : k < 0
  · have := nextNeg (b := fb k) (r := k.natAbs) w hl hm (by omega) (by omega) (by unfold fb; rw [if_pos h]; omega)
    rw [show (if k.natAbs - 1 = 0 then 0 else k.natAbs - 1 + 9223372036854775808) = fb (k + 1) by
      unfold fb
      by_cases h0 : k = -1
      · subst h0; rfl
      · rw [if_neg (by omega), if_pos (by omega)]; omega] at this
    exact this
  · have := nextPos (b := fb k) (r := k.natAbs) w hl hm (by omega) (.inr (by unfold fb; rw [if_neg h]; omega))
    rw [show k.natAbs + 1 = fb (k + 1) by unfold fb; rw [if_neg (by omega)]; omega] at this
    exact this
theorem sub_fin {b : Nat} (h : b % 9223372036854775808 < 9218868437227405312) : Ieee.double.sub b b = some 0 := by
  obtain ⟨m, i, e, -⟩ := rd_fin h
  unfold Ieee.Format.sub
  rw [e]
  have z1 : (m : Int) + -(m : Int) = 0 := by omega
  have z2 : -(m : Int) + (m : Int) = 0 := by omega
  cases (b / 9223372036854775808 % 2 == 1) <;> simp [z1, z2, Ieee.Datum.opposite, Ieee.Datum.sum, Ieee.signed, Ieee.Format.write, Ieee.Format.nearest, Ieee.Format.word]
theorem sub_inf {b : Nat} (h : b % 9223372036854775808 = 9218868437227405312) : Ieee.double.sub b b = none := by
  unfold Ieee.Format.sub
  rw [rd_inf h]
  cases (b / 9223372036854775808 % 2 == 1) <;> rfl
theorem finiteT {b : Nat} (w : World) (h : b % 9223372036854775808 < 9218868437227405312) : Calls Tryz.prog 10 #[.float .f64 b] w fun e w' => e = .returned (.bool true) ∧ Below w.heap.size w w' := by
  have hs := run_float_arith (P := Tryz.prog) w .sub 25 .f64 b b 0 (sub_fin h)
  have ho : FloatKind.f64.format.order 0 0 = some .eq := by decide +kernel
  clear h
  go_enter Tryz.func10, Tryz.ntmps10
  go_wp2
  go_ret
  exact ⟨by simp, Below.refl _ _⟩
theorem nan_order {N : Nat} (h : 9218868437227405312 < N % 9223372036854775808) : Ieee.double.order N 0 = none := by
  unfold Ieee.Format.order
  rw [rd64, if_neg (by omega), if_neg (by omega), if_neg (by omega)]
  rfl
theorem finiteF {b : Nat} (w : World) (h : b % 9223372036854775808 = 9218868437227405312) : Calls Tryz.prog 10 #[.float .f64 b] w fun e w' => e = .returned (.bool false) ∧ Below w.heap.size w w' := by
  obtain ⟨N, hN, hs⟩ : ∃ N, 9218868437227405312 < N % 9223372036854775808 ∧ (binOp .sub 25 (.float .f64 b) (.float .f64 b)).run Tryz.prog w = .ok (.float .f64 N) w.drew := by
    refine ⟨Question.cut (.nanBits .f64 b b) (w.tape w.drawn (.nanBits .f64 b b)), ?_, ?_⟩
    · simp only [Question.cut]
      generalize w.tape w.drawn (.nanBits .f64 b b) = t
      have h1 := Nat.mod_lt (t / 2) (show 0 < 2 ^ 52 - 1 by decide)
      generalize t / 2 % (2 ^ 52 - 1) = v at *
      rcases Nat.mod_two_eq_zero_or_one t with h2 | h2 <;> rw [h2] <;> omega
    · have e : FloatKind.f64.format.sub b b = none := sub_inf h
      simp [binOp, Op.floatArith, e, Question.forced]
  have ho : FloatKind.f64.format.order N 0 = none := nan_order hN
  clear h hN
  go_enter Tryz.func10, Tryz.ntmps10
  go_wp2
  go_ret
  exact ⟨by simp, belN (Below.refl _ w) 1⟩
end Go.Proofs.YtbkkepbmaadomaaGreatDoor

namespace Go.Proofs.YtbkkepbmaadomaaGreatDoor
open Go.RowKit

def Nn (k : Nat) : Int := ((NB 4503599627370496 k : Nat) : Int)
theorem Nn_two (k : Nat) : bnd (2 * k) = 2 * Nn k := by
  unfold bnd Nn
  rw [show 9007199254740992 = 2 * 4503599627370496 from rfl, NB_two (by decide), Int.natCast_mul]; rfl
theorem Nn_mid (k : Nat) : bnd (2 * k + 1) = Nn k + Nn (k + 1) := by
  obtain ⟨m, s, ek, hc⟩ := NB_at (B := 4503599627370496) (by decide) k
  obtain ⟨e1, e2⟩ := NB_of hc
  rw [← ek] at e1 e2
  have h1 : (NB 4503599627370496 k : Nat) = m * 2 ^ s := e2
  have h2 := NB_succ (B := 4503599627370496) (by decide) k
  rw [e1] at h2
  have h3 := (NB_of (B := 9007199254740992) (m := 2 * m + 1) (s := s) (by omega)).2
  unfold bnd Nn
  rw [show 2 * k + 1 = s * 9007199254740992 + (2 * m + 1) by omega, h3, h2, h1, ← Int.natCast_add]
  congr 1
  rw [Nat.add_mul, Nat.mul_assoc]
  omega
/-- The half above nought. -/
theorem Ps.facts {x y : Int} {t k : Nat} (h : Ps x y t) (hy : 0 < y) (hk : t / 4 = k) :
    (t % 4 = 0 → Nn k * y = x * E4) ∧ (¬ t % 4 = 0 → Nn k * y < x * E4) ∧ (k + 1 < 9218868437227405312 → ¬ t % 4 = 0 → x * E4 < Nn (k + 1) * y) ∧ (t % 4 = 1 ∨ t % 4 = 2 → 2 * (x * E4) ≤ (Nn k + Nn (k + 1)) * y) ∧ (t % 4 = 2 ∨ t % 4 = 3 → (Nn k + Nn (k + 1)) * y ≤ 2 * (x * E4)) := by
  have ht := h.1
  have c : ∀ n : Nat, bnd (2 * n) * y = 2 * (Nn n * y) := fun n => by rw [Nn_two, Int.mul_assoc]
  refine ⟨fun e => ?_, fun e => ?_, fun e1 e => ?_, fun e => ?_, fun e => ?_⟩
  · have := h.eqB (i := 2 * k) (by omega); rw [c] at this; omega
  · have := h.ltB (i := 2 * k) hy (by omega); rw [c] at this; omega
  · have := h.gtB (i := 2 * (k + 1)) hy (by omega) (by omega); rw [c] at this; omega
  · rw [← Nn_mid]
    rcases e with e | e
    · exact Int.le_of_lt (h.gtB (i := 2 * k + 1) hy (by omega) (by omega))
    · exact Int.le_of_eq (h.eqB (i := 2 * k + 1) (by omega)).symm
  · rw [← Nn_mid]
    rcases e with e | e
    · exact Int.le_of_eq (h.eqB (i := 2 * k + 1) (by omega))
    · exact Int.le_of_lt (h.ltB (i := 2 * k + 1) hy (by omega))
theorem Gz_pos {k : Int} (h : 0 ≤ k) {n : Nat} (e : k = n) : Gz k = Nn n := by
  unfold Gz Nn; rw [if_neg (by omega), show k.natAbs = n by omega]
theorem Gz_neg {k : Int} {n : Nat} (e : k = -(n : Int)) : Gz k = -Nn n := by
  unfold Gz Nn
  rw [show k.natAbs = n by omega]
  by_cases h : k < 0
  · rw [if_pos h]
  · have h0 : n = 0 := by omega
    subst h0
    rw [if_neg h]; rfl
/-- How a fraction stands to its neighbours. -/
structure Nb (r : Rat) (d u f : Int) : Prop where
  one : u = d + 1
  lo : -9218868437227405312 < d → Gz d * r.den < r.num * E4
  hi : u < 9218868437227405312 → r.num * E4 < Gz u * r.den
  fd : f = d → 2 * (r.num * E4) ≤ (Gz d + Gz u) * r.den
  fu : f = u → (Gz d + Gz u) * r.den ≤ 2 * (r.num * E4)
theorem Pz.at0 {r : Rat} {z : Int} (h : Pz r z) (h4 : z % 4 = 0) : upz z = dnz z ∧ flz z = dnz z ∧ sdz z = 0 ∧ Gz (dnz z) * r.den = r.num * E4 ∧ -9218868437227405312 < dnz z ∧ dnz z < 9218868437227405312 := by
  have hb := h.bnd
  refine ⟨by unfold upz dnz; omega, ?_, by unfold sdz; rw [if_pos h4], ?_, by unfold dnz; omega, by unfold dnz; omega⟩
  · rcases flz_or z with e | e
    · exact e
    · rw [e]; unfold upz dnz; omega
  · rcases h with ⟨h1, rfl⟩ | ⟨h1, h2, h3⟩ | ⟨h1, h2, h3⟩
    · rw [h1, Int.zero_mul]; exact (Int.zero_mul _)
    · have := (h3.facts (den_pos r) rfl).1 (by omega)
      rw [Gz_pos (k := dnz z) (n := z.toNat / 4) (by unfold dnz; omega) (by unfold dnz; omega)]; exact this
    · have := (h3.facts (den_pos r) rfl).1 (by omega)
      rw [Gz_neg (k := dnz z) (n := (-z).toNat / 4) (by unfold dnz; omega), Int.neg_mul, this, Int.neg_mul]; omega
theorem Pz.nb {r : Rat} {z : Int} (h : Pz r z) (h4 : ¬ z % 4 = 0) : Nb r (dnz z) (upz z) (flz z) := by
  have hb := h.bnd
  have hd := den_pos r
  rcases h with ⟨h1, rfl⟩ | ⟨h1, h2, h3⟩ | ⟨h1, h2, h3⟩
  · exact absurd rfl h4
  · obtain ⟨-, f2, f3, f4, f5⟩ := h3.facts hd rfl
    have ed : dnz z = ((z.toNat / 4 : Nat) : Int) := by unfold dnz; omega
    have eu : upz z = ((z.toNat / 4 + 1 : Nat) : Int) := by unfold upz; omega
    have gd := Gz_pos (by omega) ed
    have gu := Gz_pos (by omega) eu
    have ef : flz z = ((nrz z.toNat : Nat) : Int) := by unfold flz; rw [if_neg (by omega)]
    refine ⟨by omega, fun _ => ?_, fun e => ?_, fun e => ?_, fun e => ?_⟩
    · rw [gd]; exact f2 (by omega)
    · rw [gu]; exact f3 (by omega) (by omega)
    · rw [gd, gu]; exact f4 (by rw [ef, ed] at e; unfold nrz at e; omega)
    · rw [gd, gu]; exact f5 (by rw [ef, eu] at e; unfold nrz at e; omega)
  · obtain ⟨-, f2, f3, f4, f5⟩ := h3.facts hd rfl
    have eu : upz z = -(((-z).toNat / 4 : Nat) : Int) := by unfold upz; omega
    have ed : dnz z = -(((-z).toNat / 4 + 1 : Nat) : Int) := by unfold dnz; omega
    have gd := Gz_neg ed
    have gu := Gz_neg eu
    have ef : flz z = -((nrz (-z).toNat : Nat) : Int) := by unfold flz; rw [if_pos (by omega)]
    have k1 : -r.num * E4 = -(r.num * E4) := Int.neg_mul _ _
    rw [k1] at f2 f3 f4 f5
    refine ⟨by omega, fun e => ?_, fun e => ?_, fun e => ?_, fun e => ?_⟩
    · rw [gd, Int.neg_mul]; have := f3 (by omega) (by omega); omega
    · rw [gu, Int.neg_mul]; have := f2 (by omega); omega
    · rw [gd, gu, ← Int.neg_add, Int.neg_mul, Int.add_comm (Nn _)]; have := f5 (by rw [ef, ed] at e; unfold nrz at e; omega); omega
    · rw [gd, gu, ← Int.neg_add, Int.neg_mul, Int.add_comm (Nn _)]; have := f4 (by rw [ef, eu] at e; unfold nrz at e; omega); omega
theorem dle {x1 y1 x2 y2 : Int} (hy1 : 0 < y1) (hy2 : 0 < y2) : Rat.divInt x1 y1 ≤ Rat.divInt x2 y2 ↔ x1 * y2 ≤ x2 * y1 := by
  rw [← cs_le]
  unfold cs
  rw [← cmp_sign hy1 hy2 rfl rfl]
  constructor
  · intro h
    rcases Int.lt_or_le (x2 * y1) (x1 * y2) with h1 | h1
    · rw [Int.sign_eq_one_of_pos (by omega)] at h; omega
    · exact h1
  · intro h
    rcases (by omega : x1 * y2 - x2 * y1 = 0 ∨ x1 * y2 - x2 * y1 < 0) with h1 | h1
    · rw [h1]; decide
    · rw [Int.sign_eq_neg_one_of_neg h1]; decide
theorem exr_le {k : Int} {r : Rat} : exr k ≤ r ↔ Gz k * r.den ≤ r.num * E4 := by
  have := dle (x1 := Gz k) (y1 := E4) (x2 := r.num) (y2 := (r.den : Int)) E4_pos (den_pos r)
  rw [Rat.num_divInt_den] at this
  exact this
theorem le_exr {k : Int} {r : Rat} : r ≤ exr k ↔ r.num * E4 ≤ Gz k * r.den := by
  have := dle (x1 := r.num) (y1 := (r.den : Int)) (x2 := Gz k) (y2 := E4) (den_pos r) E4_pos
  rw [Rat.num_divInt_den] at this
  exact this
theorem sub_exr (k : Int) (r : Rat) : r - exr k = Rat.divInt (r.num * E4 - Gz k * r.den) (r.den * E4) := by
  have h1 := E4_pos
  have h2 := den_pos r
  have := Rat.divInt_sub_divInt r.num (Gz k) (d₁ := (r.den : Int)) (d₂ := E4) (by omega) (by omega)
  rw [Rat.num_divInt_den] at this
  exact this
theorem exr_sub (k : Int) (r : Rat) : exr k - r = Rat.divInt (Gz k * r.den - r.num * E4) (E4 * r.den) := by
  have h1 := E4_pos
  have h2 := den_pos r
  have := Rat.divInt_sub_divInt (Gz k) r.num (d₁ := E4) (d₂ := (r.den : Int)) (by omega) (by omega)
  rw [Rat.num_divInt_den] at this
  exact this
theorem mid_le {d u : Int} {r : Rat} (h : 2 * (r.num * E4) ≤ (Gz d + Gz u) * r.den) : r - exr d ≤ exr u - r := by
  have h1 := Int.mul_pos (den_pos r) E4_pos
  have h2 := Int.mul_pos E4_pos (den_pos r)
  rw [sub_exr, exr_sub, dle h1 h2, Int.mul_comm E4]
  refine Int.mul_le_mul_of_nonneg_right ?_ (Int.le_of_lt h1)
  rw [Int.add_mul] at h
  omega
theorem mid_ge {d u : Int} {r : Rat} (h : (Gz d + Gz u) * r.den ≤ 2 * (r.num * E4)) : exr u - r ≤ r - exr d := by
  have h1 := Int.mul_pos (den_pos r) E4_pos
  have h2 := Int.mul_pos E4_pos (den_pos r)
  rw [sub_exr, exr_sub, dle h2 h1, Int.mul_comm E4]
  refine Int.mul_le_mul_of_nonneg_right ?_ (Int.le_of_lt h1)
  rw [Int.add_mul] at h
  omega
end Go.Proofs.YtbkkepbmaadomaaGreatDoor

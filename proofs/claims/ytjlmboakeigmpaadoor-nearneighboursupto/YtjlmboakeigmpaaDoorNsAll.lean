import Derived.Test.YtjlmboakeigmpaaDoorNrNAll
import Derived.Test.YtjlmboakeigmpaaDoorNrT
import Derived.Test.YtjlmboakeigmpaaDoorNrJ
import Derived.Laws.FloatArith
import Derived.Test.YtjlmboakeigmpaaDoorR3M
namespace Go.Proofs.YtjlmboakeigmpaaDoor
open Go.RowKit

/-- A float's number, in 2^-1074. -/
def Gz (k : Int) : Int := if k < 0 then -((NB 4503599627370496 k.natAbs : Nat) : Int) else ((NB 4503599627370496 k.natAbs : Nat) : Int)
def exr (k : Int) : Rat := Rat.divInt (Gz k) E4
theorem Gz_ws (k : Int) : Gz k = ws (decide (k < 0)) ((NB 4503599627370496 k.natAbs : Nat) : Int) := by
  unfold Gz ws
  by_cases h : k < 0 <;> simp [h]
theorem ws_mulR (b : Bool) (x c : Int) : ws b (x * c) = ws b x * c := by unfold ws; cases b <;> simp [Int.neg_mul]
theorem exrU {b : Bool} {m N : Int} {q s : Nat} (hN : N = m * 2 ^ s) (h : s = q + 1074) : Rat.divInt (ws b (m * 2 ^ q)) (ws false 1) = Rat.divInt (ws b N) E4 := by
  have e : N = m * 2 ^ q * E4 := by rw [hN, h, Int.pow_add, Int.mul_assoc]; rfl
  have hE := E4_pos
  rw [e, ws_mulR b (m * 2 ^ q) E4, show ws false 1 = (1 : Int) from rfl]
  have := Rat.divInt_mul_right (n := ws b (m * 2 ^ q)) (d := 1) (a := E4) (by omega)
  rw [← this, Int.one_mul]
theorem exrD {b : Bool} {m N : Int} {q s : Nat} (hN : N = m * 2 ^ s) (h : q + s = 1074) : Rat.divInt (ws b m) (ws false (1 * 2 ^ q)) = Rat.divInt (ws b N) E4 := by
  have hp : (0 : Int) < 2 ^ s := Int.pow_pos (by decide)
  rw [hN, ws_mulR b m (2 ^ s), show ws false (1 * 2 ^ q) = (2 : Int) ^ q by rw [Int.one_mul]; rfl, ← E4_split h]
  have := Rat.divInt_mul_right (n := ws b m) (d := 2 ^ q) (a := 2 ^ s) (by omega)
  rw [← this]
theorem fb_mod {k : Int} (h1 : -9218868437227405312 ≤ k) (h2 : k ≤ 9218868437227405312) : fb k % 9223372036854775808 = k.natAbs := by
  unfold fb; split <;> omega
theorem lt0_fb {k : Int} (h1 : -9218868437227405312 ≤ k) (h2 : k ≤ 9218868437227405312) : (Ieee.double.order (fb k) 0 == some .lt) = decide (k < 0) := by
  have : Ieee.double.order (fb k) (fb 0) = some (compare k 0) := order_fb h1 h2 (by decide) (by decide)
  rw [show fb 0 = 0 from rfl] at this
  rw [this, cmpLt]
/-- near.Exact by a float's place -/
theorem exactK (k : Int) (w : World) (h1 : -9218868437227405312 < k) (h2 : k < 9218868437227405312) (hT : TB w) :
    Calls Tryd.prog 19 #[.float .f64 (fb k)] w fun e w' => ∃ f c n k2 c' n' k', e = .returned (.tuple #[.agg #[.bool f, .slice c n k2, .slice c' n' k'], .nilIface]) ∧ GR w' w.heap.size f c n k2 c' n' k' (exr k) 1026 ∧ Below w.heap.size w w' := by
  have hm := fb_mod (k := k) (by omega) (by omega)
  have hl := (fb_ok (z := k) (by omega) (by omega)).2.2
  have hs := lt0_fb (k := k) (by omega) (by omega)
  obtain ⟨m, s, ek, hc⟩ := NB_at (B := 4503599627370496) (by decide) k.natAbs
  obtain ⟨e1, e2⟩ := NB_of hc
  rw [← ek] at e1 e2
  have hst : steps k.natAbs = s := e1
  have hN : ((NB 4503599627370496 k.natAbs : Nat) : Int) = (m : Int) * 2 ^ s := by rw [e2, Int.natCast_mul, Int.natCast_pow]; rfl
  have hmm : ((fb k % 9223372036854775808 : Nat) : Int) - (steps (fb k % 9223372036854775808) : Int) * 4503599627370496 = (m : Int) := by rw [hm, hst]; omega
  unfold exr
  rw [Gz_ws]
  by_cases h : 1074 ≤ s
  · refine (exactOkU (m := (m : Int)) (q := s - 1074) (sg := decide (k < 0)) w hl (by omega) hmm (by omega) (by omega) (by rw [hm, hst]; omega) (by omega) hs hT).mono ?_
    rintro e w1 ⟨f, c, n, k2, c', n', k', rfl, G, hx⟩
    exact ⟨f, c, n, k2, c', n', k', rfl, G.val (exrU hN (by omega)), hx⟩
  · refine (exactOkD (m := (m : Int)) (q := 1074 - s) (sg := decide (k < 0)) w hl (by omega) hmm (by omega) (by omega) (by rw [hm, hst]; omega) (by omega) hs hT).mono ?_
    rintro e w1 ⟨f, c, n, k2, c', n', k', rfl, G, hx⟩
    exact ⟨f, c, n, k2, c', n', k', rfl, G.val (exrD hN (by omega)), hx⟩
theorem nextK {k : Int} {F : Nat} (w : World) (h1 : -9218868437227405312 ≤ k) (h2 : k < 9218868437227405312) (hF : fb (k + 1) = F) : Calls Tryd.prog 17 #[.float .f64 (fb k)] w fun e w' => e = .returned (.float .f64 F) ∧ w' = w := by
  subst hF
  have hm := fb_mod (k := k) (by omega) (by omega)
  have hl := (fb_ok (z := k) (by omega) (by omega)).2.2
  by_cases h : k < 0
  · have := nextNeg (b := fb k) (r := k.natAbs) w hl hm (by omega) (by omega) (by unfold fb; rw [if_pos h]; omega)
    rw [show (if k.natAbs - 1 = 0 then 0 else k.natAbs - 1 + 9223372036854775808) = fb (k + 1) by
      unfold fb
      by_cases h0 : k = -1
      · subst h0; rfl
      · rw [if_neg (by omega), if_pos (by omega)]; omega] at this
    exact this
  · have := nextPos (b := fb k) (r := k.natAbs) w hl hm (by omega) (.inr (by unfold fb; rw [if_neg h]; omega))
    rw [show k.natAbs + 1 = fb (k + 1) by unfold fb; rw [if_neg (by omega)]; omega] at this
    exact this
theorem sub_fin {b : Nat} (h : b % 9223372036854775808 < 9218868437227405312) : Ieee.double.sub b b = some 0 := by
  obtain ⟨m, i, e, -⟩ := rd_fin h
  unfold Ieee.Format.sub
  rw [e]
  have z1 : (m : Int) + -(m : Int) = 0 := by omega
  have z2 : -(m : Int) + (m : Int) = 0 := by omega
  cases (b / 9223372036854775808 % 2 == 1) <;> simp [z1, z2, Ieee.Datum.opposite, Ieee.Datum.sum, Ieee.signed, Ieee.Format.write, Ieee.Format.nearest, Ieee.Format.word]
theorem sub_inf {b : Nat} (h : b % 9223372036854775808 = 9218868437227405312) : Ieee.double.sub b b = none := by
  unfold Ieee.Format.sub
  rw [rd_inf h]
  cases (b / 9223372036854775808 % 2 == 1) <;> rfl
theorem finiteT {b : Nat} (w : World) (h : b % 9223372036854775808 < 9218868437227405312) : Calls Tryd.prog 18 #[.float .f64 b] w fun e w' => e = .returned (.bool true) ∧ Below w.heap.size w w' := by
  have hs := run_float_arith (P := Tryd.prog) w .sub 33 .f64 b b 0 (sub_fin h)
  have ho : FloatKind.f64.format.order 0 0 = some .eq := by decide +kernel
  clear h
  go_enter Tryd.func18, Tryd.ntmps18
  go_wp2
  go_ret
  exact ⟨by simp, Below.refl _ _⟩
theorem nan_order {N : Nat} (h : 9218868437227405312 < N % 9223372036854775808) : Ieee.double.order N 0 = none := by
  unfold Ieee.Format.order
  rw [rd64, if_neg (by omega), if_neg (by omega), if_neg (by omega)]
  rfl
theorem finiteF {b : Nat} (w : World) (h : b % 9223372036854775808 = 9218868437227405312) : Calls Tryd.prog 18 #[.float .f64 b] w fun e w' => e = .returned (.bool false) ∧ Below w.heap.size w w' := by
  obtain ⟨N, hN, hs⟩ : ∃ N, 9218868437227405312 < N % 9223372036854775808 ∧ (binOp .sub 33 (.float .f64 b) (.float .f64 b)).run Tryd.prog w = .ok (.float .f64 N) w.drew := by
    refine ⟨Question.cut (.nanBits .f64 b b) (w.tape w.drawn (.nanBits .f64 b b)), ?_, ?_⟩
    · simp only [Question.cut]
      generalize w.tape w.drawn (.nanBits .f64 b b) = t
      have h1 := Nat.mod_lt (t / 2) (show 0 < 2 ^ 52 - 1 by decide)
      generalize t / 2 % (2 ^ 52 - 1) = v at *
      rcases Nat.mod_two_eq_zero_or_one t with h2 | h2 <;> rw [h2] <;> omega
    · have e : FloatKind.f64.format.sub b b = none := sub_inf h
      simp [binOp, Op.floatArith, e, Question.forced]
  have ho : FloatKind.f64.format.order N 0 = none := nan_order hN
  clear h hN
  go_enter Tryd.func18, Tryd.ntmps18
  go_wp2
  go_ret
  exact ⟨by simp, belN (Below.refl _ w) 1⟩
end Go.Proofs.YtjlmboakeigmpaaDoor

namespace Go.Proofs.YtjlmboakeigmpaaDoor
open Go.RowKit

def Nn (k : Nat) : Int := ((NB 4503599627370496 k : Nat) : Int)
theorem Nn_two (k : Nat) : bnd (2 * k) = 2 * Nn k := by
  unfold bnd Nn
  rw [show 9007199254740992 = 2 * 4503599627370496 from rfl, NB_two (by decide), Int.natCast_mul]; rfl
theorem Nn_mid (k : Nat) : bnd (2 * k + 1) = Nn k + Nn (k + 1) := by
  obtain ⟨m, s, ek, hc⟩ := NB_at (B := 4503599627370496) (by decide) k
  obtain ⟨e1, e2⟩ := NB_of hc
  rw [← ek] at e1 e2
  have h1 : (NB 4503599627370496 k : Nat) = m * 2 ^ s := e2
  have h2 := NB_succ (B := 4503599627370496) (by decide) k
  rw [e1] at h2
  have h3 := (NB_of (B := 9007199254740992) (m := 2 * m + 1) (s := s) (by omega)).2
  unfold bnd Nn
  rw [show 2 * k + 1 = s * 9007199254740992 + (2 * m + 1) by omega, h3, h2, h1, ← Int.natCast_add]
  congr 1
  rw [Nat.add_mul, Nat.mul_assoc]
  omega
/-- The half above nought. -/
theorem Ps.facts {x y : Int} {t k : Nat} (h : Ps x y t) (hy : 0 < y) (hk : t / 4 = k) :
    (t % 4 = 0 → Nn k * y = x * E4) ∧ (¬ t % 4 = 0 → Nn k * y < x * E4) ∧ (k + 1 < 9218868437227405312 → ¬ t % 4 = 0 → x * E4 < Nn (k + 1) * y) ∧ (t % 4 = 1 ∨ t % 4 = 2 → 2 * (x * E4) ≤ (Nn k + Nn (k + 1)) * y) ∧ (t % 4 = 2 ∨ t % 4 = 3 → (Nn k + Nn (k + 1)) * y ≤ 2 * (x * E4)) := by
  have ht := h.1
  have c : ∀ n : Nat, bnd (2 * n) * y = 2 * (Nn n * y) := fun n => by rw [Nn_two, Int.mul_assoc]
  refine ⟨fun e => ?_, fun e => ?_, fun e1 e => ?_, fun e => ?_, fun e => ?_⟩
  · have := h.eqB (i := 2 * k) (by omega); rw [c] at this; omega
  · have := h.ltB (i := 2 * k) hy (by omega); rw [c] at this; omega
  · have := h.gtB (i := 2 * (k + 1)) hy (by omega) (by omega); rw [c] at this; omega
  · rw [← Nn_mid]
    rcases e with e | e
    · exact Int.le_of_lt (h.gtB (i := 2 * k + 1) hy (by omega) (by omega))
    · exact Int.le_of_eq (h.eqB (i := 2 * k + 1) (by omega)).symm
  · rw [← Nn_mid]
    rcases e with e | e
    · exact Int.le_of_eq (h.eqB (i := 2 * k + 1) (by omega))
    · exact Int.le_of_lt (h.ltB (i := 2 * k + 1) hy (by omega))
theorem Gz_pos {k : Int} (h : 0 ≤ k) {n : Nat} (e : k = n) : Gz k = Nn n := by
  unfold Gz Nn; rw [if_neg (by omega), show k.natAbs = n by omega]
theorem Gz_neg {k : Int} {n : Nat} (e : k = -(n : Int)) : Gz k = -Nn n := by
  unfold Gz Nn
  rw [show k.natAbs = n by omega]
  by_cases h : k < 0
  · rw [if_pos h]
  · have h0 : n = 0 := by omega
    subst h0
    rw [if_neg h]; rfl
/-- How a fraction stands to its neighbours. -/
structure Nb (r : Rat) (d u f : Int) : Prop where
  one : u = d + 1
  lo : -9218868437227405312 < d → Gz d * r.den < r.num * E4
  hi : u < 9218868437227405312 → r.num * E4 < Gz u * r.den
  fd : f = d → 2 * (r.num * E4) ≤ (Gz d + Gz u) * r.den
  fu : f = u → (Gz d + Gz u) * r.den ≤ 2 * (r.num * E4)
theorem Pz.at0 {r : Rat} {z : Int} (h : Pz r z) (h4 : z % 4 = 0) : upz z = dnz z ∧ flz z = dnz z ∧ sdz z = 0 ∧ Gz (dnz z) * r.den = r.num * E4 ∧ -9218868437227405312 < dnz z ∧ dnz z < 9218868437227405312 := by
  have hb := h.bnd
  refine ⟨by unfold upz dnz; omega, ?_, by unfold sdz; rw [if_pos h4], ?_, by unfold dnz; omega, by unfold dnz; omega⟩
  · rcases flz_or z with e | e
    · exact e
    · rw [e]; unfold upz dnz; omega
  · rcases h with ⟨h1, rfl⟩ | ⟨h1, h2, h3⟩ | ⟨h1, h2, h3⟩
    · rw [h1, Int.zero_mul]; exact (Int.zero_mul _)
    · have := (h3.facts (den_pos r) rfl).1 (by omega)
      rw [Gz_pos (k := dnz z) (n := z.toNat / 4) (by unfold dnz; omega) (by unfold dnz; omega)]; exact this
    · have := (h3.facts (den_pos r) rfl).1 (by omega)
      rw [Gz_neg (k := dnz z) (n := (-z).toNat / 4) (by unfold dnz; omega), Int.neg_mul, this, Int.neg_mul]; omega
theorem Pz.nb {r : Rat} {z : Int} (h : Pz r z) (h4 : ¬ z % 4 = 0) : Nb r (dnz z) (upz z) (flz z) := by
  have hb := h.bnd
  have hd := den_pos r
  rcases h with ⟨h1, rfl⟩ | ⟨h1, h2, h3⟩ | ⟨h1, h2, h3⟩
  · exact absurd rfl h4
  · obtain ⟨-, f2, f3, f4, f5⟩ := h3.facts hd rfl
    have ed : dnz z = ((z.toNat / 4 : Nat) : Int) := by unfold dnz; omega
    have eu : upz z = ((z.toNat / 4 + 1 : Nat) : Int) := by unfold upz; omega
    have gd := Gz_pos (by omega) ed
    have gu := Gz_pos (by omega) eu
    have ef : flz z = ((nrz z.toNat : Nat) : Int) := by unfold flz; rw [if_neg (by omega)]
    refine ⟨by omega, fun _ => ?_, fun e => ?_, fun e => ?_, fun e => ?_⟩
    · rw [gd]; exact f2 (by omega)
    · rw [gu]; exact f3 (by omega) (by omega)
    · rw [gd, gu]; exact f4 (by rw [ef, ed] at e; unfold nrz at e; omega)
    · rw [gd, gu]; exact f5 (by rw [ef, eu] at e; unfold nrz at e; omega)
  · obtain ⟨-, f2, f3, f4, f5⟩ := h3.facts hd rfl
    have eu : upz z = -(((-z).toNat / 4 : Nat) : Int) := by unfold upz; omega
    have ed : dnz z = -(((-z).toNat / 4 + 1 : Nat) : Int) := by unfold dnz; omega
    have gd := Gz_neg ed
    have gu := Gz_neg eu
    have ef : flz z = -((nrz (-z).toNat : Nat) : Int) := by unfold flz; rw [if_pos (by omega)]
    have k1 : -r.num * E4 = -(r.num * E4) := Int.neg_mul _ _
    rw [k1] at f2 f3 f4 f5
    refine ⟨by omega, fun e => ?_, fun e => ?_, fun e => ?_, fun e => ?_⟩
    · rw [gd, Int.neg_mul]; have := f3 (by omega) (by omega); omega
    · rw [gu, Int.neg_mul]; have := f2 (by omega); omega
    · rw [gd, gu, ← Int.neg_add, Int.neg_mul, Int.add_comm (Nn _)]; have := f5 (by rw [ef, ed] at e; unfold nrz at e; omega); omega
    · rw [gd, gu, ← Int.neg_add, Int.neg_mul, Int.add_comm (Nn _)]; have := f4 (by rw [ef, eu] at e; unfold nrz at e; omega); omega
theorem dle {x1 y1 x2 y2 : Int} (hy1 : 0 < y1) (hy2 : 0 < y2) : Rat.divInt x1 y1 ≤ Rat.divInt x2 y2 ↔ x1 * y2 ≤ x2 * y1 := by
  rw [← cs_le]
  unfold cs
  rw [← cmp_sign hy1 hy2 rfl rfl]
  constructor
  · intro h
    rcases Int.lt_or_le (x2 * y1) (x1 * y2) with h1 | h1
    · rw [Int.sign_eq_one_of_pos (by omega)] at h; omega
    · exact h1
  · intro h
    rcases (by omega : x1 * y2 - x2 * y1 = 0 ∨ x1 * y2 - x2 * y1 < 0) with h1 | h1
    · rw [h1]; decide
    · rw [Int.sign_eq_neg_one_of_neg h1]; decide
theorem exr_le {k : Int} {r : Rat} : exr k ≤ r ↔ Gz k * r.den ≤ r.num * E4 := by
  have := dle (x1 := Gz k) (y1 := E4) (x2 := r.num) (y2 := (r.den : Int)) E4_pos (den_pos r)
  rw [Rat.num_divInt_den] at this
  exact this
theorem le_exr {k : Int} {r : Rat} : r ≤ exr k ↔ r.num * E4 ≤ Gz k * r.den := by
  have := dle (x1 := r.num) (y1 := (r.den : Int)) (x2 := Gz k) (y2 := E4) (den_pos r) E4_pos
  rw [Rat.num_divInt_den] at this
  exact this
theorem sub_exr (k : Int) (r : Rat) : r - exr k = Rat.divInt (r.num * E4 - Gz k * r.den) (r.den * E4) := by
  have h1 := E4_pos
  have h2 := den_pos r
  have := Rat.divInt_sub_divInt r.num (Gz k) (d₁ := (r.den : Int)) (d₂ := E4) (by omega) (by omega)
  rw [Rat.num_divInt_den] at this
  exact this
theorem exr_sub (k : Int) (r : Rat) : exr k - r = Rat.divInt (Gz k * r.den - r.num * E4) (E4 * r.den) := by
  have h1 := E4_pos
  have h2 := den_pos r
  have := Rat.divInt_sub_divInt (Gz k) r.num (d₁ := E4) (d₂ := (r.den : Int)) (by omega) (by omega)
  rw [Rat.num_divInt_den] at this
  exact this
theorem mid_le {d u : Int} {r : Rat} (h : 2 * (r.num * E4) ≤ (Gz d + Gz u) * r.den) : r - exr d ≤ exr u - r := by
  have h1 := Int.mul_pos (den_pos r) E4_pos
  have h2 := Int.mul_pos E4_pos (den_pos r)
  rw [sub_exr, exr_sub, dle h1 h2, Int.mul_comm E4]
  refine Int.mul_le_mul_of_nonneg_right ?_ (Int.le_of_lt h1)
  rw [Int.add_mul] at h
  omega
theorem mid_ge {d u : Int} {r : Rat} (h : (Gz d + Gz u) * r.den ≤ 2 * (r.num * E4)) : exr u - r ≤ r - exr d := by
  have h1 := Int.mul_pos (den_pos r) E4_pos
  have h2 := Int.mul_pos E4_pos (den_pos r)
  rw [sub_exr, exr_sub, dle h2 h1, Int.mul_comm E4]
  refine Int.mul_le_mul_of_nonneg_right ?_ (Int.le_of_lt h1)
  rw [Int.add_mul] at h
  omega
end Go.Proofs.YtjlmboakeigmpaaDoor

namespace Go.Proofs.YtjlmboakeigmpaaDoor
open Go.RowKit

set_option maxRecDepth 100000 in
set_option maxHeartbeats 4000000 in
theorem neigh_A {p : Bool} {a b : Option Addr} {na nb ca cb : Nat} {r : Rat} {S : Nat} (w : World) (hA : TR w p a na ca b nb cb r S) (hS : S ≤ 2000000) (hS1 : 1 ≤ S) (hT : TB w) (z : Int) (PZ : Pz r z) (h4 : z % 4 = 0) :
    Calls Tryd.prog 4 #[.agg #[.bool p, .slice a na ca, .slice b nb cb]] w fun e w' => e = .returned (.bool true) ∧ Below w.heap.size w w' := by
  obtain ⟨q1, q2, q3, q4, q5, q6⟩ := PZ.at0 h4
  obtain ⟨D, hD⟩ : ∃ D, fb (dnz z) = D := ⟨_, rfl⟩
  have HD : Hid (fb (dnz z) = D) := hD
  have HU : Hid (fb (upz z) = D) := by show _ = _; rw [q1]; exact hD
  have HF : Hid (fb (flz z) = D) := by show _ = _; rw [q2]; exact hD
  have HSD : Hid (sdz z = 0) := q3
  have oDD : FloatKind.f64.format.order D D = some .eq := by
    have : FloatKind.f64.format.order (fb (dnz z)) (fb (dnz z)) = some (compare (dnz z) (dnz z)) := order_fb (by omega) (by omega) (by omega) (by omega)
    rw [← hD, this, Int.compare_eq_eq.2 rfl]
  have HFT := fun u => finiteT (b := D) u (by rw [← hD, fb_mod (by omega) (by omega)]; omega)
  have HEX := fun u hu => exactK (dnz z) u q5 q6 hu
  rw [hD] at HEX
  have HC : Hid ((0 : Int) = cs (exr (dnz z)) r) := by
    show _ = _
    symm
    rw [cs_eq]
    exact Rat.le_antisymm (exr_le.2 (Int.le_of_eq q4)) (le_exr.2 (Int.le_of_eq q4.symm))
  clear q1 q2 q3 q4 q5 q6 hD h4
  have hb0 := bel_d0 w (.cells #[.bool p, .slice a na ca, .slice b nb cb] 27)
  have VA := var3_new w (.bool p) (.slice a na ca) (.slice b nb cb) 27
  replace hA := hA.below hb0
  replace hT := hT.below hb0
  go_enter Tryd.func4, Tryd.ntmps4
  go_wp2_with fail
  generalize w.alloc (.cells #[.bool p, .slice a na ca, .slice b nb cb] 27) = W0 at *
  refine (awake4 _ hT).mono ?_
  rintro e w1 ⟨rfl, hx⟩
  replace hA := hA.below hx
  replace hT := hT.below hx
  replace VA := VA.below hx
  replace hb0 := bel_tr hb0 hx
  clear hx
  obtain ⟨vac0, vac1, vac2, vac3, vac4, vac5⟩ := id VA
  go_wp2_with fail
  refine (downQ z _ hA (by omega) hS1 PZ HD.out).mono ?_
  rintro e w2 ⟨rfl, hx⟩
  clear vac0 vac1 vac2 vac3 vac4 vac5
  replace hA := hA.below hx
  replace hT := hT.below hx
  replace VA := VA.below hx
  replace hb0 := bel_tr hb0 hx
  clear hx
  obtain ⟨vac0, vac1, vac2, vac3, vac4, vac5⟩ := id VA
  go_wp2_with fail
  refine (upQ z _ hA (by omega) hS1 PZ HU.out).mono ?_
  rintro e w3 ⟨rfl, hx⟩
  clear vac0 vac1 vac2 vac3 vac4 vac5
  replace hA := hA.below hx
  replace hT := hT.below hx
  replace VA := VA.below hx
  replace hb0 := bel_tr hb0 hx
  clear hx
  obtain ⟨vac0, vac1, vac2, vac3, vac4, vac5⟩ := id VA
  go_wp2_with fail
  refine (floatQ z _ hA (by omega) hS1 PZ HF.out HSD.out).mono ?_
  rintro e w4 ⟨rfl, hx⟩
  clear vac0 vac1 vac2 vac3 vac4 vac5
  replace hA := hA.below hx
  replace hT := hT.below hx
  replace VA := VA.below hx
  replace hb0 := bel_tr hb0 hx
  clear hx
  go_wp2_with fail
  refine (HFT _).mono ?_
  rintro e w5 ⟨rfl, hx⟩
  replace hA := hA.below hx
  replace hT := hT.below hx
  replace VA := VA.below hx
  replace hb0 := bel_tr hb0 hx
  clear hx
  go_wp2_with fail
  refine (HEX _ hT).mono ?_
  rintro e w6 ⟨fx, cx, nx, kx, dx, mx, lx, rfl, Gx, hx⟩
  replace hA := hA.below hx
  replace hT := hT.below hx
  replace VA := VA.below hx
  replace hb0 := bel_tr hb0 hx
  clear hx
  have Vx := var3_new w6 (.bool fx) (.slice cx nx kx) (.slice dx mx lx) 27
  have hx := bel_d0 w6 (.cells #[.bool fx, .slice cx nx kx, .slice dx mx lx] 27)
  replace hA := hA.below hx
  replace hT := hT.below hx
  replace Gx := Gx.below hx
  replace VA := VA.below hx
  replace hb0 := bel_tr hb0 hx
  clear hx
  obtain ⟨vxc0, vxc1, vxc2, vxc3, vxc4, vxc5⟩ := id Vx
  obtain ⟨vac0, vac1, vac2, vac3, vac4, vac5⟩ := id VA
  go_wp2_with fail
  generalize w6.alloc (.cells #[.bool fx, .slice cx nx kx, .slice dx mx lx] 27) = w7 at *
  refine (cmpB 0 _ Gx.tr hA (by omega) (by omega) (by omega) HC.out).mono ?_
  rintro e w8 ⟨rfl, hx⟩
  clear vxc0 vxc1 vxc2 vxc3 vxc4 vxc5 vac0 vac1 vac2 vac3 vac4 vac5
  replace hA := hA.below hx
  replace hT := hT.below hx
  replace Gx := Gx.below hx
  replace VA := VA.below hx
  replace Vx := Vx.below hx
  replace hb0 := bel_tr hb0 hx
  clear hx
  obtain ⟨vxc0, vxc1, vxc2, vxc3, vxc4, vxc5⟩ := id Vx
  obtain ⟨vac0, vac1, vac2, vac3, vac4, vac5⟩ := id VA
  go_wp2_with fail
  refine (cmpB 0 _ Gx.tr hA (by omega) (by omega) (by omega) HC.out).mono ?_
  rintro e w9 ⟨rfl, hx⟩
  clear vxc0 vxc1 vxc2 vxc3 vxc4 vxc5 vac0 vac1 vac2 vac3 vac4 vac5
  replace hA := hA.below hx
  replace hT := hT.below hx
  replace Gx := Gx.below hx
  replace VA := VA.below hx
  replace Vx := Vx.below hx
  replace hb0 := bel_tr hb0 hx
  clear hx
  clear Gx Vx
  go_wp2_with fail
  refine (HFT _).mono ?_
  rintro e w10 ⟨rfl, hx⟩
  replace hA := hA.below hx
  replace hT := hT.below hx
  replace VA := VA.below hx
  replace hb0 := bel_tr hb0 hx
  clear hx
  go_wp2_with fail
  refine (HEX _ hT).mono ?_
  rintro e w11 ⟨fy, cy, ny, ky, dy, my, ly, rfl, Gy, hx⟩
  replace hA := hA.below hx
  replace hT := hT.below hx
  replace VA := VA.below hx
  replace hb0 := bel_tr hb0 hx
  clear hx
  have Vy := var3_new w11 (.bool fy) (.slice cy ny ky) (.slice dy my ly) 27
  have hx := bel_d0 w11 (.cells #[.bool fy, .slice cy ny ky, .slice dy my ly] 27)
  replace hA := hA.below hx
  replace hT := hT.below hx
  replace Gy := Gy.below hx
  replace VA := VA.below hx
  replace hb0 := bel_tr hb0 hx
  clear hx
  obtain ⟨vyc0, vyc1, vyc2, vyc3, vyc4, vyc5⟩ := id Vy
  obtain ⟨vac0, vac1, vac2, vac3, vac4, vac5⟩ := id VA
  go_wp2_with fail
  generalize w11.alloc (.cells #[.bool fy, .slice cy ny ky, .slice dy my ly] 27) = w12 at *
  refine (cmpB 0 _ Gy.tr hA (by omega) (by omega) (by omega) HC.out).mono ?_
  rintro e w13 ⟨rfl, hx⟩
  clear vyc0 vyc1 vyc2 vyc3 vyc4 vyc5 vac0 vac1 vac2 vac3 vac4 vac5
  replace hA := hA.below hx
  replace hT := hT.below hx
  replace Gy := Gy.below hx
  replace VA := VA.below hx
  replace Vy := Vy.below hx
  replace hb0 := bel_tr hb0 hx
  clear hx
  clear Gy Vy VA hA hT HFT HEX
  go_wp2
  go_ret
  exact ⟨by simp, hb0⟩
end Go.Proofs.YtjlmboakeigmpaaDoor

namespace Go.Proofs.YtjlmboakeigmpaaDoor
open Go.RowKit

set_option maxRecDepth 100000 in
set_option maxHeartbeats 4000000 in
theorem neigh_D2 {p : Bool} {a b : Option Addr} {na nb ca cb : Nat} {r : Rat} {S : Nat} (w : World) (hA : TR w p a na ca b nb cb r S) (hS : S ≤ 2000000) (hS1 : 1 ≤ S) (hT : TB w) (z : Int) (PZ : Pz r z) (h4 : ¬ z % 4 = 0) (hf : flz z = dnz z) (hd : dnz z = -9218868437227405312) (hu : upz z < 9218868437227405312) :
    Calls Tryd.prog 4 #[.agg #[.bool p, .slice a na ca, .slice b nb cb]] w fun e w' => e = .returned (.bool true) ∧ Below w.heap.size w w' := by
  have NB := PZ.nb h4
  have q0 := NB.one
  have q1 := PZ.dn
  have q2 := PZ.up
  obtain ⟨D, hD⟩ : ∃ D, fb (dnz z) = D := ⟨_, rfl⟩
  obtain ⟨U, hU⟩ : ∃ U, fb (upz z) = U := ⟨_, rfl⟩
  have HD : Hid (fb (dnz z) = D) := hD
  have HU : Hid (fb (upz z) = U) := hU
  have HF : Hid (fb (flz z) = D) := by show _ = _; rw [hf]; exact hD
  have HSD : Hid (sdz z = -1) := by show _ = _; unfold sdz; rw [if_neg h4, if_neg (by rw [hf]; omega)]
  have oDD : FloatKind.f64.format.order D D = some .eq := by
    have : FloatKind.f64.format.order (fb (dnz z)) (fb (dnz z)) = some (compare (dnz z) (dnz z)) := order_fb (by omega) (by omega) (by omega) (by omega)
    rw [← hD, this, Int.compare_eq_eq.2 rfl]
  have oUU : FloatKind.f64.format.order U U = some .eq := by
    have : FloatKind.f64.format.order (fb (upz z)) (fb (upz z)) = some (compare (upz z) (upz z)) := order_fb (by omega) (by omega) (by omega) (by omega)
    rw [← hU, this, Int.compare_eq_eq.2 rfl]
  have oDU : FloatKind.f64.format.order D U = some .lt := by
    have : FloatKind.f64.format.order (fb (dnz z)) (fb (upz z)) = some (compare (dnz z) (upz z)) := order_fb (by omega) (by omega) (by omega) (by omega)
    rw [← hD, ← hU, this, Int.compare_eq_lt.2 (by omega)]
  have oUD : FloatKind.f64.format.order U D = some .gt := by
    have : FloatKind.f64.format.order (fb (upz z)) (fb (dnz z)) = some (compare (upz z) (dnz z)) := order_fb (by omega) (by omega) (by omega) (by omega)
    rw [← hD, ← hU, this, Int.compare_eq_gt.2 (by omega)]
  have HNX := fun u => nextK (k := dnz z) (F := U) u (by omega) (by omega) (by rw [← q0]; exact hU)
  rw [hD] at HNX
  have HFD := fun u => finiteF (b := D) u (by rw [← hD, fb_mod (by omega) (by omega)]; omega)
  have HFU := fun u => finiteT (b := U) u (by rw [← hU, fb_mod (by omega) (by omega)]; omega)
  have HXU := fun u hu => exactK (upz z) u (by omega) (by omega) hu
  rw [hU] at HXU
  obtain ⟨t2, HT2, ht2⟩ : ∃ t2, Hid (t2 = cs (exr (upz z)) r) ∧ ¬ t2 < 0 := ⟨_, rfl, by have := cs_ge.2 (le_exr.2 (Int.le_of_lt (NB.hi hu))); omega⟩
  clear NB q0 q1 q2 hD hU hf h4 hd hu
  have hb0 := bel_d0 w (.cells #[.bool p, .slice a na ca, .slice b nb cb] 27)
  have VA := var3_new w (.bool p) (.slice a na ca) (.slice b nb cb) 27
  replace hA := hA.below hb0
  replace hT := hT.below hb0
  go_enter Tryd.func4, Tryd.ntmps4
  go_wp2_with fail
  generalize w.alloc (.cells #[.bool p, .slice a na ca, .slice b nb cb] 27) = W0 at *
  refine (awake4 _ hT).mono ?_
  rintro e w1 ⟨rfl, hx⟩
  replace hA := hA.below hx
  replace hT := hT.below hx
  replace VA := VA.below hx
  replace hb0 := bel_tr hb0 hx
  clear hx
  obtain ⟨vac0, vac1, vac2, vac3, vac4, vac5⟩ := id VA
  go_wp2_with fail
  refine (downQ z _ hA (by omega) hS1 PZ HD.out).mono ?_
  rintro e w2 ⟨rfl, hx⟩
  clear vac0 vac1 vac2 vac3 vac4 vac5
  replace hA := hA.below hx
  replace hT := hT.below hx
  replace VA := VA.below hx
  replace hb0 := bel_tr hb0 hx
  clear hx
  obtain ⟨vac0, vac1, vac2, vac3, vac4, vac5⟩ := id VA
  go_wp2_with fail
  refine (upQ z _ hA (by omega) hS1 PZ HU.out).mono ?_
  rintro e w3 ⟨rfl, hx⟩
  clear vac0 vac1 vac2 vac3 vac4 vac5
  replace hA := hA.below hx
  replace hT := hT.below hx
  replace VA := VA.below hx
  replace hb0 := bel_tr hb0 hx
  clear hx
  obtain ⟨vac0, vac1, vac2, vac3, vac4, vac5⟩ := id VA
  go_wp2_with fail
  refine (floatQ z _ hA (by omega) hS1 PZ HF.out HSD.out).mono ?_
  rintro e w4 ⟨rfl, hx⟩
  clear vac0 vac1 vac2 vac3 vac4 vac5
  replace hA := hA.below hx
  replace hT := hT.below hx
  replace VA := VA.below hx
  replace hb0 := bel_tr hb0 hx
  clear hx
  go_wp2_with fail
  refine (HNX _).mono ?_
  rintro e w5 ⟨rfl, e9⟩
  subst e9
  go_wp2_with fail
  refine (HFD _).mono ?_
  rintro e w6 ⟨rfl, hx⟩
  replace hA := hA.below hx
  replace hT := hT.below hx
  replace VA := VA.below hx
  replace hb0 := bel_tr hb0 hx
  clear hx
  go_wp2_with fail
  refine (HFU _).mono ?_
  rintro e w7 ⟨rfl, hx⟩
  replace hA := hA.below hx
  replace hT := hT.below hx
  replace VA := VA.below hx
  replace hb0 := bel_tr hb0 hx
  clear hx
  go_wp2_with fail
  refine (HXU _ hT).mono ?_
  rintro e w8 ⟨fy, cy, ny, ky, dy, my, ly, rfl, Gy, hx⟩
  replace hA := hA.below hx
  replace hT := hT.below hx
  replace VA := VA.below hx
  replace hb0 := bel_tr hb0 hx
  clear hx
  have Vy := var3_new w8 (.bool fy) (.slice cy ny ky) (.slice dy my ly) 27
  have hx := bel_d0 w8 (.cells #[.bool fy, .slice cy ny ky, .slice dy my ly] 27)
  replace hA := hA.below hx
  replace hT := hT.below hx
  replace Gy := Gy.below hx
  replace VA := VA.below hx
  replace hb0 := bel_tr hb0 hx
  clear hx
  obtain ⟨vyc0, vyc1, vyc2, vyc3, vyc4, vyc5⟩ := id Vy
  obtain ⟨vac0, vac1, vac2, vac3, vac4, vac5⟩ := id VA
  go_wp2_with fail
  generalize w8.alloc (.cells #[.bool fy, .slice cy ny ky, .slice dy my ly] 27) = w9 at *
  refine (cmpB t2 _ Gy.tr hA (by omega) (by omega) (by omega) HT2.out).mono ?_
  rintro e w10 ⟨rfl, hx⟩
  clear vyc0 vyc1 vyc2 vyc3 vyc4 vyc5 vac0 vac1 vac2 vac3 vac4 vac5
  replace hA := hA.below hx
  replace hT := hT.below hx
  replace Gy := Gy.below hx
  replace VA := VA.below hx
  replace Vy := Vy.below hx
  replace hb0 := bel_tr hb0 hx
  clear hx
  clear Gy Vy
  go_wp2_with fail
  refine (HFD _).mono ?_
  rintro e w11 ⟨rfl, hx⟩
  replace hA := hA.below hx
  replace hT := hT.below hx
  replace VA := VA.below hx
  replace hb0 := bel_tr hb0 hx
  clear hx
  clear VA hA hT
  go_wp2
  go_ret
  exact ⟨by simp, hb0⟩
set_option maxRecDepth 100000 in
set_option maxHeartbeats 4000000 in
theorem neigh_D3 {p : Bool} {a b : Option Addr} {na nb ca cb : Nat} {r : Rat} {S : Nat} (w : World) (hA : TR w p a na ca b nb cb r S) (hS : S ≤ 2000000) (hS1 : 1 ≤ S) (hT : TB w) (z : Int) (PZ : Pz r z) (h4 : ¬ z % 4 = 0) (hf : flz z = dnz z) (hd : -9218868437227405312 < dnz z) (hu : upz z = 9218868437227405312) :
    Calls Tryd.prog 4 #[.agg #[.bool p, .slice a na ca, .slice b nb cb]] w fun e w' => e = .returned (.bool true) ∧ Below w.heap.size w w' := by
  have NB := PZ.nb h4
  have q0 := NB.one
  have q1 := PZ.dn
  have q2 := PZ.up
  obtain ⟨D, hD⟩ : ∃ D, fb (dnz z) = D := ⟨_, rfl⟩
  obtain ⟨U, hU⟩ : ∃ U, fb (upz z) = U := ⟨_, rfl⟩
  have HD : Hid (fb (dnz z) = D) := hD
  have HU : Hid (fb (upz z) = U) := hU
  have HF : Hid (fb (flz z) = D) := by show _ = _; rw [hf]; exact hD
  have HSD : Hid (sdz z = -1) := by show _ = _; unfold sdz; rw [if_neg h4, if_neg (by rw [hf]; omega)]
  have oDD : FloatKind.f64.format.order D D = some .eq := by
    have : FloatKind.f64.format.order (fb (dnz z)) (fb (dnz z)) = some (compare (dnz z) (dnz z)) := order_fb (by omega) (by omega) (by omega) (by omega)
    rw [← hD, this, Int.compare_eq_eq.2 rfl]
  have oUU : FloatKind.f64.format.order U U = some .eq := by
    have : FloatKind.f64.format.order (fb (upz z)) (fb (upz z)) = some (compare (upz z) (upz z)) := order_fb (by omega) (by omega) (by omega) (by omega)
    rw [← hU, this, Int.compare_eq_eq.2 rfl]
  have oDU : FloatKind.f64.format.order D U = some .lt := by
    have : FloatKind.f64.format.order (fb (dnz z)) (fb (upz z)) = some (compare (dnz z) (upz z)) := order_fb (by omega) (by omega) (by omega) (by omega)
    rw [← hD, ← hU, this, Int.compare_eq_lt.2 (by omega)]
  have oUD : FloatKind.f64.format.order U D = some .gt := by
    have : FloatKind.f64.format.order (fb (upz z)) (fb (dnz z)) = some (compare (upz z) (dnz z)) := order_fb (by omega) (by omega) (by omega) (by omega)
    rw [← hD, ← hU, this, Int.compare_eq_gt.2 (by omega)]
  have HNX := fun u => nextK (k := dnz z) (F := U) u (by omega) (by omega) (by rw [← q0]; exact hU)
  rw [hD] at HNX
  have HFD := fun u => finiteT (b := D) u (by rw [← hD, fb_mod (by omega) (by omega)]; omega)
  have HXD := fun u hu => exactK (dnz z) u (by omega) (by omega) hu
  rw [hD] at HXD
  obtain ⟨t1, HT1, ht1⟩ : ∃ t1, Hid (t1 = cs (exr (dnz z)) r) ∧ ¬ 0 < t1 := ⟨_, rfl, by have := cs_le.2 (exr_le.2 (Int.le_of_lt (NB.lo hd))); omega⟩
  have HFU := fun u => finiteF (b := U) u (by rw [← hU, fb_mod (by omega) (by omega)]; omega)
  clear NB q0 q1 q2 hD hU hf h4 hd hu
  have hb0 := bel_d0 w (.cells #[.bool p, .slice a na ca, .slice b nb cb] 27)
  have VA := var3_new w (.bool p) (.slice a na ca) (.slice b nb cb) 27
  replace hA := hA.below hb0
  replace hT := hT.below hb0
  go_enter Tryd.func4, Tryd.ntmps4
  go_wp2_with fail
  generalize w.alloc (.cells #[.bool p, .slice a na ca, .slice b nb cb] 27) = W0 at *
  refine (awake4 _ hT).mono ?_
  rintro e w1 ⟨rfl, hx⟩
  replace hA := hA.below hx
  replace hT := hT.below hx
  replace VA := VA.below hx
  replace hb0 := bel_tr hb0 hx
  clear hx
  obtain ⟨vac0, vac1, vac2, vac3, vac4, vac5⟩ := id VA
  go_wp2_with fail
  refine (downQ z _ hA (by omega) hS1 PZ HD.out).mono ?_
  rintro e w2 ⟨rfl, hx⟩
  clear vac0 vac1 vac2 vac3 vac4 vac5
  replace hA := hA.below hx
  replace hT := hT.below hx
  replace VA := VA.below hx
  replace hb0 := bel_tr hb0 hx
  clear hx
  obtain ⟨vac0, vac1, vac2, vac3, vac4, vac5⟩ := id VA
  go_wp2_with fail
  refine (upQ z _ hA (by omega) hS1 PZ HU.out).mono ?_
  rintro e w3 ⟨rfl, hx⟩
  clear vac0 vac1 vac2 vac3 vac4 vac5
  replace hA := hA.below hx
  replace hT := hT.below hx
  replace VA := VA.below hx
  replace hb0 := bel_tr hb0 hx
  clear hx
  obtain ⟨vac0, vac1, vac2, vac3, vac4, vac5⟩ := id VA
  go_wp2_with fail
  refine (floatQ z _ hA (by omega) hS1 PZ HF.out HSD.out).mono ?_
  rintro e w4 ⟨rfl, hx⟩
  clear vac0 vac1 vac2 vac3 vac4 vac5
  replace hA := hA.below hx
  replace hT := hT.below hx
  replace VA := VA.below hx
  replace hb0 := bel_tr hb0 hx
  clear hx
  go_wp2_with fail
  refine (HNX _).mono ?_
  rintro e w5 ⟨rfl, e9⟩
  subst e9
  go_wp2_with fail
  refine (HFD _).mono ?_
  rintro e w6 ⟨rfl, hx⟩
  replace hA := hA.below hx
  replace hT := hT.below hx
  replace VA := VA.below hx
  replace hb0 := bel_tr hb0 hx
  clear hx
  go_wp2_with fail
  refine (HXD _ hT).mono ?_
  rintro e w7 ⟨fx, cx, nx, kx, dx, mx, lx, rfl, Gx, hx⟩
  replace hA := hA.below hx
  replace hT := hT.below hx
  replace VA := VA.below hx
  replace hb0 := bel_tr hb0 hx
  clear hx
  have Vx := var3_new w7 (.bool fx) (.slice cx nx kx) (.slice dx mx lx) 27
  have hx := bel_d0 w7 (.cells #[.bool fx, .slice cx nx kx, .slice dx mx lx] 27)
  replace hA := hA.below hx
  replace hT := hT.below hx
  replace Gx := Gx.below hx
  replace VA := VA.below hx
  replace hb0 := bel_tr hb0 hx
  clear hx
  obtain ⟨vxc0, vxc1, vxc2, vxc3, vxc4, vxc5⟩ := id Vx
  obtain ⟨vac0, vac1, vac2, vac3, vac4, vac5⟩ := id VA
  go_wp2_with fail
  generalize w7.alloc (.cells #[.bool fx, .slice cx nx kx, .slice dx mx lx] 27) = w8 at *
  refine (cmpB t1 _ Gx.tr hA (by omega) (by omega) (by omega) HT1.out).mono ?_
  rintro e w9 ⟨rfl, hx⟩
  clear vxc0 vxc1 vxc2 vxc3 vxc4 vxc5 vac0 vac1 vac2 vac3 vac4 vac5
  replace hA := hA.below hx
  replace hT := hT.below hx
  replace Gx := Gx.below hx
  replace VA := VA.below hx
  replace Vx := Vx.below hx
  replace hb0 := bel_tr hb0 hx
  clear hx
  clear Gx Vx
  go_wp2_with fail
  refine (HFU _).mono ?_
  rintro e w10 ⟨rfl, hx⟩
  replace hA := hA.below hx
  replace hT := hT.below hx
  replace VA := VA.below hx
  replace hb0 := bel_tr hb0 hx
  clear hx
  go_wp2_with fail
  refine (HFD _).mono ?_
  rintro e w11 ⟨rfl, hx⟩
  replace hA := hA.below hx
  replace hT := hT.below hx
  replace VA := VA.below hx
  replace hb0 := bel_tr hb0 hx
  clear hx
  go_wp2_with fail
  refine (HFU _).mono ?_
  rintro e w12 ⟨rfl, hx⟩
  replace hA := hA.below hx
  replace hT := hT.below hx
  replace VA := VA.below hx
  replace hb0 := bel_tr hb0 hx
  clear hx
  clear VA hA hT
  go_wp2
  go_ret
  exact ⟨by simp, hb0⟩
set_option maxRecDepth 100000 in
set_option maxHeartbeats 4000000 in
theorem neigh_U2 {p : Bool} {a b : Option Addr} {na nb ca cb : Nat} {r : Rat} {S : Nat} (w : World) (hA : TR w p a na ca b nb cb r S) (hS : S ≤ 2000000) (hS1 : 1 ≤ S) (hT : TB w) (z : Int) (PZ : Pz r z) (h4 : ¬ z % 4 = 0) (hf : flz z = upz z) (hd : dnz z = -9218868437227405312) (hu : upz z < 9218868437227405312) :
    Calls Tryd.prog 4 #[.agg #[.bool p, .slice a na ca, .slice b nb cb]] w fun e w' => e = .returned (.bool true) ∧ Below w.heap.size w w' := by
  have NB := PZ.nb h4
  have q0 := NB.one
  have q1 := PZ.dn
  have q2 := PZ.up
  obtain ⟨D, hD⟩ : ∃ D, fb (dnz z) = D := ⟨_, rfl⟩
  obtain ⟨U, hU⟩ : ∃ U, fb (upz z) = U := ⟨_, rfl⟩
  have HD : Hid (fb (dnz z) = D) := hD
  have HU : Hid (fb (upz z) = U) := hU
  have HF : Hid (fb (flz z) = U) := by show _ = _; rw [hf]; exact hU
  have HSD : Hid (sdz z = 1) := by show _ = _; unfold sdz; rw [if_neg h4, if_pos hf]
  have oDD : FloatKind.f64.format.order D D = some .eq := by
    have : FloatKind.f64.format.order (fb (dnz z)) (fb (dnz z)) = some (compare (dnz z) (dnz z)) := order_fb (by omega) (by omega) (by omega) (by omega)
    rw [← hD, this, Int.compare_eq_eq.2 rfl]
  have oUU : FloatKind.f64.format.order U U = some .eq := by
    have : FloatKind.f64.format.order (fb (upz z)) (fb (upz z)) = some (compare (upz z) (upz z)) := order_fb (by omega) (by omega) (by omega) (by omega)
    rw [← hU, this, Int.compare_eq_eq.2 rfl]
  have oDU : FloatKind.f64.format.order D U = some .lt := by
    have : FloatKind.f64.format.order (fb (dnz z)) (fb (upz z)) = some (compare (dnz z) (upz z)) := order_fb (by omega) (by omega) (by omega) (by omega)
    rw [← hD, ← hU, this, Int.compare_eq_lt.2 (by omega)]
  have oUD : FloatKind.f64.format.order U D = some .gt := by
    have : FloatKind.f64.format.order (fb (upz z)) (fb (dnz z)) = some (compare (upz z) (dnz z)) := order_fb (by omega) (by omega) (by omega) (by omega)
    rw [← hD, ← hU, this, Int.compare_eq_gt.2 (by omega)]
  have HNX := fun u => nextK (k := dnz z) (F := U) u (by omega) (by omega) (by rw [← q0]; exact hU)
  rw [hD] at HNX
  have HFD := fun u => finiteF (b := D) u (by rw [← hD, fb_mod (by omega) (by omega)]; omega)
  have HFU := fun u => finiteT (b := U) u (by rw [← hU, fb_mod (by omega) (by omega)]; omega)
  have HXU := fun u hu => exactK (upz z) u (by omega) (by omega) hu
  rw [hU] at HXU
  obtain ⟨t2, HT2, ht2⟩ : ∃ t2, Hid (t2 = cs (exr (upz z)) r) ∧ ¬ t2 < 0 := ⟨_, rfl, by have := cs_ge.2 (le_exr.2 (Int.le_of_lt (NB.hi hu))); omega⟩
  clear NB q0 q1 q2 hD hU hf h4 hd hu
  have hb0 := bel_d0 w (.cells #[.bool p, .slice a na ca, .slice b nb cb] 27)
  have VA := var3_new w (.bool p) (.slice a na ca) (.slice b nb cb) 27
  replace hA := hA.below hb0
  replace hT := hT.below hb0
  go_enter Tryd.func4, Tryd.ntmps4
  go_wp2_with fail
  generalize w.alloc (.cells #[.bool p, .slice a na ca, .slice b nb cb] 27) = W0 at *
  refine (awake4 _ hT).mono ?_
  rintro e w1 ⟨rfl, hx⟩
  replace hA := hA.below hx
  replace hT := hT.below hx
  replace VA := VA.below hx
  replace hb0 := bel_tr hb0 hx
  clear hx
  obtain ⟨vac0, vac1, vac2, vac3, vac4, vac5⟩ := id VA
  go_wp2_with fail
  refine (downQ z _ hA (by omega) hS1 PZ HD.out).mono ?_
  rintro e w2 ⟨rfl, hx⟩
  clear vac0 vac1 vac2 vac3 vac4 vac5
  replace hA := hA.below hx
  replace hT := hT.below hx
  replace VA := VA.below hx
  replace hb0 := bel_tr hb0 hx
  clear hx
  obtain ⟨vac0, vac1, vac2, vac3, vac4, vac5⟩ := id VA
  go_wp2_with fail
  refine (upQ z _ hA (by omega) hS1 PZ HU.out).mono ?_
  rintro e w3 ⟨rfl, hx⟩
  clear vac0 vac1 vac2 vac3 vac4 vac5
  replace hA := hA.below hx
  replace hT := hT.below hx
  replace VA := VA.below hx
  replace hb0 := bel_tr hb0 hx
  clear hx
  obtain ⟨vac0, vac1, vac2, vac3, vac4, vac5⟩ := id VA
  go_wp2_with fail
  refine (floatQ z _ hA (by omega) hS1 PZ HF.out HSD.out).mono ?_
  rintro e w4 ⟨rfl, hx⟩
  clear vac0 vac1 vac2 vac3 vac4 vac5
  replace hA := hA.below hx
  replace hT := hT.below hx
  replace VA := VA.below hx
  replace hb0 := bel_tr hb0 hx
  clear hx
  go_wp2_with fail
  refine (HNX _).mono ?_
  rintro e w5 ⟨rfl, e9⟩
  subst e9
  go_wp2_with fail
  refine (HFD _).mono ?_
  rintro e w6 ⟨rfl, hx⟩
  replace hA := hA.below hx
  replace hT := hT.below hx
  replace VA := VA.below hx
  replace hb0 := bel_tr hb0 hx
  clear hx
  go_wp2_with fail
  refine (HFU _).mono ?_
  rintro e w7 ⟨rfl, hx⟩
  replace hA := hA.below hx
  replace hT := hT.below hx
  replace VA := VA.below hx
  replace hb0 := bel_tr hb0 hx
  clear hx
  go_wp2_with fail
  refine (HXU _ hT).mono ?_
  rintro e w8 ⟨fy, cy, ny, ky, dy, my, ly, rfl, Gy, hx⟩
  replace hA := hA.below hx
  replace hT := hT.below hx
  replace VA := VA.below hx
  replace hb0 := bel_tr hb0 hx
  clear hx
  have Vy := var3_new w8 (.bool fy) (.slice cy ny ky) (.slice dy my ly) 27
  have hx := bel_d0 w8 (.cells #[.bool fy, .slice cy ny ky, .slice dy my ly] 27)
  replace hA := hA.below hx
  replace hT := hT.below hx
  replace Gy := Gy.below hx
  replace VA := VA.below hx
  replace hb0 := bel_tr hb0 hx
  clear hx
  obtain ⟨vyc0, vyc1, vyc2, vyc3, vyc4, vyc5⟩ := id Vy
  obtain ⟨vac0, vac1, vac2, vac3, vac4, vac5⟩ := id VA
  go_wp2_with fail
  generalize w8.alloc (.cells #[.bool fy, .slice cy ny ky, .slice dy my ly] 27) = w9 at *
  refine (cmpB t2 _ Gy.tr hA (by omega) (by omega) (by omega) HT2.out).mono ?_
  rintro e w10 ⟨rfl, hx⟩
  clear vyc0 vyc1 vyc2 vyc3 vyc4 vyc5 vac0 vac1 vac2 vac3 vac4 vac5
  replace hA := hA.below hx
  replace hT := hT.below hx
  replace Gy := Gy.below hx
  replace VA := VA.below hx
  replace Vy := Vy.below hx
  replace hb0 := bel_tr hb0 hx
  clear hx
  clear Gy Vy
  go_wp2_with fail
  refine (HFD _).mono ?_
  rintro e w11 ⟨rfl, hx⟩
  replace hA := hA.below hx
  replace hT := hT.below hx
  replace VA := VA.below hx
  replace hb0 := bel_tr hb0 hx
  clear hx
  clear VA hA hT
  go_wp2
  go_ret
  exact ⟨by simp, hb0⟩
set_option maxRecDepth 100000 in
set_option maxHeartbeats 4000000 in
theorem neigh_U3 {p : Bool} {a b : Option Addr} {na nb ca cb : Nat} {r : Rat} {S : Nat} (w : World) (hA : TR w p a na ca b nb cb r S) (hS : S ≤ 2000000) (hS1 : 1 ≤ S) (hT : TB w) (z : Int) (PZ : Pz r z) (h4 : ¬ z % 4 = 0) (hf : flz z = upz z) (hd : -9218868437227405312 < dnz z) (hu : upz z = 9218868437227405312) :
    Calls Tryd.prog 4 #[.agg #[.bool p, .slice a na ca, .slice b nb cb]] w fun e w' => e = .returned (.bool true) ∧ Below w.heap.size w w' := by
  have NB := PZ.nb h4
  have q0 := NB.one
  have q1 := PZ.dn
  have q2 := PZ.up
  obtain ⟨D, hD⟩ : ∃ D, fb (dnz z) = D := ⟨_, rfl⟩
  obtain ⟨U, hU⟩ : ∃ U, fb (upz z) = U := ⟨_, rfl⟩
  have HD : Hid (fb (dnz z) = D) := hD
  have HU : Hid (fb (upz z) = U) := hU
  have HF : Hid (fb (flz z) = U) := by show _ = _; rw [hf]; exact hU
  have HSD : Hid (sdz z = 1) := by show _ = _; unfold sdz; rw [if_neg h4, if_pos hf]
  have oDD : FloatKind.f64.format.order D D = some .eq := by
    have : FloatKind.f64.format.order (fb (dnz z)) (fb (dnz z)) = some (compare (dnz z) (dnz z)) := order_fb (by omega) (by omega) (by omega) (by omega)
    rw [← hD, this, Int.compare_eq_eq.2 rfl]
  have oUU : FloatKind.f64.format.order U U = some .eq := by
    have : FloatKind.f64.format.order (fb (upz z)) (fb (upz z)) = some (compare (upz z) (upz z)) := order_fb (by omega) (by omega) (by omega) (by omega)
    rw [← hU, this, Int.compare_eq_eq.2 rfl]
  have oDU : FloatKind.f64.format.order D U = some .lt := by
    have : FloatKind.f64.format.order (fb (dnz z)) (fb (upz z)) = some (compare (dnz z) (upz z)) := order_fb (by omega) (by omega) (by omega) (by omega)
    rw [← hD, ← hU, this, Int.compare_eq_lt.2 (by omega)]
  have oUD : FloatKind.f64.format.order U D = some .gt := by
    have : FloatKind.f64.format.order (fb (upz z)) (fb (dnz z)) = some (compare (upz z) (dnz z)) := order_fb (by omega) (by omega) (by omega) (by omega)
    rw [← hD, ← hU, this, Int.compare_eq_gt.2 (by omega)]
  have HNX := fun u => nextK (k := dnz z) (F := U) u (by omega) (by omega) (by rw [← q0]; exact hU)
  rw [hD] at HNX
  have HFD := fun u => finiteT (b := D) u (by rw [← hD, fb_mod (by omega) (by omega)]; omega)
  have HXD := fun u hu => exactK (dnz z) u (by omega) (by omega) hu
  rw [hD] at HXD
  obtain ⟨t1, HT1, ht1⟩ : ∃ t1, Hid (t1 = cs (exr (dnz z)) r) ∧ ¬ 0 < t1 := ⟨_, rfl, by have := cs_le.2 (exr_le.2 (Int.le_of_lt (NB.lo hd))); omega⟩
  have HFU := fun u => finiteF (b := U) u (by rw [← hU, fb_mod (by omega) (by omega)]; omega)
  clear NB q0 q1 q2 hD hU hf h4 hd hu
  have hb0 := bel_d0 w (.cells #[.bool p, .slice a na ca, .slice b nb cb] 27)
  have VA := var3_new w (.bool p) (.slice a na ca) (.slice b nb cb) 27
  replace hA := hA.below hb0
  replace hT := hT.below hb0
  go_enter Tryd.func4, Tryd.ntmps4
  go_wp2_with fail
  generalize w.alloc (.cells #[.bool p, .slice a na ca, .slice b nb cb] 27) = W0 at *
  refine (awake4 _ hT).mono ?_
  rintro e w1 ⟨rfl, hx⟩
  replace hA := hA.below hx
  replace hT := hT.below hx
  replace VA := VA.below hx
  replace hb0 := bel_tr hb0 hx
  clear hx
  obtain ⟨vac0, vac1, vac2, vac3, vac4, vac5⟩ := id VA
  go_wp2_with fail
  refine (downQ z _ hA (by omega) hS1 PZ HD.out).mono ?_
  rintro e w2 ⟨rfl, hx⟩
  clear vac0 vac1 vac2 vac3 vac4 vac5
  replace hA := hA.below hx
  replace hT := hT.below hx
  replace VA := VA.below hx
  replace hb0 := bel_tr hb0 hx
  clear hx
  obtain ⟨vac0, vac1, vac2, vac3, vac4, vac5⟩ := id VA
  go_wp2_with fail
  refine (upQ z _ hA (by omega) hS1 PZ HU.out).mono ?_
  rintro e w3 ⟨rfl, hx⟩
  clear vac0 vac1 vac2 vac3 vac4 vac5
  replace hA := hA.below hx
  replace hT := hT.below hx
  replace VA := VA.below hx
  replace hb0 := bel_tr hb0 hx
  clear hx
  obtain ⟨vac0, vac1, vac2, vac3, vac4, vac5⟩ := id VA
  go_wp2_with fail
  refine (floatQ z _ hA (by omega) hS1 PZ HF.out HSD.out).mono ?_
  rintro e w4 ⟨rfl, hx⟩
  clear vac0 vac1 vac2 vac3 vac4 vac5
  replace hA := hA.below hx
  replace hT := hT.below hx
  replace VA := VA.below hx
  replace hb0 := bel_tr hb0 hx
  clear hx
  go_wp2_with fail
  refine (HNX _).mono ?_
  rintro e w5 ⟨rfl, e9⟩
  subst e9
  go_wp2_with fail
  refine (HFD _).mono ?_
  rintro e w6 ⟨rfl, hx⟩
  replace hA := hA.below hx
  replace hT := hT.below hx
  replace VA := VA.below hx
  replace hb0 := bel_tr hb0 hx
  clear hx
  go_wp2_with fail
  refine (HXD _ hT).mono ?_
  rintro e w7 ⟨fx, cx, nx, kx, dx, mx, lx, rfl, Gx, hx⟩
  replace hA := hA.below hx
  replace hT := hT.below hx
  replace VA := VA.below hx
  replace hb0 := bel_tr hb0 hx
  clear hx
  have Vx := var3_new w7 (.bool fx) (.slice cx nx kx) (.slice dx mx lx) 27
  have hx := bel_d0 w7 (.cells #[.bool fx, .slice cx nx kx, .slice dx mx lx] 27)
  replace hA := hA.below hx
  replace hT := hT.below hx
  replace Gx := Gx.below hx
  replace VA := VA.below hx
  replace hb0 := bel_tr hb0 hx
  clear hx
  obtain ⟨vxc0, vxc1, vxc2, vxc3, vxc4, vxc5⟩ := id Vx
  obtain ⟨vac0, vac1, vac2, vac3, vac4, vac5⟩ := id VA
  go_wp2_with fail
  generalize w7.alloc (.cells #[.bool fx, .slice cx nx kx, .slice dx mx lx] 27) = w8 at *
  refine (cmpB t1 _ Gx.tr hA (by omega) (by omega) (by omega) HT1.out).mono ?_
  rintro e w9 ⟨rfl, hx⟩
  clear vxc0 vxc1 vxc2 vxc3 vxc4 vxc5 vac0 vac1 vac2 vac3 vac4 vac5
  replace hA := hA.below hx
  replace hT := hT.below hx
  replace Gx := Gx.below hx
  replace VA := VA.below hx
  replace Vx := Vx.below hx
  replace hb0 := bel_tr hb0 hx
  clear hx
  clear Gx Vx
  go_wp2_with fail
  refine (HFU _).mono ?_
  rintro e w10 ⟨rfl, hx⟩
  replace hA := hA.below hx
  replace hT := hT.below hx
  replace VA := VA.below hx
  replace hb0 := bel_tr hb0 hx
  clear hx
  go_wp2_with fail
  refine (HFD _).mono ?_
  rintro e w11 ⟨rfl, hx⟩
  replace hA := hA.below hx
  replace hT := hT.below hx
  replace VA := VA.below hx
  replace hb0 := bel_tr hb0 hx
  clear hx
  go_wp2_with fail
  refine (HFU _).mono ?_
  rintro e w12 ⟨rfl, hx⟩
  replace hA := hA.below hx
  replace hT := hT.below hx
  replace VA := VA.below hx
  replace hb0 := bel_tr hb0 hx
  clear hx
  clear VA hA hT
  go_wp2
  go_ret
  exact ⟨by simp, hb0⟩
end Go.Proofs.YtjlmboakeigmpaaDoor

namespace Go.Proofs.YtjlmboakeigmpaaDoor
open Go.RowKit

set_option maxRecDepth 100000 in
set_option maxHeartbeats 4000000 in
theorem neigh_D1 {p : Bool} {a b : Option Addr} {na nb ca cb : Nat} {r : Rat} {S : Nat} (w : World) (hA : TR w p a na ca b nb cb r S) (hS : S ≤ 2000000) (hS1 : 1 ≤ S) (hT : TB w) (z : Int) (PZ : Pz r z) (h4 : ¬ z % 4 = 0) (hf : flz z = dnz z) (hd : -9218868437227405312 < dnz z) (hu : upz z < 9218868437227405312) :
    Calls Tryd.prog 4 #[.agg #[.bool p, .slice a na ca, .slice b nb cb]] w fun e w' => e = .returned (.bool true) ∧ Below w.heap.size w w' := by
  have NB := PZ.nb h4
  have q0 := NB.one
  have q1 := PZ.dn
  have q2 := PZ.up
  obtain ⟨D, hD⟩ : ∃ D, fb (dnz z) = D := ⟨_, rfl⟩
  obtain ⟨U, hU⟩ : ∃ U, fb (upz z) = U := ⟨_, rfl⟩
  have HD : Hid (fb (dnz z) = D) := hD
  have HU : Hid (fb (upz z) = U) := hU
  have HF : Hid (fb (flz z) = D) := by show _ = _; rw [hf]; exact hD
  have HSD : Hid (sdz z = -1) := by show _ = _; unfold sdz; rw [if_neg h4, if_neg (by rw [hf]; omega)]
  have oDD : FloatKind.f64.format.order D D = some .eq := by
    have : FloatKind.f64.format.order (fb (dnz z)) (fb (dnz z)) = some (compare (dnz z) (dnz z)) := order_fb (by omega) (by omega) (by omega) (by omega)
    rw [← hD, this, Int.compare_eq_eq.2 rfl]
  have oUU : FloatKind.f64.format.order U U = some .eq := by
    have : FloatKind.f64.format.order (fb (upz z)) (fb (upz z)) = some (compare (upz z) (upz z)) := order_fb (by omega) (by omega) (by omega) (by omega)
    rw [← hU, this, Int.compare_eq_eq.2 rfl]
  have oDU : FloatKind.f64.format.order D U = some .lt := by
    have : FloatKind.f64.format.order (fb (dnz z)) (fb (upz z)) = some (compare (dnz z) (upz z)) := order_fb (by omega) (by omega) (by omega) (by omega)
    rw [← hD, ← hU, this, Int.compare_eq_lt.2 (by omega)]
  have oUD : FloatKind.f64.format.order U D = some .gt := by
    have : FloatKind.f64.format.order (fb (upz z)) (fb (dnz z)) = some (compare (upz z) (dnz z)) := order_fb (by omega) (by omega) (by omega) (by omega)
    rw [← hD, ← hU, this, Int.compare_eq_gt.2 (by omega)]
  have HNX := fun u => nextK (k := dnz z) (F := U) u (by omega) (by omega) (by rw [← q0]; exact hU)
  rw [hD] at HNX
  have HFD := fun u => finiteT (b := D) u (by rw [← hD, fb_mod (by omega) (by omega)]; omega)
  have HXD := fun u hu => exactK (dnz z) u (by omega) (by omega) hu
  rw [hD] at HXD
  obtain ⟨t1, HT1, ht1⟩ : ∃ t1, Hid (t1 = cs (exr (dnz z)) r) ∧ ¬ 0 < t1 := ⟨_, rfl, by have := cs_le.2 (exr_le.2 (Int.le_of_lt (NB.lo hd))); omega⟩
  have HFU := fun u => finiteT (b := U) u (by rw [← hU, fb_mod (by omega) (by omega)]; omega)
  have HXU := fun u hu => exactK (upz z) u (by omega) (by omega) hu
  rw [hU] at HXU
  obtain ⟨t2, HT2, ht2⟩ : ∃ t2, Hid (t2 = cs (exr (upz z)) r) ∧ ¬ t2 < 0 := ⟨_, rfl, by have := cs_ge.2 (le_exr.2 (Int.le_of_lt (NB.hi hu))); omega⟩
  obtain ⟨t3, HT3, ht3⟩ : ∃ t3, Hid (t3 = cs (r - exr (dnz z)) (exr (upz z) - r)) ∧ t3 ≤ 0 := ⟨_, rfl, cs_le.2 (mid_le (NB.fd hf))⟩
  clear NB q0 q1 q2 hD hU hf h4 hd hu
  have hb0 := bel_d0 w (.cells #[.bool p, .slice a na ca, .slice b nb cb] 27)
  have VA := var3_new w (.bool p) (.slice a na ca) (.slice b nb cb) 27
  replace hA := hA.below hb0
  replace hT := hT.below hb0
  go_enter Tryd.func4, Tryd.ntmps4
  go_wp2_with fail
  generalize w.alloc (.cells #[.bool p, .slice a na ca, .slice b nb cb] 27) = W0 at *
  refine (awake4 _ hT).mono ?_
  rintro e w1 ⟨rfl, hx⟩
  replace hA := hA.below hx
  replace hT := hT.below hx
  replace VA := VA.below hx
  replace hb0 := bel_tr hb0 hx
  clear hx
  obtain ⟨vac0, vac1, vac2, vac3, vac4, vac5⟩ := id VA
  go_wp2_with fail
  refine (downQ z _ hA (by omega) hS1 PZ HD.out).mono ?_
  rintro e w2 ⟨rfl, hx⟩
  clear vac0 vac1 vac2 vac3 vac4 vac5
  replace hA := hA.below hx
  replace hT := hT.below hx
  replace VA := VA.below hx
  replace hb0 := bel_tr hb0 hx
  clear hx
  obtain ⟨vac0, vac1, vac2, vac3, vac4, vac5⟩ := id VA
  go_wp2_with fail
  refine (upQ z _ hA (by omega) hS1 PZ HU.out).mono ?_
  rintro e w3 ⟨rfl, hx⟩
  clear vac0 vac1 vac2 vac3 vac4 vac5
  replace hA := hA.below hx
  replace hT := hT.below hx
  replace VA := VA.below hx
  replace hb0 := bel_tr hb0 hx
  clear hx
  obtain ⟨vac0, vac1, vac2, vac3, vac4, vac5⟩ := id VA
  go_wp2_with fail
  refine (floatQ z _ hA (by omega) hS1 PZ HF.out HSD.out).mono ?_
  rintro e w4 ⟨rfl, hx⟩
  clear vac0 vac1 vac2 vac3 vac4 vac5
  replace hA := hA.below hx
  replace hT := hT.below hx
  replace VA := VA.below hx
  replace hb0 := bel_tr hb0 hx
  clear hx
  go_wp2_with fail
  refine (HNX _).mono ?_
  rintro e w5 ⟨rfl, e9⟩
  subst e9
  go_wp2_with fail
  refine (HFD _).mono ?_
  rintro e w6 ⟨rfl, hx⟩
  replace hA := hA.below hx
  replace hT := hT.below hx
  replace VA := VA.below hx
  replace hb0 := bel_tr hb0 hx
  clear hx
  go_wp2_with fail
  refine (HXD _ hT).mono ?_
  rintro e w7 ⟨fx, cx, nx, kx, dx, mx, lx, rfl, Gx, hx⟩
  replace hA := hA.below hx
  replace hT := hT.below hx
  replace VA := VA.below hx
  replace hb0 := bel_tr hb0 hx
  clear hx
  have Vx := var3_new w7 (.bool fx) (.slice cx nx kx) (.slice dx mx lx) 27
  have hx := bel_d0 w7 (.cells #[.bool fx, .slice cx nx kx, .slice dx mx lx] 27)
  replace hA := hA.below hx
  replace hT := hT.below hx
  replace Gx := Gx.below hx
  replace VA := VA.below hx
  replace hb0 := bel_tr hb0 hx
  clear hx
  obtain ⟨vxc0, vxc1, vxc2, vxc3, vxc4, vxc5⟩ := id Vx
  obtain ⟨vac0, vac1, vac2, vac3, vac4, vac5⟩ := id VA
  go_wp2_with fail
  generalize w7.alloc (.cells #[.bool fx, .slice cx nx kx, .slice dx mx lx] 27) = w8 at *
  refine (cmpB t1 _ Gx.tr hA (by omega) (by omega) (by omega) HT1.out).mono ?_
  rintro e w9 ⟨rfl, hx⟩
  clear vxc0 vxc1 vxc2 vxc3 vxc4 vxc5 vac0 vac1 vac2 vac3 vac4 vac5
  replace hA := hA.below hx
  replace hT := hT.below hx
  replace Gx := Gx.below hx
  replace VA := VA.below hx
  replace Vx := Vx.below hx
  replace hb0 := bel_tr hb0 hx
  clear hx
  clear Gx Vx
  go_wp2_with fail
  refine (HFU _).mono ?_
  rintro e w10 ⟨rfl, hx⟩
  replace hA := hA.below hx
  replace hT := hT.below hx
  replace VA := VA.below hx
  replace hb0 := bel_tr hb0 hx
  clear hx
  go_wp2_with fail
  refine (HXU _ hT).mono ?_
  rintro e w11 ⟨fy, cy, ny, ky, dy, my, ly, rfl, Gy, hx⟩
  replace hA := hA.below hx
  replace hT := hT.below hx
  replace VA := VA.below hx
  replace hb0 := bel_tr hb0 hx
  clear hx
  have Vy := var3_new w11 (.bool fy) (.slice cy ny ky) (.slice dy my ly) 27
  have hx := bel_d0 w11 (.cells #[.bool fy, .slice cy ny ky, .slice dy my ly] 27)
  replace hA := hA.below hx
  replace hT := hT.below hx
  replace Gy := Gy.below hx
  replace VA := VA.below hx
  replace hb0 := bel_tr hb0 hx
  clear hx
  obtain ⟨vyc0, vyc1, vyc2, vyc3, vyc4, vyc5⟩ := id Vy
  obtain ⟨vac0, vac1, vac2, vac3, vac4, vac5⟩ := id VA
  go_wp2_with fail
  generalize w11.alloc (.cells #[.bool fy, .slice cy ny ky, .slice dy my ly] 27) = w12 at *
  refine (cmpB t2 _ Gy.tr hA (by omega) (by omega) (by omega) HT2.out).mono ?_
  rintro e w13 ⟨rfl, hx⟩
  clear vyc0 vyc1 vyc2 vyc3 vyc4 vyc5 vac0 vac1 vac2 vac3 vac4 vac5
  replace hA := hA.below hx
  replace hT := hT.below hx
  replace Gy := Gy.below hx
  replace VA := VA.below hx
  replace Vy := Vy.below hx
  replace hb0 := bel_tr hb0 hx
  clear hx
  clear Gy Vy
  go_wp2_with fail
  refine (HFD _).mono ?_
  rintro e w14 ⟨rfl, hx⟩
  replace hA := hA.below hx
  replace hT := hT.below hx
  replace VA := VA.below hx
  replace hb0 := bel_tr hb0 hx
  clear hx
  go_wp2_with fail
  refine (HFU _).mono ?_
  rintro e w15 ⟨rfl, hx⟩
  replace hA := hA.below hx
  replace hT := hT.below hx
  replace VA := VA.below hx
  replace hb0 := bel_tr hb0 hx
  clear hx
  go_wp2_with fail
  refine (HXD _ hT).mono ?_
  rintro e w16 ⟨fu, cu, nu, ku, du, mu, lu, rfl, Gu, hx⟩
  replace hA := hA.below hx
  replace hT := hT.below hx
  replace VA := VA.below hx
  replace hb0 := bel_tr hb0 hx
  clear hx
  have Vu := var3_new w16 (.bool fu) (.slice cu nu ku) (.slice du mu lu) 27
  have hx := bel_d0 w16 (.cells #[.bool fu, .slice cu nu ku, .slice du mu lu] 27)
  replace hA := hA.below hx
  replace hT := hT.below hx
  replace Gu := Gu.below hx
  replace VA := VA.below hx
  replace hb0 := bel_tr hb0 hx
  clear hx
  go_wp2_with fail
  generalize w16.alloc (.cells #[.bool fu, .slice cu nu ku, .slice du mu lu] 27) = w17 at *
  refine (HXU _ hT).mono ?_
  rintro e w18 ⟨fv, cv, nv, kv, dv, mv, lv, rfl, Gv, hx⟩
  replace hA := hA.below hx
  replace hT := hT.below hx
  replace Gu := Gu.below hx
  replace VA := VA.below hx
  replace Vu := Vu.below hx
  replace hb0 := bel_tr hb0 hx
  clear hx
  have Vv := var3_new w18 (.bool fv) (.slice cv nv kv) (.slice dv mv lv) 27
  have hx := bel_d0 w18 (.cells #[.bool fv, .slice cv nv kv, .slice dv mv lv] 27)
  replace hA := hA.below hx
  replace hT := hT.below hx
  replace Gu := Gu.below hx
  replace Gv := Gv.below hx
  replace VA := VA.below hx
  replace Vu := Vu.below hx
  replace hb0 := bel_tr hb0 hx
  clear hx
  obtain ⟨vac0, vac1, vac2, vac3, vac4, vac5⟩ := id VA
  obtain ⟨vuc0, vuc1, vuc2, vuc3, vuc4, vuc5⟩ := id Vu
  go_wp2_with fail
  generalize w18.alloc (.cells #[.bool fv, .slice cv nv kv, .slice dv mv lv] 27) = w19 at *
  refine (subQ _ hA Gu.tr (by omega) (by omega) (by omega) hT).mono ?_
  rintro e w20 ⟨fs, cs, ns, ks, ds, ms, ls, rfl, Gs, hx⟩
  clear vac0 vac1 vac2 vac3 vac4 vac5 vuc0 vuc1 vuc2 vuc3 vuc4 vuc5
  replace hA := hA.below hx
  replace hT := hT.below hx
  replace Gu := Gu.below hx
  replace Gv := Gv.below hx
  replace VA := VA.below hx
  replace Vu := Vu.below hx
  replace Vv := Vv.below hx
  replace hb0 := bel_tr hb0 hx
  clear hx
  have Vs := var3_new w20 (.bool fs) (.slice cs ns ks) (.slice ds ms ls) 27
  have hx := bel_d0 w20 (.cells #[.bool fs, .slice cs ns ks, .slice ds ms ls] 27)
  replace hA := hA.below hx
  replace hT := hT.below hx
  replace Gu := Gu.below hx
  replace Gv := Gv.below hx
  replace Gs := Gs.below hx
  replace VA := VA.below hx
  replace Vu := Vu.below hx
  replace Vv := Vv.below hx
  replace hb0 := bel_tr hb0 hx
  clear hx
  obtain ⟨vvc0, vvc1, vvc2, vvc3, vvc4, vvc5⟩ := id Vv
  obtain ⟨vac0, vac1, vac2, vac3, vac4, vac5⟩ := id VA
  go_wp2_with fail
  generalize w20.alloc (.cells #[.bool fs, .slice cs ns ks, .slice ds ms ls] 27) = w21 at *
  refine (subQ _ Gv.tr hA (by omega) (by omega) (by omega) hT).mono ?_
  rintro e w22 ⟨fq, cq, nq, kq, dq, mq, lq, rfl, Gq, hx⟩
  clear vvc0 vvc1 vvc2 vvc3 vvc4 vvc5 vac0 vac1 vac2 vac3 vac4 vac5
  replace hA := hA.below hx
  replace hT := hT.below hx
  replace Gu := Gu.below hx
  replace Gv := Gv.below hx
  replace Gs := Gs.below hx
  replace VA := VA.below hx
  replace Vu := Vu.below hx
  replace Vv := Vv.below hx
  replace Vs := Vs.below hx
  replace hb0 := bel_tr hb0 hx
  clear hx
  have Vq := var3_new w22 (.bool fq) (.slice cq nq kq) (.slice dq mq lq) 27
  have hx := bel_d0 w22 (.cells #[.bool fq, .slice cq nq kq, .slice dq mq lq] 27)
  replace hA := hA.below hx
  replace hT := hT.below hx
  replace Gu := Gu.below hx
  replace Gv := Gv.below hx
  replace Gs := Gs.below hx
  replace Gq := Gq.below hx
  replace VA := VA.below hx
  replace Vu := Vu.below hx
  replace Vv := Vv.below hx
  replace Vs := Vs.below hx
  replace hb0 := bel_tr hb0 hx
  clear hx
  obtain ⟨vsc0, vsc1, vsc2, vsc3, vsc4, vsc5⟩ := id Vs
  obtain ⟨vqc0, vqc1, vqc2, vqc3, vqc4, vqc5⟩ := id Vq
  go_wp2_with fail
  generalize w22.alloc (.cells #[.bool fq, .slice cq nq kq, .slice dq mq lq] 27) = w23 at *
  refine (cmpB t3 _ Gs.tr Gq.tr (by omega) (by omega) (by omega) HT3.out).mono ?_
  rintro e w24 ⟨rfl, hx⟩
  clear vsc0 vsc1 vsc2 vsc3 vsc4 vsc5 vqc0 vqc1 vqc2 vqc3 vqc4 vqc5
  replace hA := hA.below hx
  replace hT := hT.below hx
  replace Gu := Gu.below hx
  replace Gv := Gv.below hx
  replace Gs := Gs.below hx
  replace Gq := Gq.below hx
  replace VA := VA.below hx
  replace Vu := Vu.below hx
  replace Vv := Vv.below hx
  replace Vs := Vs.below hx
  replace Vq := Vq.below hx
  replace hb0 := bel_tr hb0 hx
  clear hx
  clear Gu Vu Gv Vv Gs Vs Gq Vq
  clear VA hA hT
  by_cases hc : 0 ≤ t3
  · go_wp2
    go_ret
    exact ⟨by simp, hb0⟩
  · go_wp2
    go_ret
    exact ⟨by simp, hb0⟩
set_option maxRecDepth 100000 in
set_option maxHeartbeats 4000000 in
theorem neigh_U1 {p : Bool} {a b : Option Addr} {na nb ca cb : Nat} {r : Rat} {S : Nat} (w : World) (hA : TR w p a na ca b nb cb r S) (hS : S ≤ 2000000) (hS1 : 1 ≤ S) (hT : TB w) (z : Int) (PZ : Pz r z) (h4 : ¬ z % 4 = 0) (hf : flz z = upz z) (hd : -9218868437227405312 < dnz z) (hu : upz z < 9218868437227405312) :
    Calls Tryd.prog 4 #[.agg #[.bool p, .slice a na ca, .slice b nb cb]] w fun e w' => e = .returned (.bool true) ∧ Below w.heap.size w w' := by
  have NB := PZ.nb h4
  have q0 := NB.one
  have q1 := PZ.dn
  have q2 := PZ.up
  obtain ⟨D, hD⟩ : ∃ D, fb (dnz z) = D := ⟨_, rfl⟩
  obtain ⟨U, hU⟩ : ∃ U, fb (upz z) = U := ⟨_, rfl⟩
  have HD : Hid (fb (dnz z) = D) := hD
  have HU : Hid (fb (upz z) = U) := hU
  have HF : Hid (fb (flz z) = U) := by show _ = _; rw [hf]; exact hU
  have HSD : Hid (sdz z = 1) := by show _ = _; unfold sdz; rw [if_neg h4, if_pos hf]
  have oDD : FloatKind.f64.format.order D D = some .eq := by
    have : FloatKind.f64.format.order (fb (dnz z)) (fb (dnz z)) = some (compare (dnz z) (dnz z)) := order_fb (by omega) (by omega) (by omega) (by omega)
    rw [← hD, this, Int.compare_eq_eq.2 rfl]
  have oUU : FloatKind.f64.format.order U U = some .eq := by
    have : FloatKind.f64.format.order (fb (upz z)) (fb (upz z)) = some (compare (upz z) (upz z)) := order_fb (by omega) (by omega) (by omega) (by omega)
    rw [← hU, this, Int.compare_eq_eq.2 rfl]
  have oDU : FloatKind.f64.format.order D U = some .lt := by
    have : FloatKind.f64.format.order (fb (dnz z)) (fb (upz z)) = some (compare (dnz z) (upz z)) := order_fb (by omega) (by omega) (by omega) (by omega)
    rw [← hD, ← hU, this, Int.compare_eq_lt.2 (by omega)]
  have oUD : FloatKind.f64.format.order U D = some .gt := by
    have : FloatKind.f64.format.order (fb (upz z)) (fb (dnz z)) = some (compare (upz z) (dnz z)) := order_fb (by omega) (by omega) (by omega) (by omega)
    rw [← hD, ← hU, this, Int.compare_eq_gt.2 (by omega)]
  have HNX := fun u => nextK (k := dnz z) (F := U) u (by omega) (by omega) (by rw [← q0]; exact hU)
  rw [hD] at HNX
  have HFD := fun u => finiteT (b := D) u (by rw [← hD, fb_mod (by omega) (by omega)]; omega)
  have HXD := fun u hu => exactK (dnz z) u (by omega) (by omega) hu
  rw [hD] at HXD
  obtain ⟨t1, HT1, ht1⟩ : ∃ t1, Hid (t1 = cs (exr (dnz z)) r) ∧ ¬ 0 < t1 := ⟨_, rfl, by have := cs_le.2 (exr_le.2 (Int.le_of_lt (NB.lo hd))); omega⟩
  have HFU := fun u => finiteT (b := U) u (by rw [← hU, fb_mod (by omega) (by omega)]; omega)
  have HXU := fun u hu => exactK (upz z) u (by omega) (by omega) hu
  rw [hU] at HXU
  obtain ⟨t2, HT2, ht2⟩ : ∃ t2, Hid (t2 = cs (exr (upz z)) r) ∧ ¬ t2 < 0 := ⟨_, rfl, by have := cs_ge.2 (le_exr.2 (Int.le_of_lt (NB.hi hu))); omega⟩
  obtain ⟨t3, HT3, ht3⟩ : ∃ t3, Hid (t3 = cs (r - exr (dnz z)) (exr (upz z) - r)) ∧ 0 ≤ t3 := ⟨_, rfl, cs_ge.2 (mid_ge (NB.fu hf))⟩
  clear NB q0 q1 q2 hD hU hf h4 hd hu
  have hb0 := bel_d0 w (.cells #[.bool p, .slice a na ca, .slice b nb cb] 27)
  have VA := var3_new w (.bool p) (.slice a na ca) (.slice b nb cb) 27
  replace hA := hA.below hb0
  replace hT := hT.below hb0
  go_enter Tryd.func4, Tryd.ntmps4
  go_wp2_with fail
  generalize w.alloc (.cells #[.bool p, .slice a na ca, .slice b nb cb] 27) = W0 at *
  refine (awake4 _ hT).mono ?_
  rintro e w1 ⟨rfl, hx⟩
  replace hA := hA.below hx
  replace hT := hT.below hx
  replace VA := VA.below hx
  replace hb0 := bel_tr hb0 hx
  clear hx
  obtain ⟨vac0, vac1, vac2, vac3, vac4, vac5⟩ := id VA
  go_wp2_with fail
  refine (downQ z _ hA (by omega) hS1 PZ HD.out).mono ?_
  rintro e w2 ⟨rfl, hx⟩
  clear vac0 vac1 vac2 vac3 vac4 vac5
  replace hA := hA.below hx
  replace hT := hT.below hx
  replace VA := VA.below hx
  replace hb0 := bel_tr hb0 hx
  clear hx
  obtain ⟨vac0, vac1, vac2, vac3, vac4, vac5⟩ := id VA
  go_wp2_with fail
  refine (upQ z _ hA (by omega) hS1 PZ HU.out).mono ?_
  rintro e w3 ⟨rfl, hx⟩
  clear vac0 vac1 vac2 vac3 vac4 vac5
  replace hA := hA.below hx
  replace hT := hT.below hx
  replace VA := VA.below hx
  replace hb0 := bel_tr hb0 hx
  clear hx
  obtain ⟨vac0, vac1, vac2, vac3, vac4, vac5⟩ := id VA
  go_wp2_with fail
  refine (floatQ z _ hA (by omega) hS1 PZ HF.out HSD.out).mono ?_
  rintro e w4 ⟨rfl, hx⟩
  clear vac0 vac1 vac2 vac3 vac4 vac5
  replace hA := hA.below hx
  replace hT := hT.below hx
  replace VA := VA.below hx
  replace hb0 := bel_tr hb0 hx
  clear hx
  go_wp2_with fail
  refine (HNX _).mono ?_
  rintro e w5 ⟨rfl, e9⟩
  subst e9
  go_wp2_with fail
  refine (HFD _).mono ?_
  rintro e w6 ⟨rfl, hx⟩
  replace hA := hA.below hx
  replace hT := hT.below hx
  replace VA := VA.below hx
  replace hb0 := bel_tr hb0 hx
  clear hx
  go_wp2_with fail
  refine (HXD _ hT).mono ?_
  rintro e w7 ⟨fx, cx, nx, kx, dx, mx, lx, rfl, Gx, hx⟩
  replace hA := hA.below hx
  replace hT := hT.below hx
  replace VA := VA.below hx
  replace hb0 := bel_tr hb0 hx
  clear hx
  have Vx := var3_new w7 (.bool fx) (.slice cx nx kx) (.slice dx mx lx) 27
  have hx := bel_d0 w7 (.cells #[.bool fx, .slice cx nx kx, .slice dx mx lx] 27)
  replace hA := hA.below hx
  replace hT := hT.below hx
  replace Gx := Gx.below hx
  replace VA := VA.below hx
  replace hb0 := bel_tr hb0 hx
  clear hx
  obtain ⟨vxc0, vxc1, vxc2, vxc3, vxc4, vxc5⟩ := id Vx
  obtain ⟨vac0, vac1, vac2, vac3, vac4, vac5⟩ := id VA
  go_wp2_with fail
  generalize w7.alloc (.cells #[.bool fx, .slice cx nx kx, .slice dx mx lx] 27) = w8 at *
  refine (cmpB t1 _ Gx.tr hA (by omega) (by omega) (by omega) HT1.out).mono ?_
  rintro e w9 ⟨rfl, hx⟩
  clear vxc0 vxc1 vxc2 vxc3 vxc4 vxc5 vac0 vac1 vac2 vac3 vac4 vac5
  replace hA := hA.below hx
  replace hT := hT.below hx
  replace Gx := Gx.below hx
  replace VA := VA.below hx
  replace Vx := Vx.below hx
  replace hb0 := bel_tr hb0 hx
  clear hx
  clear Gx Vx
  go_wp2_with fail
  refine (HFU _).mono ?_
  rintro e w10 ⟨rfl, hx⟩
  replace hA := hA.below hx
  replace hT := hT.below hx
  replace VA := VA.below hx
  replace hb0 := bel_tr hb0 hx
  clear hx
  go_wp2_with fail
  refine (HXU _ hT).mono ?_
  rintro e w11 ⟨fy, cy, ny, ky, dy, my, ly, rfl, Gy, hx⟩
  replace hA := hA.below hx
  replace hT := hT.below hx
  replace VA := VA.below hx
  replace hb0 := bel_tr hb0 hx
  clear hx
  have Vy := var3_new w11 (.bool fy) (.slice cy ny ky) (.slice dy my ly) 27
  have hx := bel_d0 w11 (.cells #[.bool fy, .slice cy ny ky, .slice dy my ly] 27)
  replace hA := hA.below hx
  replace hT := hT.below hx
  replace Gy := Gy.below hx
  replace VA := VA.below hx
  replace hb0 := bel_tr hb0 hx
  clear hx
  obtain ⟨vyc0, vyc1, vyc2, vyc3, vyc4, vyc5⟩ := id Vy
  obtain ⟨vac0, vac1, vac2, vac3, vac4, vac5⟩ := id VA
  go_wp2_with fail
  generalize w11.alloc (.cells #[.bool fy, .slice cy ny ky, .slice dy my ly] 27) = w12 at *
  refine (cmpB t2 _ Gy.tr hA (by omega) (by omega) (by omega) HT2.out).mono ?_
  rintro e w13 ⟨rfl, hx⟩
  clear vyc0 vyc1 vyc2 vyc3 vyc4 vyc5 vac0 vac1 vac2 vac3 vac4 vac5
  replace hA := hA.below hx
  replace hT := hT.below hx
  replace Gy := Gy.below hx
  replace VA := VA.below hx
  replace Vy := Vy.below hx
  replace hb0 := bel_tr hb0 hx
  clear hx
  clear Gy Vy
  go_wp2_with fail
  refine (HFD _).mono ?_
  rintro e w14 ⟨rfl, hx⟩
  replace hA := hA.below hx
  replace hT := hT.below hx
  replace VA := VA.below hx
  replace hb0 := bel_tr hb0 hx
  clear hx
  go_wp2_with fail
  refine (HFU _).mono ?_
  rintro e w15 ⟨rfl, hx⟩
  replace hA := hA.below hx
  replace hT := hT.below hx
  replace VA := VA.below hx
  replace hb0 := bel_tr hb0 hx
  clear hx
  go_wp2_with fail
  refine (HXD _ hT).mono ?_
  rintro e w16 ⟨fu, cu, nu, ku, du, mu, lu, rfl, Gu, hx⟩
  replace hA := hA.below hx
  replace hT := hT.below hx
  replace VA := VA.below hx
  replace hb0 := bel_tr hb0 hx
  clear hx
  have Vu := var3_new w16 (.bool fu) (.slice cu nu ku) (.slice du mu lu) 27
  have hx := bel_d0 w16 (.cells #[.bool fu, .slice cu nu ku, .slice du mu lu] 27)
  replace hA := hA.below hx
  replace hT := hT.below hx
  replace Gu := Gu.below hx
  replace VA := VA.below hx
  replace hb0 := bel_tr hb0 hx
  clear hx
  go_wp2_with fail
  generalize w16.alloc (.cells #[.bool fu, .slice cu nu ku, .slice du mu lu] 27) = w17 at *
  refine (HXU _ hT).mono ?_
  rintro e w18 ⟨fv, cv, nv, kv, dv, mv, lv, rfl, Gv, hx⟩
  replace hA := hA.below hx
  replace hT := hT.below hx
  replace Gu := Gu.below hx
  replace VA := VA.below hx
  replace Vu := Vu.below hx
  replace hb0 := bel_tr hb0 hx
  clear hx
  have Vv := var3_new w18 (.bool fv) (.slice cv nv kv) (.slice dv mv lv) 27
  have hx := bel_d0 w18 (.cells #[.bool fv, .slice cv nv kv, .slice dv mv lv] 27)
  replace hA := hA.below hx
  replace hT := hT.below hx
  replace Gu := Gu.below hx
  replace Gv := Gv.below hx
  replace VA := VA.below hx
  replace Vu := Vu.below hx
  replace hb0 := bel_tr hb0 hx
  clear hx
  obtain ⟨vac0, vac1, vac2, vac3, vac4, vac5⟩ := id VA
  obtain ⟨vuc0, vuc1, vuc2, vuc3, vuc4, vuc5⟩ := id Vu
  go_wp2_with fail
  generalize w18.alloc (.cells #[.bool fv, .slice cv nv kv, .slice dv mv lv] 27) = w19 at *
  refine (subQ _ hA Gu.tr (by omega) (by omega) (by omega) hT).mono ?_
  rintro e w20 ⟨fs, cs, ns, ks, ds, ms, ls, rfl, Gs, hx⟩
  clear vac0 vac1 vac2 vac3 vac4 vac5 vuc0 vuc1 vuc2 vuc3 vuc4 vuc5
  replace hA := hA.below hx
  replace hT := hT.below hx
  replace Gu := Gu.below hx
  replace Gv := Gv.below hx
  replace VA := VA.below hx
  replace Vu := Vu.below hx
  replace Vv := Vv.below hx
  replace hb0 := bel_tr hb0 hx
  clear hx
  have Vs := var3_new w20 (.bool fs) (.slice cs ns ks) (.slice ds ms ls) 27
  have hx := bel_d0 w20 (.cells #[.bool fs, .slice cs ns ks, .slice ds ms ls] 27)
  replace hA := hA.below hx
  replace hT := hT.below hx
  replace Gu := Gu.below hx
  replace Gv := Gv.below hx
  replace Gs := Gs.below hx
  replace VA := VA.below hx
  replace Vu := Vu.below hx
  replace Vv := Vv.below hx
  replace hb0 := bel_tr hb0 hx
  clear hx
  obtain ⟨vvc0, vvc1, vvc2, vvc3, vvc4, vvc5⟩ := id Vv
  obtain ⟨vac0, vac1, vac2, vac3, vac4, vac5⟩ := id VA
  go_wp2_with fail
  generalize w20.alloc (.cells #[.bool fs, .slice cs ns ks, .slice ds ms ls] 27) = w21 at *
  refine (subQ _ Gv.tr hA (by omega) (by omega) (by omega) hT).mono ?_
  rintro e w22 ⟨fq, cq, nq, kq, dq, mq, lq, rfl, Gq, hx⟩
  clear vvc0 vvc1 vvc2 vvc3 vvc4 vvc5 vac0 vac1 vac2 vac3 vac4 vac5
  replace hA := hA.below hx
  replace hT := hT.below hx
  replace Gu := Gu.below hx
  replace Gv := Gv.below hx
  replace Gs := Gs.below hx
  replace VA := VA.below hx
  replace Vu := Vu.below hx
  replace Vv := Vv.below hx
  replace Vs := Vs.below hx
  replace hb0 := bel_tr hb0 hx
  clear hx
  have Vq := var3_new w22 (.bool fq) (.slice cq nq kq) (.slice dq mq lq) 27
  have hx := bel_d0 w22 (.cells #[.bool fq, .slice cq nq kq, .slice dq mq lq] 27)
  replace hA := hA.below hx
  replace hT := hT.below hx
  replace Gu := Gu.below hx
  replace Gv := Gv.below hx
  replace Gs := Gs.below hx
  replace Gq := Gq.below hx
  replace VA := VA.below hx
  replace Vu := Vu.below hx
  replace Vv := Vv.below hx
  replace Vs := Vs.below hx
  replace hb0 := bel_tr hb0 hx
  clear hx
  obtain ⟨vsc0, vsc1, vsc2, vsc3, vsc4, vsc5⟩ := id Vs
  obtain ⟨vqc0, vqc1, vqc2, vqc3, vqc4, vqc5⟩ := id Vq
  go_wp2_with fail
  generalize w22.alloc (.cells #[.bool fq, .slice cq nq kq, .slice dq mq lq] 27) = w23 at *
  refine (cmpB t3 _ Gs.tr Gq.tr (by omega) (by omega) (by omega) HT3.out).mono ?_
  rintro e w24 ⟨rfl, hx⟩
  clear vsc0 vsc1 vsc2 vsc3 vsc4 vsc5 vqc0 vqc1 vqc2 vqc3 vqc4 vqc5
  replace hA := hA.below hx
  replace hT := hT.below hx
  replace Gu := Gu.below hx
  replace Gv := Gv.below hx
  replace Gs := Gs.below hx
  replace Gq := Gq.below hx
  replace VA := VA.below hx
  replace Vu := Vu.below hx
  replace Vv := Vv.below hx
  replace Vs := Vs.below hx
  replace Vq := Vq.below hx
  replace hb0 := bel_tr hb0 hx
  clear hx
  clear Gu Vu Gv Vv Gs Vs Gq Vq
  clear VA hA hT
  by_cases hc : t3 ≤ 0
  · go_wp2
    go_ret
    exact ⟨by simp, hb0⟩
  · go_wp2
    go_ret
    exact ⟨by simp, hb0⟩
end Go.Proofs.YtjlmboakeigmpaaDoor

namespace Go.Proofs.YtjlmboakeigmpaaDoor
open Go.RowKit

theorem neigh_walk {p : Bool} {a b : Option Addr} {na nb ca cb : Nat} {r : Rat} {S : Nat} (w : World) (hA : TR w p a na ca b nb cb r S) (hS : S ≤ 2000000) (hS1 : 1 ≤ S) (hT : TB w) :
    Calls Tryd.prog 4 #[.agg #[.bool p, .slice a na ca, .slice b nb cb]] w fun e w' => e = .returned (.bool true) ∧ Below w.heap.size w w' := by
  obtain ⟨z, PZ⟩ := Pz.ex r
  by_cases h4 : z % 4 = 0
  · exact neigh_A w hA hS hS1 hT z PZ h4
  · have q0 := (PZ.nb h4).one
    have q1 := PZ.dn
    have q2 := PZ.up
    by_cases hd : dnz z = -9218868437227405312
    · rcases flz_or z with hf | hf
      · exact neigh_D2 w hA hS hS1 hT z PZ h4 hf hd (by omega)
      · exact neigh_U2 w hA hS hS1 hT z PZ h4 hf hd (by omega)
    · by_cases hu : upz z = 9218868437227405312
      · rcases flz_or z with hf | hf
        · exact neigh_D3 w hA hS hS1 hT z PZ h4 hf (by omega) hu
        · exact neigh_U3 w hA hS hS1 hT z PZ h4 hf (by omega) hu
      · rcases flz_or z with hf | hf
        · exact neigh_D1 w hA hS hS1 hT z PZ h4 hf (by omega) (by omega)
        · exact neigh_U1 w hA hS hS1 hT z PZ h4 hf (by omega) (by omega)
end Go.Proofs.YtjlmboakeigmpaaDoor

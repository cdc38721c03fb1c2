import Derived.Test.YtkgnbcbcgnlodaaGreatDoorRatAll
namespace Go.Proofs.YtkgnbcbcgnlodaaGreatDoor
end Go.Proofs.YtkgnbcbcgnlodaaGreatDoor

namespace Go.Proofs.YtkgnbcbcgnlodaaGreatDoor
open Go.RowKit

/-- How r stands to s: -1, 0, 1. -/
def cs (r s : Rat) : Int := (r.num * s.den - s.num * r.den).sign
theorem cs_tri (r s : Rat) : cs r s = -1 ∨ cs r s = 0 ∨ cs r s = 1 := by
  have := Int.sign_trichotomy (r.num * s.den - s.num * r.den)
  unfold cs; omega
theorem sign_neg_iff {a : Int} : a.sign < 0 ↔ a < 0 := by
  constructor
  · intro h
    exact Int.neg_of_sign_eq_neg_one (by have := Int.sign_trichotomy a; omega)
  · intro h
    rw [Int.sign_eq_neg_one_of_neg h]; decide
theorem sign_pos_iff {a : Int} : 0 < a.sign ↔ 0 < a := by
  constructor
  · intro h
    exact Int.pos_of_sign_eq_one (by have := Int.sign_trichotomy a; omega)
  · intro h
    rw [Int.sign_eq_one_of_pos h]; decide
theorem cs_lt {r s : Rat} : cs r s < 0 ↔ r < s := by
  unfold cs; rw [sign_neg_iff, Rat.lt_iff]; omega
theorem cs_gt {r s : Rat} : 0 < cs r s ↔ s < r := by
  unfold cs; rw [sign_pos_iff, Rat.lt_iff]; omega
theorem tri_ext {u v : Int} (hu : u = -1 ∨ u = 0 ∨ u = 1) (hv : v = -1 ∨ v = 0 ∨ v = 1) (h1 : u < 0 ↔ v < 0) (h2 : 0 < u ↔ 0 < v) : u = v := by omega
theorem sg_tri (a : Int) : a.sign = -1 ∨ a.sign = 0 ∨ a.sign = 1 := by
  have := Int.sign_trichotomy a
  omega
theorem num_neg_iff {r : Rat} : r.num < 0 ↔ r < 0 := by
  rw [← Rat.not_le, ← Rat.num_nonneg]; omega
theorem num_pos_iff {r : Rat} : 0 < r.num ↔ 0 < r := by
  have h := num_neg_iff (r := -r)
  rw [Rat.neg_num] at h
  have e : -r < 0 ↔ 0 < r := by
    have := Rat.neg_lt_neg_iff (a := r) (b := 0)
    rw [Rat.neg_zero] at this
    exact this
  rw [e] at h
  rw [← h]; omega
theorem cs_sub (r s : Rat) : (r - s).num.sign = cs r s := by
  refine tri_ext (sg_tri _) (cs_tri r s) ?_ ?_
  · rw [sign_neg_iff, num_neg_iff, cs_lt, Rat.lt_iff_sub_pos r s]
    have := Rat.neg_lt_neg_iff (a := s - r) (b := 0)
    rw [Rat.neg_zero, Rat.neg_sub] at this
    exact this
  · rw [sign_pos_iff, num_pos_iff, cs_gt, Rat.lt_iff_sub_pos s r]
end Go.Proofs.YtkgnbcbcgnlodaaGreatDoor

namespace Go.Proofs.YtkgnbcbcgnlodaaGreatDoor
open Go.RowKit

theorem rsignB (t : Int) {p : Bool} {a : Option Addr} {na ca : Nat} {d : Option Addr} {nd cd : Nat} {r : Rat} {S : Nat} (w : World) (hr : TR w p a na ca d nd cd r S) (hS : S ≤ 9000000) (hS1 : 1 ≤ S) (ht : t = r.num.sign) :
    Calls Tryz.prog 30 #[.agg #[.bool p, .slice a na ca, .slice d nd cd]] w fun e w' => e = .returned (.int .i64 t) ∧ Below w.heap.size w w' := by
  refine (rsignR w hr hS hS1).mono ?_
  rintro e w' ⟨z, rfl, hz, hb⟩
  exact ⟨by rw [ht, hz], hb⟩
end Go.Proofs.YtkgnbcbcgnlodaaGreatDoor

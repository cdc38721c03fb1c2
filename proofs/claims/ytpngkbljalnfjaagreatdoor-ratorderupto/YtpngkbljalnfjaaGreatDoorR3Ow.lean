import Derived.Test.YtpngkbljalnfjaaGreatDoorR3Oa
import Derived.Test.YtpngkbljalnfjaaGreatDoorR3Ob
import Derived.Test.YtpngkbljalnfjaaGreatDoorR3Oc
import Derived.Test.YtpngkbljalnfjaaGreatDoorR3Od
import Derived.Test.YtpngkbljalnfjaaGreatDoorR3Oe
import Derived.Test.YtpngkbljalnfjaaGreatDoorR3Of
namespace Go.Proofs.YtpngkbljalnfjaaGreatDoor
open Go.RowKit

theorem wrap_tri {t : Int} (h : t = -1 ∨ t = 0 ∨ t = 1) : wrap64 t = t ∧ wrap64 (-t) = -t := by
  unfold wrap64; omega
theorem order_walk {p1 : Bool} {a1 : Option Addr} {na1 ca1 : Nat} {d1 : Option Addr} {nd1 cd1 : Nat} {p2 : Bool} {a2 : Option Addr} {na2 ca2 : Nat} {d2 : Option Addr} {nd2 cd2 : Nat} {p3 : Bool} {a3 : Option Addr} {na3 ca3 : Nat} {d3 : Option Addr} {nd3 cd3 : Nat} {x y z : Rat} {S : Nat} (w : World) (hA : TR w p1 a1 na1 ca1 d1 nd1 cd1 x S) (hB : TR w p2 a2 na2 ca2 d2 nd2 cd2 y S) (hC : TR w p3 a3 na3 ca3 d3 nd3 cd3 z S) (hS : S ≤ 1100000) (hS1 : 1 ≤ S) (hT : TB w) {ev : Value} (E : Errs w 0 ev) :
    Calls Tryz.prog 3 #[.agg #[.bool p1, .slice a1 na1 ca1, .slice d1 nd1 cd1], .agg #[.bool p2, .slice a2 na2 ca2, .slice d2 nd2 cd2], .agg #[.bool p3, .slice a3 na3 ca3, .slice d3 nd3 cd3]] w fun e w' => e = .returned (.bool true) ∧ Below w.heap.size w w' := by
  have hz := wrap_tri (sg_tri z.num)
  obtain ⟨kf, hkf⟩ := Int.eq_ofNat_of_zero_le (abs_far x)
  have ho := sg_tri x.num
  have hfl := abs_flat x
  rcases cs_tri x y with h | h | h
  · have h2 : (1 : Int) = cs y x := by rw [cs_swap, h]; rfl
    by_cases h3 : cs y z = 1
    · exact order_e (s3 := cs x z) (sz := z.num.sign) (sc := -z.num.sign) (kf := kf) (so := x.num.sign) w hA hB hC hS hS1 hT E h.symm h2 h3.symm rfl rfl (show -z.num.sign = -1 * z.num.sign by omega) hkf.symm rfl (by omega) (by omega) hfl hz.2
    · have h4 : cs y z ≤ 0 := by have := cs_tri y z; omega
      have h5 : (-1 : Int) = cs x z := by
        have h6 := cs_lt.1 (show cs x y < 0 by omega)
        have h7 := cs_le.1 h4
        have h8 : x < z := by
          rcases Rat.le_iff_lt_or_eq.1 (Rat.le_trans (Rat.le_of_lt h6) h7) with h | h
          · exact h
          · subst h; exact absurd (Rat.not_le.2 h6) (fun n => n h7)
        have := cs_lt.2 h8
        have := cs_tri x z
        omega
      exact order_f (s2 := cs y z) (sz := z.num.sign) (sc := -z.num.sign) (kf := kf) (so := x.num.sign) w hA hB hC hS hS1 hT E h.symm h2 rfl h5 rfl (show -z.num.sign = -1 * z.num.sign by omega) hkf.symm rfl (by omega) (by omega) hfl hz.2 h4
  · have h2 : (-0 : Int) = cs y x := by rw [cs_swap, h]
    have hxy := cs_eq.1 h
    have h3 : cs x z = cs y z := by rw [hxy]
    rcases cs_tri y z with h4 | h4 | h4
    · exact order_c (sz := z.num.sign) (kf := kf) (so := x.num.sign) w hA hB hC hS hS1 hT E h.symm h2 h4.symm (h3.trans h4).symm rfl (show (0 : Int) = 0 * z.num.sign by omega) hkf.symm rfl (by omega) (by omega) hfl
    · exact order_d (sz := z.num.sign) (kf := kf) (so := x.num.sign) w hA hB hC hS hS1 hT E h.symm h2 h4.symm (h3.trans h4).symm rfl (show (0 : Int) = 0 * z.num.sign by omega) hkf.symm rfl (by omega) (by omega) hfl
    · exact order_b (sz := z.num.sign) (kf := kf) (so := x.num.sign) w hA hB hC hS hS1 hT E h.symm h2 h4.symm (h3.trans h4).symm rfl (show (0 : Int) = 0 * z.num.sign by omega) hkf.symm rfl (by omega) (by omega) hfl
  · have h2 : (-1 : Int) = cs y x := by rw [cs_swap, h]
    exact order_a (s2 := cs y z) (s3 := cs x z) (sz := z.num.sign) (kf := kf) (so := x.num.sign) w hA hB hC hS hS1 hT E h.symm h2 rfl rfl rfl (show z.num.sign = 1 * z.num.sign by omega) hkf.symm rfl (by omega) (by omega) hfl hz.1
end Go.Proofs.YtpngkbljalnfjaaGreatDoor

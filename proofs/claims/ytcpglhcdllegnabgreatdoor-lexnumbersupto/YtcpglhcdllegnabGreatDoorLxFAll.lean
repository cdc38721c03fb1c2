import Derived.Test.YtcpglhcdllegnabGreatDoorLxWAll
namespace Go.Proofs.YtcpglhcdllegnabGreatDoor
open Go.RowKit

theorem smB_nat (c : UInt8) : ((smB c).toNat : Int) = if 65 ≤ (c.toNat : Int) ∧ (c.toNat : Int) ≤ 90 then (c.toNat : Int) + 32 else (c.toNat : Int) :=
  byte_all (p := fun c => ((smB c).toNat : Int) = if 65 ≤ (c.toNat : Int) ∧ (c.toNat : Int) ≤ 90 then (c.toNat : Int) + 32 else (c.toNat : Int)) (by decide +kernel) c
theorem byte_bd (c : UInt8) : 0 ≤ (c.toNat : Int) ∧ (c.toNat : Int) < 256 := by have := c.toNat_lt; omega
def mkB : List UInt8 := [33, 34, 35, 36, 37, 38, 40, 41, 44, 46, 59, 63, 64, 95, 39, 96, 123, 125, 126]
theorem nm_abc (c : UInt8) (h : 97 ≤ ((smB c).toNat : Int) ∧ ((smB c).toNat : Int) ≤ 122) : nmB.contains c = true := by
  revert h
  exact byte_all (p := fun c => 97 ≤ ((smB c).toNat : Int) ∧ ((smB c).toNat : Int) ≤ 122 → nmB.contains c = true) (by decide +kernel) c
theorem nm_dig (c : UInt8) (h : 48 ≤ (c.toNat : Int) ∧ (c.toNat : Int) ≤ 57) : nmB.contains c = true := by
  revert h
  exact byte_all (p := fun c => 48 ≤ (c.toNat : Int) ∧ (c.toNat : Int) ≤ 57 → nmB.contains c = true) (by decide +kernel) c
theorem nm_mark (c : UInt8) (h1 : ¬ (97 ≤ ((smB c).toNat : Int) ∧ ((smB c).toNat : Int) ≤ 122)) (h2 : ¬ (48 ≤ (c.toNat : Int) ∧ (c.toNat : Int) ≤ 57)) : nmB.contains c = mkB.contains c := by
  revert h1 h2
  exact byte_all (p := fun c => ¬ (97 ≤ ((smB c).toNat : Int) ∧ ((smB c).toNat : Int) ≤ 122) → ¬ (48 ≤ (c.toNat : Int) ∧ (c.toNat : Int) ≤ 57) → nmB.contains c = mkB.contains c) (by decide +kernel) c
theorem mk_at {c : UInt8} {i : Nat} (hi : i < 19) (h : ((mkB.getD i 0).toNat : Int) = (c.toNat : Int)) : mkB.contains c = true := by
  have e : mkB.getD i 0 = c := UInt8.toNat_inj.1 (by omega)
  have hl : i < mkB.length := hi
  rw [← e, List.getD_eq_getElem?_getD, List.getElem?_eq_getElem hl, Option.getD_some]
  exact List.elem_eq_true_of_mem (List.getElem_mem hl)
theorem mk_no {c : UInt8} (h : ∀ i, i < 19 → ¬ ((mkB.getD i 0).toNat : Int) = (c.toNat : Int)) : mkB.contains c = false := by
  cases e : mkB.contains c with
  | false => rfl
  | true =>
    exfalso
    have hm : c ∈ mkB := by simpa using e
    obtain ⟨i, hi, hc⟩ := List.mem_iff_getElem.1 hm
    refine h i hi ?_
    rw [List.getD_eq_getElem?_getD, List.getElem?_eq_getElem hi, Option.getD_some, hc]
end Go.Proofs.YtcpglhcdllegnabGreatDoor

namespace Go.Proofs.YtcpglhcdllegnabGreatDoor
open Go.RowKit

theorem bl_of (c : UInt8) : blB.contains c = decide ((c.toNat : Int) = 32 ∨ (c.toNat : Int) = 9 ∨ (c.toNat : Int) = 10 ∨ (c.toNat : Int) = 13) :=
  byte_all (p := fun c => blB.contains c = decide ((c.toNat : Int) = 32 ∨ (c.toNat : Int) = 9 ∨ (c.toNat : Int) = 10 ∨ (c.toNat : Int) = 13)) (by decide +kernel) c
theorem gp_bl {b : UInt8} {l : List UInt8} (h : blB.contains b = true) : gp false (b :: l) = gp false l := by
  conv => lhs; unfold gp
  rw [if_pos h]
theorem gp_rem {l : List UInt8} : gp false (92 :: l) = gp true (92 :: l) := rfl
theorem gp_on {b : UInt8} {l : List UInt8} (h : ¬ b = 10) : gp true (b :: l) = gp true l := by
  conv => lhs; unfold gp
  rw [if_neg h]
theorem gp_off {l : List UInt8} : gp true (10 :: l) = gp false (10 :: l) := rfl
theorem nat_eq {c d : UInt8} (h : (c.toNat : Int) = (d.toNat : Int)) : c = d := UInt8.toNat_inj.1 (by omega)
end Go.Proofs.YtcpglhcdllegnabGreatDoor

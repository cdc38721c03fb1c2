import Derived.Test.YtjlmboakeigmpaaGreatDoorNumAll
namespace Go.Proofs.YtjlmboakeigmpaaGreatDoor
open Go.RowKit

theorem aw1 : tlen (addL [18446744073709551615] [1, 0]) = 2 ∧ (addL [18446744073709551615] [1, 0]).length = 2 ∧ lm (addL [18446744073709551615] [1, 0]) 0 = 0 ∧ lm (addL [18446744073709551615] [1, 0]) 1 = 1 := by decide +kernel
theorem aw2 : tlen (quoW [0, 0, 1] 18446744073709551615) = 2 ∧ tlen [(0 : Int), 0, 1] = 3 ∧ (quoW [0, 0, 1] 18446744073709551615).length = 3 ∧ lm (quoW [0, 0, 1] 18446744073709551615) 0 = 1 ∧ lm (quoW [0, 0, 1] 18446744073709551615) 1 = 1 ∧ remW [0, 0, 1] 18446744073709551615 = 1 := by decide +kernel
theorem aw3 : tlen [(1 : Int)] = 1 ∧ trimL [(1 : Int)] = [1] := by decide +kernel
theorem aw4 : tlen [(18446744073709551615 : Int)] = 1 := by decide +kernel
theorem allW1 : AllW [18446744073709551615] := by intro x hx; simp at hx; subst hx; unfold Word; omega
theorem allW2 : AllW [1, 0] := by intro x hx; simp at hx; unfold Word; omega
theorem allW3 : AllW [0, 0, 1] := by intro x hx; simp at hx; unfold Word; omega


end Go.Proofs.YtjlmboakeigmpaaGreatDoor

import Derived.Test.YtcpglhcdllegnabGreatDoorLawAll
namespace Go.Proofs.YtcpglhcdllegnabGreatDoor
open Go.RowKit

theorem Tryz.errCompR : (Tryz.prog.info? 238).map (·.comparable) = some true := by kernel_rfl
theorem Tryz.errSizeR : (Tryz.prog.info? 256).map (·.size) = some 1 := by kernel_rfl
theorem tx5 : txtI 5 = ⟨#[53]⟩ := by
  unfold txtI
  rw [if_neg (by decide), txt_small (by decide) (by decide)]; rfl
theorem tx6 : txt 6 = ⟨#[54]⟩ := by rw [txt_small (by decide) (by decide)]; rfl
theorem tx2 : txt 2 = ⟨#[50]⟩ := by rw [txt_small (by decide) (by decide)]; rfl
theorem txm1 : txtI (-1) = ⟨#[45, 49]⟩ := by
  unfold txtI
  rw [if_pos (by decide), txt_small (by decide) (by decide)]; rfl
theorem q56 : (Rat.divInt 1 2 + Rat.divInt 1 3).num = 5 ∧ (Rat.divInt 1 2 + Rat.divInt 1 3).den = 6 := by
  rw [Rat.divInt_add_divInt _ _ (by decide) (by decide), Rat.num_divInt, Rat.den_divInt]; decide
theorem qm12 : (Rat.divInt (-50) 100).num = -1 ∧ (Rat.divInt (-50) 100).den = 2 := by
  rw [Rat.num_divInt, Rat.den_divInt]; decide
theorem txA : txtQ (Rat.divInt 1 2 + Rat.divInt 1 3) = ⟨#[53, 47, 54]⟩ := by
  unfold txtQ
  rw [q56.1, q56.2, if_neg (by decide), tx5, tx6]; rfl
theorem txB : txtQ (Rat.divInt (-50) 100) = ⟨#[45, 49, 47, 50]⟩ := by
  unfold txtQ
  rw [qm12.1, qm12.2, if_neg (by decide), txm1, tx2]; rfl
theorem cm32 : ((Rat.divInt 1 3).num * (Rat.divInt 1 2).den - (Rat.divInt 1 2).num * (Rat.divInt 1 3).den).sign = -1 := by
  rw [Rat.num_divInt, Rat.den_divInt, Rat.num_divInt, Rat.den_divInt]; decide
theorem Num.le1 {w : World} (h : Num w none 0 0 0 0) : Num w none 0 0 0 1 := by
  obtain ⟨xs, h1, h2, h3, h4, h5, h6⟩ := h
  exact ⟨xs, h1, h2, h3, h4, h5, by omega⟩
end Go.Proofs.YtcpglhcdllegnabGreatDoor

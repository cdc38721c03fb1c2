import Derived.Test.YtcpglhcdllegnabGreatDoorQ3Iw
import Derived.Test.YtcpglhcdllegnabGreatDoorRefX
import Derived.Test.YtcpglhcdllegnabGreatDoorTxAll
namespace Go.Proofs.YtcpglhcdllegnabGreatDoor
open Go.RowKit

set_option maxHeartbeats 4000000 in
/-- the document's Text -/
theorem textD {p : Bool} {a : Option Addr} {na ca : Nat} {d : Option Addr} {nd cd : Nat} {r : Rat} {S : Nat} (w : World) (hr : TR w p a na ca d nd cd r S) (hS : S ≤ 7000000) (hS1 : 1 ≤ S) :
    Calls Tryz.prog 6 #[.agg #[.bool p, .slice a na ca, .slice d nd cd]] w fun e w' => e = .returned (.string (txtQ r)) ∧ Below w.heap.size w w' := by
  have P0 := var3_new w (.bool p) (.slice a na ca) (.slice d nd cd) 27
  have hb0 := bel_d0 w (.cells #[.bool p, .slice a na ca, .slice d nd cd] 27)
  have hsz : w.heap.size + 1 ≤ (w.alloc (.cells #[.bool p, .slice a na ca, .slice d nd cd] 27)).heap.size := by simp
  replace hr := hr.below hb0
  go_enter Tryz.func6, Tryz.ntmps6
  go_wp2_with fail
  generalize w.alloc (.cells #[.bool p, .slice a na ca, .slice d nd cd] 27) = W0 at *
  obtain ⟨p0c0, p0c1, p0c2, p0c3, p0c4, p0c5⟩ := id P0
  refine (normD _ hr (by omega) hS1).mono ?_
  rintro e w1 ⟨fx, cx, nx, kx, dX, mx, lx, rfl, Gx, hx⟩
  replace Gx := Gx.mono (B' := w.heap.size + 1) hsz
  clear p0c0 p0c1 p0c2 p0c3 p0c4 p0c5
  replace hr := hr.below hx
  replace P0 := P0.below hx
  replace hb0 := bel_tr hb0 hx
  replace hsz := Nat.le_trans hsz (Below.size hx)
  clear hx
  clear P0
  clear hr
  have hx := bel_d0 w1 (.cells #[.bool fx, .slice cx nx kx, .slice dX mx lx] 27)
  replace Gx := Gx.below hx
  replace hb0 := bel_tr hb0 hx
  replace hsz := Nat.le_trans hsz (Below.size hx)
  have Vx := var3_new w1 (.bool fx) (.slice cx nx kx) (.slice dX mx lx) 27
  clear hx
  obtain ⟨vxc0, vxc1, vxc2, vxc3, vxc4, vxc5⟩ := id Vx
  go_wp2_with fail
  generalize w1.alloc (.cells #[.bool fx, .slice cx nx kx, .slice dX mx lx] 27) = w2 at *
  obtain ⟨e1, N1⟩ := Gx.1.parts
  have z1 := txt_size N1.num
  have z2 := txt_size Gx.2.num
  rw [Int.toNat_natCast] at z1 z2
  clear N1
  refine (rtextV _ Gx.1.parts.2.num (by omega)).mono ?_
  rintro e w3 ⟨rfl, hx⟩
  clear vxc0 vxc1 vxc2 vxc3 vxc4 vxc5
  replace Gx := Gx.below hx
  replace Vx := Vx.below hx
  replace hb0 := bel_tr hb0 hx
  replace hsz := Nat.le_trans hsz (Below.size hx)
  clear hx
  obtain ⟨vxc0, vxc1, vxc2, vxc3, vxc4, vxc5⟩ := id Vx
  obtain ⟨T1, hT1⟩ : ∃ t, txt r.num.natAbs = t := ⟨_, rfl⟩
  have HT1 : Hid (txt r.num.natAbs = T1) := hT1
  rw [hT1] at z1 ⊢
  clear hT1
  rcases (by omega : r.num < 0 ∨ 0 ≤ r.num) with hs | hs
  · obtain rfl : fx = true := by rw [e1]; simpa using hs
    clear e1
    have HI : Hid (txtI r.num = strOfNums [45] ++ T1) := by show _ = _; unfold txtI; rw [if_pos hs, HT1.out]
    by_cases hd : r.den = 1
    · go_wp2_with fail
      refine (isWholeD true _ Gx.tr (by omega) hS1 (by simp [hd])).mono ?_
      rintro e w4 ⟨rfl, hx⟩
      clear vxc0 vxc1 vxc2 vxc3 vxc4 vxc5
      replace Gx := Gx.below hx
      replace Vx := Vx.below hx
      replace hb0 := bel_tr hb0 hx
      replace hsz := Nat.le_trans hsz (Below.size hx)
      clear hx
      have HQ : Hid (txtQ r = strOfNums [45] ++ T1) := by show _ = _; unfold txtQ; rw [if_pos hd, HI.out]
      clear HI hd Gx Vx
      go_wp2
      go_ret
      exact ⟨by rw [HQ.out]; rfl, hb0⟩
    · go_wp2_with fail
      refine (isWholeD false _ Gx.tr (by omega) hS1 (by simp [hd])).mono ?_
      rintro e w4 ⟨rfl, hx⟩
      clear vxc0 vxc1 vxc2 vxc3 vxc4 vxc5
      replace Gx := Gx.below hx
      replace Vx := Vx.below hx
      replace hb0 := bel_tr hb0 hx
      replace hsz := Nat.le_trans hsz (Below.size hx)
      clear hx
      obtain ⟨vxc0, vxc1, vxc2, vxc3, vxc4, vxc5⟩ := id Vx
      have HQ : Hid (txtQ r = (strOfNums [45] ++ T1) ++ ⟨#[47]⟩ ++ txt r.den) := by show _ = _; unfold txtQ; rw [if_neg hd, HI.out]
      clear HI hd
      go_wp2_with fail
      refine (rtextV _ Gx.2.num (by omega)).mono ?_
      rintro e w5 ⟨rfl, hx⟩
      clear vxc0 vxc1 vxc2 vxc3 vxc4 vxc5
      replace Gx := Gx.below hx
      replace Vx := Vx.below hx
      replace hb0 := bel_tr hb0 hx
      replace hsz := Nat.le_trans hsz (Below.size hx)
      clear hx
      clear Gx Vx
      generalize txt r.den = T2 at *
      go_wp2
      go_ret
      exact ⟨by rw [HQ.out]; rfl, hb0⟩
  · obtain rfl : fx = false := by rw [e1]; simpa using hs
    clear e1
    have HI : Hid (txtI r.num = T1) := by show _ = _; unfold txtI; rw [if_neg (Int.not_lt.2 hs), HT1.out]
    by_cases hd : r.den = 1
    · go_wp2_with fail
      refine (isWholeD true _ Gx.tr (by omega) hS1 (by simp [hd])).mono ?_
      rintro e w4 ⟨rfl, hx⟩
      clear vxc0 vxc1 vxc2 vxc3 vxc4 vxc5
      replace Gx := Gx.below hx
      replace Vx := Vx.below hx
      replace hb0 := bel_tr hb0 hx
      replace hsz := Nat.le_trans hsz (Below.size hx)
      clear hx
      have HQ : Hid (txtQ r = T1) := by show _ = _; unfold txtQ; rw [if_pos hd, HI.out]
      clear HI hd Gx Vx
      go_wp2
      go_ret
      exact ⟨by rw [HQ.out]; rfl, hb0⟩
    · go_wp2_with fail
      refine (isWholeD false _ Gx.tr (by omega) hS1 (by simp [hd])).mono ?_
      rintro e w4 ⟨rfl, hx⟩
      clear vxc0 vxc1 vxc2 vxc3 vxc4 vxc5
      replace Gx := Gx.below hx
      replace Vx := Vx.below hx
      replace hb0 := bel_tr hb0 hx
      replace hsz := Nat.le_trans hsz (Below.size hx)
      clear hx
      obtain ⟨vxc0, vxc1, vxc2, vxc3, vxc4, vxc5⟩ := id Vx
      have HQ : Hid (txtQ r = T1 ++ ⟨#[47]⟩ ++ txt r.den) := by show _ = _; unfold txtQ; rw [if_neg hd, HI.out]
      clear HI hd
      go_wp2_with fail
      refine (rtextV _ Gx.2.num (by omega)).mono ?_
      rintro e w5 ⟨rfl, hx⟩
      clear vxc0 vxc1 vxc2 vxc3 vxc4 vxc5
      replace Gx := Gx.below hx
      replace Vx := Vx.below hx
      replace hb0 := bel_tr hb0 hx
      replace hsz := Nat.le_trans hsz (Below.size hx)
      clear hx
      clear Gx Vx
      generalize txt r.den = T2 at *
      go_wp2
      go_ret
      exact ⟨by rw [HQ.out]; rfl, hb0⟩
end Go.Proofs.YtcpglhcdllegnabGreatDoor

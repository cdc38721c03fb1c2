import Derived.Test.YtjbcjapgammbhacDoorWhG
import Derived.Test.YtjbcjapgammbhacDoorWhH
namespace Go.Proofs.YtjbcjapgammbhacDoor
open Go.RowKit

theorem tmod_bd (u : Int) : -2147483648 < u.tmod 2147483648 ∧ u.tmod 2147483648 < 2147483648 := by
  have h := Int.natAbs_tmod u 2147483648
  have h2 : u.natAbs % 2147483648 < 2147483648 := Nat.mod_lt _ (by decide)
  have e : (2147483648 : Int).natAbs = 2147483648 := rfl
  rw [e] at h
  omega
theorem prod_bd {x y : Int} (h0 : -2147483648 < x) (h1 : x < 2147483648) (h2 : -2147483648 < y) (h3 : y < 2147483648) : -4611686018427387905 < x * y ∧ x * y < 4611686018427387905 := by
  have h := Int.natAbs_mul x y
  have h4 : x.natAbs * y.natAbs ≤ 2147483648 * 2147483648 := Nat.mul_le_mul (by omega) (by omega)
  omega
set_option maxHeartbeats 1000000 in
theorem words_walk (u v : Int) (w : World) (u0 : -9223372036854775808 ≤ u) (u1 : u < 9223372036854775808) (v0 : -9223372036854775808 ≤ v) (v1 : v < 9223372036854775808) :
    Calls Tryd.prog 4 #[.int .i64 u, .int .i64 v] w fun e w' => e = .returned (.bool true) ∧ Below w.heap.size w w' := by
  go_enter Tryd.func4, Tryd.ntmps4
  go_wp2_with fail
  refine (awakeI _).mono ?_
  rintro e w1 ⟨rfl, hb0⟩
  go_wp2_with fail
  refine (ofI u _ u0 u1).mono ?_
  rintro e w2 ⟨y, rfl, GA, hb⟩
  obtain ⟨c0, n0, d0, rfl, KA⟩ := id GA
  replace hb0 := bel_tr hb0 hb
  have EA : Hid (ws (decide (u < 0)) (u.natAbs : Int) = u) := ws_sign u
  generalize decide (u < 0) = fa at *
  clear hb GA
  obtain ⟨Va, hx, hsx⟩ := box1 w2 (.bool fa) (.slice c0 n0 d0) 25
  go_wp2_with fail
  generalize w2.alloc (.cells #[.bool fa, .slice c0 n0 d0] 25) = w3 at *
  replace KA := KA.below hx
  replace hb0 := bel_tr hb0 hx
  clear hx hsx
  refine (ofI v _ v0 v1).mono ?_
  rintro e w4 ⟨y, rfl, GB, hb⟩
  obtain ⟨c1, n1, d1, rfl, KB⟩ := id GB
  replace hb0 := bel_tr hb0 hb
  replace Va := Va.below hb
  replace KA := KA.below hb
  have EB : Hid (ws (decide (v < 0)) (v.natAbs : Int) = v) := ws_sign v
  generalize decide (v < 0) = fb at *
  clear hb GB
  obtain ⟨Vb, hx, hsx⟩ := box1 w4 (.bool fb) (.slice c1 n1 d1) 25
  obtain ⟨x0, x1, _, _⟩ := id (Va.below hx)
  obtain ⟨y0, y1, _, _⟩ := id Vb
  go_wp2_with fail
  generalize w4.alloc (.cells #[.bool fb, .slice c1 n1 d1] 25) = w5 at *
  replace KA := KA.below hx
  replace KB := KB.below hx
  replace Va := Va.below hx
  replace hb0 := bel_tr hb0 hx
  clear hx hsx x0 x1 y0 y1
  have hadd := addI fa fb w5 KA.num KB.num (by omega) (by omega)
  rw [EA.out, EB.out] at hadd
  refine hadd.mono ?_
  rintro e w6 ⟨y, rfl, GS, hb⟩
  obtain ⟨c2, n2, d2, rfl, KS⟩ := id GS
  replace hb0 := bel_tr hb0 hb
  replace Va := Va.below hb
  replace Vb := Vb.below hb
  replace KA := KA.below hb
  replace KB := KB.below hb
  clear hb hadd
  have h64 := int64I (decide (u + v < 0)) w6 KS.num (by omega)
  rw [ws_sign] at h64
  go_wp2_with fail
  refine h64.mono ?_
  rintro e w7 ⟨rfl, hb⟩
  replace hb0 := bel_tr hb0 hb
  replace Va := Va.below hb
  replace Vb := Vb.below hb
  replace KA := KA.below hb
  replace KB := KB.below hb
  clear hb h64 GS KS
  have hcase : (-9223372036854775808 ≤ u + v ∧ u + v < 9223372036854775808) ∨ (9223372036854775808 ≤ u + v) ∨ (u + v < -9223372036854775808) := by omega
  rcases hcase with ⟨q0, q1⟩ | q0 | q0
  · rw [show wordI (u + v) = u + v from if_pos ⟨q0, q1⟩, show fitI (u + v) = true from decide_eq_true ⟨q0, q1⟩]
    go_wp2_with fail
    all_goals
      (first
        | (obtain ⟨X, hX, hX0, hX1⟩ : ∃ X : Int, u % 2147483648 = X ∧ -2147483648 < X ∧ X < 2147483648 := ⟨_, rfl, by omega, by omega⟩
           rw [hX])
        | (obtain ⟨X, hX, hX0, hX1⟩ : ∃ X : Int, u.tmod 2147483648 = X ∧ -2147483648 < X ∧ X < 2147483648 := ⟨_, rfl, (tmod_bd u).1, (tmod_bd u).2⟩
           rw [hX]))
      clear hX
      refine (ofI X _ (by omega) (by omega)).mono ?_
      rintro e w8 ⟨y, rfl, GX, hb⟩
      obtain ⟨c3, n3, d3, rfl, KX⟩ := id GX
      replace hb0 := bel_tr hb0 hb
      replace Va := Va.below hb
      replace Vb := Vb.below hb
      replace KA := KA.below hb
      replace KB := KB.below hb
      have EX : Hid (ws (decide (X < 0)) (X.natAbs : Int) = X) := ws_sign X
      generalize decide (X < 0) = fx at *
      clear hb GX
      go_wp2_with fail
      (first
        | (obtain ⟨Y, hY, hY0, hY1⟩ : ∃ Y : Int, v % 2147483648 = Y ∧ -2147483648 < Y ∧ Y < 2147483648 := ⟨_, rfl, by omega, by omega⟩
           rw [hY])
        | (obtain ⟨Y, hY, hY0, hY1⟩ : ∃ Y : Int, v.tmod 2147483648 = Y ∧ -2147483648 < Y ∧ Y < 2147483648 := ⟨_, rfl, (tmod_bd v).1, (tmod_bd v).2⟩
           rw [hY]))
      clear hY
      refine (ofI Y _ (by omega) (by omega)).mono ?_
      rintro e w9 ⟨y, rfl, GY, hb⟩
      obtain ⟨c4, n4, d4, rfl, KY⟩ := id GY
      replace hb0 := bel_tr hb0 hb
      replace Va := Va.below hb
      replace Vb := Vb.below hb
      replace KA := KA.below hb
      replace KB := KB.below hb
      replace KX := KX.below hb
      have EY : Hid (ws (decide (Y < 0)) (Y.natAbs : Int) = Y) := ws_sign Y
      generalize decide (Y < 0) = fy at *
      clear hb GY
      go_wp2_with fail
      have hmul := mulI fx fy w9 KX.num KY.num (by omega) (by omega)
      rw [EX.out, EY.out] at hmul
      refine hmul.mono ?_
      rintro e w10 ⟨y, rfl, GP, hb⟩
      obtain ⟨c5, n5, d5, rfl, KP⟩ := id GP
      replace hb0 := bel_tr hb0 hb
      replace Va := Va.below hb
      replace Vb := Vb.below hb
      replace KA := KA.below hb
      replace KB := KB.below hb
      obtain ⟨z0, z1⟩ := prod_bd hX0 hX1 hY0 hY1
      have h64 := int64I (decide (X * Y < 0)) w10 KP.num (by omega)
      rw [ws_sign, show wordI (X * Y) = X * Y from if_pos (by omega), show fitI (X * Y) = true from decide_eq_true (by omega)] at h64
      clear hb hmul KX KY GP EX EY
      go_wp2_with fail
      refine h64.mono ?_
      rintro e w11 ⟨rfl, hb⟩
      replace hb0 := bel_tr hb0 hb
      replace Va := Va.below hb
      replace Vb := Vb.below hb
      replace KA := KA.below hb
      replace KB := KB.below hb
      clear hb h64 KP
      obtain ⟨x0, x1, _, _⟩ := id Va
      obtain ⟨y0, y1, _, _⟩ := id Vb
      go_wp2_with fail
      have hcm := wcmpI fa fb w11 KA.num KB.num (by omega) (by omega)
      rw [EA.out, EB.out] at hcm
      refine hcm.mono ?_
      rintro e w12 ⟨rfl, hb⟩
      replace hb0 := bel_tr hb0 hb
      have hsg := sign_is (u - v)
      generalize (u - v).sign = sn at *
      clear hb hcm KA KB Va Vb x0 x1 y0 y1
      rcases Int.lt_or_le u v with huv | huv
      · obtain rfl : sn = -1 := by omega
        go_wp2
        go_ret
        exact ⟨rfl, hb0⟩
      · have e1 : decide (sn < 0) = false := decide_eq_false (by omega)
        have e2 : decide (u < v) = false := decide_eq_false (by omega)
        go_wp2
        go_ret
        first
          | exact ⟨rfl, hb0⟩
          | (refine ⟨?_, hb0⟩
             show Ending.returned (Value.bool (decide (sn < 0) == decide (u < v))) = _
             rw [e1, e2]; rfl)
  · rw [show wordI (u + v) = 0 from if_neg (by omega), show fitI (u + v) = false from decide_eq_false (by omega)]
    have hwr : wrap64 (u + v) < 0 := by unfold wrap64; omega
    have hu : 0 < u := by omega
    have hv : 0 < v := by omega
    go_wp2_with fail
    all_goals
      (first
        | (obtain ⟨X, hX, hX0, hX1⟩ : ∃ X : Int, u % 2147483648 = X ∧ -2147483648 < X ∧ X < 2147483648 := ⟨_, rfl, by omega, by omega⟩
           rw [hX])
        | (obtain ⟨X, hX, hX0, hX1⟩ : ∃ X : Int, u.tmod 2147483648 = X ∧ -2147483648 < X ∧ X < 2147483648 := ⟨_, rfl, (tmod_bd u).1, (tmod_bd u).2⟩
           rw [hX]))
      clear hX
      refine (ofI X _ (by omega) (by omega)).mono ?_
      rintro e w8 ⟨y, rfl, GX, hb⟩
      obtain ⟨c3, n3, d3, rfl, KX⟩ := id GX
      replace hb0 := bel_tr hb0 hb
      replace Va := Va.below hb
      replace Vb := Vb.below hb
      replace KA := KA.below hb
      replace KB := KB.below hb
      have EX : Hid (ws (decide (X < 0)) (X.natAbs : Int) = X) := ws_sign X
      generalize decide (X < 0) = fx at *
      clear hb GX
      go_wp2_with fail
      (first
        | (obtain ⟨Y, hY, hY0, hY1⟩ : ∃ Y : Int, v % 2147483648 = Y ∧ -2147483648 < Y ∧ Y < 2147483648 := ⟨_, rfl, by omega, by omega⟩
           rw [hY])
        | (obtain ⟨Y, hY, hY0, hY1⟩ : ∃ Y : Int, v.tmod 2147483648 = Y ∧ -2147483648 < Y ∧ Y < 2147483648 := ⟨_, rfl, (tmod_bd v).1, (tmod_bd v).2⟩
           rw [hY]))
      clear hY
      refine (ofI Y _ (by omega) (by omega)).mono ?_
      rintro e w9 ⟨y, rfl, GY, hb⟩
      obtain ⟨c4, n4, d4, rfl, KY⟩ := id GY
      replace hb0 := bel_tr hb0 hb
      replace Va := Va.below hb
      replace Vb := Vb.below hb
      replace KA := KA.below hb
      replace KB := KB.below hb
      replace KX := KX.below hb
      have EY : Hid (ws (decide (Y < 0)) (Y.natAbs : Int) = Y) := ws_sign Y
      generalize decide (Y < 0) = fy at *
      clear hb GY
      go_wp2_with fail
      have hmul := mulI fx fy w9 KX.num KY.num (by omega) (by omega)
      rw [EX.out, EY.out] at hmul
      refine hmul.mono ?_
      rintro e w10 ⟨y, rfl, GP, hb⟩
      obtain ⟨c5, n5, d5, rfl, KP⟩ := id GP
      replace hb0 := bel_tr hb0 hb
      replace Va := Va.below hb
      replace Vb := Vb.below hb
      replace KA := KA.below hb
      replace KB := KB.below hb
      obtain ⟨z0, z1⟩ := prod_bd hX0 hX1 hY0 hY1
      have h64 := int64I (decide (X * Y < 0)) w10 KP.num (by omega)
      rw [ws_sign, show wordI (X * Y) = X * Y from if_pos (by omega), show fitI (X * Y) = true from decide_eq_true (by omega)] at h64
      clear hb hmul KX KY GP EX EY
      go_wp2_with fail
      refine h64.mono ?_
      rintro e w11 ⟨rfl, hb⟩
      replace hb0 := bel_tr hb0 hb
      replace Va := Va.below hb
      replace Vb := Vb.below hb
      replace KA := KA.below hb
      replace KB := KB.below hb
      clear hb h64 KP
      obtain ⟨x0, x1, _, _⟩ := id Va
      obtain ⟨y0, y1, _, _⟩ := id Vb
      go_wp2_with fail
      have hcm := wcmpI fa fb w11 KA.num KB.num (by omega) (by omega)
      rw [EA.out, EB.out] at hcm
      refine hcm.mono ?_
      rintro e w12 ⟨rfl, hb⟩
      replace hb0 := bel_tr hb0 hb
      have hsg := sign_is (u - v)
      generalize (u - v).sign = sn at *
      clear hb hcm KA KB Va Vb x0 x1 y0 y1
      rcases Int.lt_or_le u v with huv | huv
      · obtain rfl : sn = -1 := by omega
        go_wp2
        go_ret
        exact ⟨rfl, hb0⟩
      · have e1 : decide (sn < 0) = false := decide_eq_false (by omega)
        have e2 : decide (u < v) = false := decide_eq_false (by omega)
        go_wp2
        go_ret
        first
          | exact ⟨rfl, hb0⟩
          | (refine ⟨?_, hb0⟩
             show Ending.returned (Value.bool (decide (sn < 0) == decide (u < v))) = _
             rw [e1, e2]; rfl)
  · rw [show wordI (u + v) = 0 from if_neg (by omega), show fitI (u + v) = false from decide_eq_false (by omega)]
    have hwr : 0 ≤ wrap64 (u + v) := by unfold wrap64; omega
    have hu : u < 0 := by omega
    have hv : v < 0 := by omega
    go_wp2_with fail
    all_goals
      (first
        | (obtain ⟨X, hX, hX0, hX1⟩ : ∃ X : Int, u % 2147483648 = X ∧ -2147483648 < X ∧ X < 2147483648 := ⟨_, rfl, by omega, by omega⟩
           rw [hX])
        | (obtain ⟨X, hX, hX0, hX1⟩ : ∃ X : Int, u.tmod 2147483648 = X ∧ -2147483648 < X ∧ X < 2147483648 := ⟨_, rfl, (tmod_bd u).1, (tmod_bd u).2⟩
           rw [hX]))
      clear hX
      refine (ofI X _ (by omega) (by omega)).mono ?_
      rintro e w8 ⟨y, rfl, GX, hb⟩
      obtain ⟨c3, n3, d3, rfl, KX⟩ := id GX
      replace hb0 := bel_tr hb0 hb
      replace Va := Va.below hb
      replace Vb := Vb.below hb
      replace KA := KA.below hb
      replace KB := KB.below hb
      have EX : Hid (ws (decide (X < 0)) (X.natAbs : Int) = X) := ws_sign X
      generalize decide (X < 0) = fx at *
      clear hb GX
      go_wp2_with fail
      (first
        | (obtain ⟨Y, hY, hY0, hY1⟩ : ∃ Y : Int, v % 2147483648 = Y ∧ -2147483648 < Y ∧ Y < 2147483648 := ⟨_, rfl, by omega, by omega⟩
           rw [hY])
        | (obtain ⟨Y, hY, hY0, hY1⟩ : ∃ Y : Int, v.tmod 2147483648 = Y ∧ -2147483648 < Y ∧ Y < 2147483648 := ⟨_, rfl, (tmod_bd v).1, (tmod_bd v).2⟩
           rw [hY]))
      clear hY
      refine (ofI Y _ (by omega) (by omega)).mono ?_
      rintro e w9 ⟨y, rfl, GY, hb⟩
      obtain ⟨c4, n4, d4, rfl, KY⟩ := id GY
      replace hb0 := bel_tr hb0 hb
      replace Va := Va.below hb
      replace Vb := Vb.below hb
      replace KA := KA.below hb
      replace KB := KB.below hb
      replace KX := KX.below hb
      have EY : Hid (ws (decide (Y < 0)) (Y.natAbs : Int) = Y) := ws_sign Y
      generalize decide (Y < 0) = fy at *
      clear hb GY
      go_wp2_with fail
      have hmul := mulI fx fy w9 KX.num KY.num (by omega) (by omega)
      rw [EX.out, EY.out] at hmul
      refine hmul.mono ?_
      rintro e w10 ⟨y, rfl, GP, hb⟩
      obtain ⟨c5, n5, d5, rfl, KP⟩ := id GP
      replace hb0 := bel_tr hb0 hb
      replace Va := Va.below hb
      replace Vb := Vb.below hb
      replace KA := KA.below hb
      replace KB := KB.below hb
      obtain ⟨z0, z1⟩ := prod_bd hX0 hX1 hY0 hY1
      have h64 := int64I (decide (X * Y < 0)) w10 KP.num (by omega)
      rw [ws_sign, show wordI (X * Y) = X * Y from if_pos (by omega), show fitI (X * Y) = true from decide_eq_true (by omega)] at h64
      clear hb hmul KX KY GP EX EY
      go_wp2_with fail
      refine h64.mono ?_
      rintro e w11 ⟨rfl, hb⟩
      replace hb0 := bel_tr hb0 hb
      replace Va := Va.below hb
      replace Vb := Vb.below hb
      replace KA := KA.below hb
      replace KB := KB.below hb
      clear hb h64 KP
      obtain ⟨x0, x1, _, _⟩ := id Va
      obtain ⟨y0, y1, _, _⟩ := id Vb
      go_wp2_with fail
      have hcm := wcmpI fa fb w11 KA.num KB.num (by omega) (by omega)
      rw [EA.out, EB.out] at hcm
      refine hcm.mono ?_
      rintro e w12 ⟨rfl, hb⟩
      replace hb0 := bel_tr hb0 hb
      have hsg := sign_is (u - v)
      generalize (u - v).sign = sn at *
      clear hb hcm KA KB Va Vb x0 x1 y0 y1
      rcases Int.lt_or_le u v with huv | huv
      · obtain rfl : sn = -1 := by omega
        go_wp2
        go_ret
        exact ⟨rfl, hb0⟩
      · have e1 : decide (sn < 0) = false := decide_eq_false (by omega)
        have e2 : decide (u < v) = false := decide_eq_false (by omega)
        go_wp2
        go_ret
        first
          | exact ⟨rfl, hb0⟩
          | (refine ⟨?_, hb0⟩
             show Ending.returned (Value.bool (decide (sn < 0) == decide (u < v))) = _
             rw [e1, e2]; rfl)
end Go.Proofs.YtjbcjapgammbhacDoor

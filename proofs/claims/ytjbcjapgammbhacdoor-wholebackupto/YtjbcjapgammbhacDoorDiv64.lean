import Derived.Test.YtjbcjapgammbhacDoorShelf
import Derived.Laws.Bits64b
namespace Go.Proofs.YtjbcjapgammbhacDoor
open Go.RowKit

set_option maxHeartbeats 400000 in
theorem lead64_any (x : Int) (w : World) (h0 : 0 ≤ x) (h1 : x < 18446744073709551616) (n : Nat) (hn : Lib.bitLen x.toNat = n) (hn2 : n ≤ 64) :
    Calls Tryd.prog 52 #[.int .u64 x] w fun e w' => e = .returned (.int .i64 (64 - (n : Int))) ∧ w = w' := by
  have HN : Hid (Lib.bitLen x.toNat = n) := hn
  clear hn
  go_enter Tryd.func52, Tryd.ntmps52
  go_wp2_with fail
  refine (len64_any x _ h0 h1).mono ?_
  rintro e w1 ⟨rfl, rfl⟩
  rw [HN.out]
  go_wp2
  go_ret
  exact ⟨rfl, rfl⟩

/-! ### the plain arithmetic of one digit: b = 2^32 -/
theorem dg_lt {U L Y Q R : Int} (hd : U * 4294967296 + L = Q * Y + R) (hL : L < 4294967296) (hR : 0 ≤ R) (hU : U < Y) (hY : 0 < Y) : Q < 4294967296 := by
  have h : Q * Y < 4294967296 * Y := by omega
  exact Int.lt_of_mul_lt_mul_right h (by omega)
theorem dg_nn {U L Y Q R : Int} (hd : U * 4294967296 + L = Q * Y + R) (hL : 0 ≤ L) (hU : 0 ≤ U) (hR : R < Y) (hY : 0 < Y) : 0 ≤ Q := by
  have h : (-1) * Y < Q * Y := by omega
  have := Int.lt_of_mul_lt_mul_right h (by omega)
  omega
theorem dg_split {q Y Y1 Y0 r U p : Int} (hY : Y = Y1 * 4294967296 + Y0) (hi : q * Y1 + r = U) (hp : q * Y0 = p) : q * Y = (U - r) * 4294967296 + p := by
  have h1 : q * Y1 = U - r := by omega
  rw [hY, Int.mul_add, ← Int.mul_assoc, h1, hp]
theorem dg_gt {q Y Y1 Y0 r U L Q R p : Int} (hY : Y = Y1 * 4294967296 + Y0) (hi : q * Y1 + r = U) (hp : q * Y0 = p) (hd : U * 4294967296 + L = Q * Y + R) (hR : 0 ≤ R) (hY' : 0 < Y) (h : 4294967296 * r + L < p) : Q < q := by
  have e := dg_split hY hi hp
  have h2 : Q * Y < q * Y := by omega
  exact Int.lt_of_mul_lt_mul_right h2 (by omega)
theorem dg_le {q Y Y1 Y0 r U L Q R p : Int} (hY : Y = Y1 * 4294967296 + Y0) (hi : q * Y1 + r = U) (hp : q * Y0 = p) (hd : U * 4294967296 + L = Q * Y + R) (hR : R < Y) (hY' : 0 < Y) (h : p ≤ 4294967296 * r + L) : q ≤ Q := by
  have e := dg_split hY hi hp
  have h2 : q * Y < (Q + 1) * Y := by rw [Int.add_mul]; omega
  have := Int.lt_of_mul_lt_mul_right h2 (by omega)
  omega
theorem dg_break {q Y Y1 Y0 r U L Q R : Int} (hY : Y = Y1 * 4294967296 + Y0) (hi : q * Y1 + r = U) (hd : U * 4294967296 + L = Q * Y + R) (hR : R < Y) (hY' : 0 < Y) (hU : U < Y) (hL : 0 ≤ L) (h1 : 0 ≤ Y1) (h0 : 0 ≤ Y0) (h0' : Y0 < 4294967296) (hr : 4294967296 ≤ r) : q ≤ Q := by
  have hqb : q ≤ 4294967295 := by
    rcases Int.lt_or_le 4294967295 q with h | h
    · have := Int.mul_le_mul_of_nonneg_right (a := 4294967296) (b := q) (c := Y1) (by omega) h1
      omega
    · exact h
  have hp := Int.mul_le_mul (a := q) (b := Y0) (c := 4294967295) (d := 4294967295) hqb (by omega) h0 (by omega)
  exact dg_le hY hi rfl hd hR hY' (by omega)

theorem dg_start {U L Y Y1 Y0 Q R : Int} (hY : Y = Y1 * 4294967296 + Y0) (y1a : 2147483648 ≤ Y1) (y1b : Y1 < 4294967296) (y0a : 0 ≤ Y0) (ua : 0 ≤ U) (ub : U < Y) (yb : Y < 18446744073709551616) (la : 0 ≤ L) (hd : U * 4294967296 + L = Q * Y + R) (hQ : 0 ≤ Q) (hR : 0 ≤ R) (hL : L < 4294967296) :
    ∃ Z V : Int, U / Y1 = Z ∧ Z * Y1 = U - V ∧ Z < 8589934592 ∧ Hid (Q ≤ Z) ∧ Hid (Z * Y1 + V = U) ∧ Hid (IntKind.u64.wrap (U - IntKind.u64.wrap (U - V)) = V) ∧ (0 ≤ V ∧ V < 4294967296) := by
  obtain ⟨Z, hZ⟩ : ∃ Z, U / Y1 = Z := ⟨_, rfl⟩
  obtain ⟨V, hV⟩ : ∃ V, U - V = Z * Y1 := ⟨U - Z * Y1, by omega⟩
  have hmod : 0 ≤ V ∧ V < Y1 := by
    have := Int.emod_add_mul_ediv U Y1
    have h3 := Int.emod_nonneg U (show Y1 ≠ 0 by omega)
    have h4 := Int.emod_lt_of_pos U (show 0 < Y1 by omega)
    rw [hZ, Int.mul_comm] at this
    omega
  have hZ0 : 0 ≤ Z := by rw [← hZ]; exact Int.ediv_nonneg ua (by omega)
  have hZ1 : Z < 8589934592 := by
    have : Z * 2147483648 ≤ Z * Y1 := Int.mul_le_mul_of_nonneg_left y1a hZ0
    omega
  refine ⟨Z, V, hZ, hV.symm, hZ1, ?_, ?_, ?_, hmod.1, by omega⟩
  · have e : Z * Y1 + V = U := by omega
    have e2 : Q * Y1 ≤ U := by
      have h5 : Q * Y = Q * Y1 * 4294967296 + Q * Y0 := by rw [hY, Int.mul_add, ← Int.mul_assoc]
      have h6 : 0 ≤ Q * Y0 := Int.mul_nonneg hQ y0a
      omega
    have h8 : Q * Y1 < (Z + 1) * Y1 := by rw [Int.add_mul]; omega
    have := Int.lt_of_mul_lt_mul_right h8 (by omega)
    show Q ≤ Z
    omega
  · show _ = _; omega
  · show _ = _; rw [IntKind.wrap_u64, IntKind.wrap_u64]; omega

set_option maxHeartbeats 1000000 in
theorem div64_core (hi lo y : Int) (w : World) (h0 : 0 < hi) (_hl0 : 0 ≤ lo) (_hl1 : lo < 18446744073709551616) (hy1 : hi < y) (hy2 : y < 18446744073709551616) (n : Nat) (HN : Hid (Lib.bitLen y.toNat = n)) (hn1 : 1 ≤ n) (hn2 : n ≤ 64)
    (Y Y1 Y0 U Lw L1 L0 Q1 R1 Q2 R2 : Int) (eY : IntKind.u64.wrap (y * 2 ^ (64 - n)) = Y) (eY1 : Y / 4294967296 = Y1) (eY0 : bits BinOp.and IntKind.u64 Y 4294967295 = Y0)
    (eU : bits BinOp.or IntKind.u64 (IntKind.u64.wrap (hi * 2 ^ (64 - n))) (lo / 2 ^ (64 - (64 - n))) = U) (eL : IntKind.u64.wrap (lo * 2 ^ (64 - n)) = Lw) (eL1 : Lw / 4294967296 = L1) (eL0 : bits BinOp.and IntKind.u64 Lw 4294967295 = L0)
    (HY : Hid (Y = Y1 * 4294967296 + Y0)) (y1a : 2147483648 ≤ Y1) (y1b : Y1 < 4294967296) (y0a : 0 ≤ Y0) (y0b : Y0 < 4294967296) (ua : 0 ≤ U) (ub : U < Y) (yb : Y < 18446744073709551616) (l1a : 0 ≤ L1) (l1b : L1 < 4294967296) (l0a : 0 ≤ L0) (l0b : L0 < 4294967296) (_lw0 : 0 ≤ Lw) (_lw1 : Lw < 18446744073709551616)
    (H1 : Hid (U * 4294967296 + L1 = Q1 * Y + R1)) (r1a : 0 ≤ R1) (r1b : R1 < Y) (H2 : Hid (R1 * 4294967296 + L0 = Q2 * Y + R2)) (r2a : 0 ≤ R2) (r2b : R2 < Y) :
    Calls Tryd.prog 51 #[.int .u64 hi, .int .u64 lo, .int .u64 y] w fun e w' => e = .returned (.tuple #[.int .u64 (Q1 * 4294967296 + Q2), .int .u64 (R2 / 2 ^ (64 - n))]) ∧ w = w' := by
  have t1 : (y == 0) = false := by simp; omega
  have t2 : (hi == 0) = false := by simp; omega
  have q1a : 0 ≤ Q1 := dg_nn H1.out l1a ua r1b (by omega)
  have q1b : Q1 < 4294967296 := dg_lt H1.out l1b r1a ub (by omega)
  have q2a : 0 ≤ Q2 := dg_nn H2.out l0a r1a r2b (by omega)
  have q2b : Q2 < 4294967296 := dg_lt H2.out l0b r2a r1b (by omega)
  obtain ⟨Z, V, hZ, eZV, hZ1, HQI, HVI, EV, hmod⟩ := dg_start HY.out y1a y1b y0a ua ub (by omega) l1a H1.out q1a r1a l1b
  obtain ⟨Z2, V2, hZ2, eZV2, hZ21, HQI2, HVI2, EV2, hmod2⟩ := dg_start HY.out y1a y1b y0a r1a r1b (by omega) l0a H2.out q2a r2a l0b
  have E21 : IntKind.u64.wrap (IntKind.u64.wrap (IntKind.u64.wrap (U * 4294967296) + L1) - IntKind.u64.wrap (Q1 * Y)) = R1 := by
    simp only [IntKind.wrap_u64]; have := H1.out; omega
  have E22 : IntKind.u64.wrap (IntKind.u64.wrap (IntKind.u64.wrap (R1 * 4294967296) + L0) - IntKind.u64.wrap (Q2 * Y)) = R2 := by
    simp only [IntKind.wrap_u64]; have := H2.out; omega
  go_enter Tryd.func51, Tryd.ntmps51
  go_wp2_with fail
  refine (lead64_any y _ (by omega) hy2 n HN.out hn2).mono ?_
  rintro e w1 ⟨rfl, rfl⟩
  go_wp2_with fail
  go_loop [15, 16] (fun a b => ∃ q r : Int, a = .int .u64 q ∧ b = .int .u64 r ∧ q * Y1 + r = U ∧ 0 ≤ r ∧ r < 4294967296 ∧ Q1 ≤ q ∧ q < 8589934592) (fun a _ => (intOf a).toNat)
  case atStart => exact ⟨Z, V, by first | rfl | rw [hZ], by first | rfl | rw [EV.out], HVI.out, hmod.1, hmod.2, HQI.out, hZ1⟩
  case round =>
    obtain ⟨q, r, rfl, rfl, hqr, ra, rb, hq, hq'⟩ := hrel
    have HQR : Hid (q * Y1 + r = U) := hqr
    clear hqr hZ HVI HQI EV hmod hZ1 eZV
    by_cases c1 : 4294967296 ≤ q
    · have hlt : Q1 < q := by omega
      by_cases c3 : 4294967296 ≤ r + Y1
      · have hqe : Q1 = q - 1 := Int.le_antisymm (by omega) (dg_break (r := r + Y1) HY.out (by have := HQR.out; rw [Int.sub_mul]; omega) H1.out r1b (by omega) ub l1a (by omega) y0a y0b c3)
        have c4 : Q1 + 1 = q := by omega
        clear hqe hlt
        obtain rfl := c4
        go_wp2_with fail
        go_loop [18, 16] (fun a b => ∃ q r : Int, a = .int .u64 q ∧ b = .int .u64 r ∧ q * Y1 + r = R1 ∧ 0 ≤ r ∧ r < 4294967296 ∧ Q2 ≤ q ∧ q < 8589934592) (fun a _ => (intOf a).toNat)
        case atStart => exact ⟨Z2, V2, by first | rfl | rw [hZ2], by first | rfl | rw [EV2.out], HVI2.out, hmod2.1, hmod2.2, HQI2.out, hZ21⟩
        case round =>
          obtain ⟨q, r, rfl, rfl, hqr, ra, rb, hq, hq'⟩ := hrel
          have HQR : Hid (q * Y1 + r = R1) := hqr
          clear hqr hZ2 HVI2 HQI2 EV2 hmod2 hZ21 eZV2
          by_cases c1 : 4294967296 ≤ q
          · have hlt : Q2 < q := by omega
            by_cases c3 : 4294967296 ≤ r + Y1
            · have hqe : Q2 = q - 1 := Int.le_antisymm (by omega) (dg_break (r := r + Y1) HY.out (by have := HQR.out; rw [Int.sub_mul]; omega) H2.out r2b (by omega) r1b l0a (by omega) y0a y0b c3)
              have c4 : Q2 + 1 = q := by omega
              clear hqe hlt
              obtain rfl := c4
              go_wp2_with fail
              go_wp2
              go_ret2
              exact ⟨rfl, rfl⟩
            · go_wp2
              go_round
              case rel => exact ⟨q - 1, r + Y1, rfl, rfl, by have := HQR.out; rw [Int.sub_mul]; omega, by omega, by omega, by omega, by omega⟩
              case measure => simp [intOf]; omega
          · obtain ⟨p, hp⟩ : ∃ p, q * Y0 = p := ⟨_, rfl⟩
            have HP : Hid (q * Y0 = p) := hp
            have pb : 0 ≤ p ∧ p < 18446744073709551616 := by
              have a1 := Int.mul_nonneg (show 0 ≤ q by omega) y0a
              have a2 := Int.mul_le_mul (a := q) (b := Y0) (c := 4294967295) (d := 4294967295) (by omega) (by omega) y0a (by omega)
              omega
            obtain ⟨pa, pb⟩ := pb
            by_cases c2 : 4294967296 * r + L0 < p
            · have hlt : Q2 < q := dg_gt HY.out HQR.out HP.out H2.out r2a (by omega) c2
              by_cases c3 : 4294967296 ≤ r + Y1
              · have hqe : Q2 = q - 1 := Int.le_antisymm (by omega) (dg_break (r := r + Y1) HY.out (by have := HQR.out; rw [Int.sub_mul]; omega) H2.out r2b (by omega) r1b l0a (by omega) y0a y0b c3)
                have c4 : Q2 + 1 = q := by omega
                clear hqe hlt
                obtain rfl := c4
                go_wp2_with fail
                go_wp2
                go_ret2
                exact ⟨rfl, rfl⟩
              · go_wp2
                go_round
                case rel => exact ⟨q - 1, r + Y1, rfl, rfl, by have := HQR.out; rw [Int.sub_mul]; omega, by omega, by omega, by omega, by omega⟩
                case measure => simp [intOf]; omega
            · obtain rfl : Q2 = q := Int.le_antisymm hq (dg_le HY.out HQR.out HP.out H2.out r2b (by omega) (by omega))
              clear HP
              go_wp2_with fail
              go_wp2
              go_ret2
              exact ⟨rfl, rfl⟩
      · go_wp2
        go_round
        case rel => exact ⟨q - 1, r + Y1, rfl, rfl, by have := HQR.out; rw [Int.sub_mul]; omega, by omega, by omega, by omega, by omega⟩
        case measure => simp [intOf]; omega
    · obtain ⟨p, hp⟩ : ∃ p, q * Y0 = p := ⟨_, rfl⟩
      have HP : Hid (q * Y0 = p) := hp
      have pb : 0 ≤ p ∧ p < 18446744073709551616 := by
        have a1 := Int.mul_nonneg (show 0 ≤ q by omega) y0a
        have a2 := Int.mul_le_mul (a := q) (b := Y0) (c := 4294967295) (d := 4294967295) (by omega) (by omega) y0a (by omega)
        omega
      obtain ⟨pa, pb⟩ := pb
      by_cases c2 : 4294967296 * r + L1 < p
      · have hlt : Q1 < q := dg_gt HY.out HQR.out HP.out H1.out r1a (by omega) c2
        by_cases c3 : 4294967296 ≤ r + Y1
        · have hqe : Q1 = q - 1 := Int.le_antisymm (by omega) (dg_break (r := r + Y1) HY.out (by have := HQR.out; rw [Int.sub_mul]; omega) H1.out r1b (by omega) ub l1a (by omega) y0a y0b c3)
          have c4 : Q1 + 1 = q := by omega
          clear hqe hlt
          obtain rfl := c4
          go_wp2_with fail
          go_loop [18, 16] (fun a b => ∃ q r : Int, a = .int .u64 q ∧ b = .int .u64 r ∧ q * Y1 + r = R1 ∧ 0 ≤ r ∧ r < 4294967296 ∧ Q2 ≤ q ∧ q < 8589934592) (fun a _ => (intOf a).toNat)
          case atStart => exact ⟨Z2, V2, by first | rfl | rw [hZ2], by first | rfl | rw [EV2.out], HVI2.out, hmod2.1, hmod2.2, HQI2.out, hZ21⟩
          case round =>
            obtain ⟨q, r, rfl, rfl, hqr, ra, rb, hq, hq'⟩ := hrel
            have HQR : Hid (q * Y1 + r = R1) := hqr
            clear hqr hZ2 HVI2 HQI2 EV2 hmod2 hZ21 eZV2
            by_cases c1 : 4294967296 ≤ q
            · have hlt : Q2 < q := by omega
              by_cases c3 : 4294967296 ≤ r + Y1
              · have hqe : Q2 = q - 1 := Int.le_antisymm (by omega) (dg_break (r := r + Y1) HY.out (by have := HQR.out; rw [Int.sub_mul]; omega) H2.out r2b (by omega) r1b l0a (by omega) y0a y0b c3)
                have c4 : Q2 + 1 = q := by omega
                clear hqe hlt
                obtain rfl := c4
                go_wp2_with fail
                go_wp2
                go_ret2
                exact ⟨rfl, rfl⟩
              · go_wp2
                go_round
                case rel => exact ⟨q - 1, r + Y1, rfl, rfl, by have := HQR.out; rw [Int.sub_mul]; omega, by omega, by omega, by omega, by omega⟩
                case measure => simp [intOf]; omega
            · obtain ⟨p, hp⟩ : ∃ p, q * Y0 = p := ⟨_, rfl⟩
              have HP : Hid (q * Y0 = p) := hp
              have pb : 0 ≤ p ∧ p < 18446744073709551616 := by
                have a1 := Int.mul_nonneg (show 0 ≤ q by omega) y0a
                have a2 := Int.mul_le_mul (a := q) (b := Y0) (c := 4294967295) (d := 4294967295) (by omega) (by omega) y0a (by omega)
                omega
              obtain ⟨pa, pb⟩ := pb
              by_cases c2 : 4294967296 * r + L0 < p
              · have hlt : Q2 < q := dg_gt HY.out HQR.out HP.out H2.out r2a (by omega) c2
                by_cases c3 : 4294967296 ≤ r + Y1
                · have hqe : Q2 = q - 1 := Int.le_antisymm (by omega) (dg_break (r := r + Y1) HY.out (by have := HQR.out; rw [Int.sub_mul]; omega) H2.out r2b (by omega) r1b l0a (by omega) y0a y0b c3)
                  have c4 : Q2 + 1 = q := by omega
                  clear hqe hlt
                  obtain rfl := c4
                  go_wp2_with fail
                  go_wp2
                  go_ret2
                  exact ⟨rfl, rfl⟩
                · go_wp2
                  go_round
                  case rel => exact ⟨q - 1, r + Y1, rfl, rfl, by have := HQR.out; rw [Int.sub_mul]; omega, by omega, by omega, by omega, by omega⟩
                  case measure => simp [intOf]; omega
              · obtain rfl : Q2 = q := Int.le_antisymm hq (dg_le HY.out HQR.out HP.out H2.out r2b (by omega) (by omega))
                clear HP
                go_wp2_with fail
                go_wp2
                go_ret2
                exact ⟨rfl, rfl⟩
        · go_wp2
          go_round
          case rel => exact ⟨q - 1, r + Y1, rfl, rfl, by have := HQR.out; rw [Int.sub_mul]; omega, by omega, by omega, by omega, by omega⟩
          case measure => simp [intOf]; omega
      · obtain rfl : Q1 = q := Int.le_antisymm hq (dg_le HY.out HQR.out HP.out H1.out r1b (by omega) (by omega))
        clear HP
        go_wp2_with fail
        go_loop [18, 16] (fun a b => ∃ q r : Int, a = .int .u64 q ∧ b = .int .u64 r ∧ q * Y1 + r = R1 ∧ 0 ≤ r ∧ r < 4294967296 ∧ Q2 ≤ q ∧ q < 8589934592) (fun a _ => (intOf a).toNat)
        case atStart => exact ⟨Z2, V2, by first | rfl | rw [hZ2], by first | rfl | rw [EV2.out], HVI2.out, hmod2.1, hmod2.2, HQI2.out, hZ21⟩
        case round =>
          obtain ⟨q, r, rfl, rfl, hqr, ra, rb, hq, hq'⟩ := hrel
          have HQR : Hid (q * Y1 + r = R1) := hqr
          clear hqr hZ2 HVI2 HQI2 EV2 hmod2 hZ21 eZV2
          by_cases c1 : 4294967296 ≤ q
          · have hlt : Q2 < q := by omega
            by_cases c3 : 4294967296 ≤ r + Y1
            · have hqe : Q2 = q - 1 := Int.le_antisymm (by omega) (dg_break (r := r + Y1) HY.out (by have := HQR.out; rw [Int.sub_mul]; omega) H2.out r2b (by omega) r1b l0a (by omega) y0a y0b c3)
              have c4 : Q2 + 1 = q := by omega
              clear hqe hlt
              obtain rfl := c4
              go_wp2_with fail
              go_wp2
              go_ret2
              exact ⟨rfl, rfl⟩
            · go_wp2
              go_round
              case rel => exact ⟨q - 1, r + Y1, rfl, rfl, by have := HQR.out; rw [Int.sub_mul]; omega, by omega, by omega, by omega, by omega⟩
              case measure => simp [intOf]; omega
          · obtain ⟨p, hp⟩ : ∃ p, q * Y0 = p := ⟨_, rfl⟩
            have HP : Hid (q * Y0 = p) := hp
            have pb : 0 ≤ p ∧ p < 18446744073709551616 := by
              have a1 := Int.mul_nonneg (show 0 ≤ q by omega) y0a
              have a2 := Int.mul_le_mul (a := q) (b := Y0) (c := 4294967295) (d := 4294967295) (by omega) (by omega) y0a (by omega)
              omega
            obtain ⟨pa, pb⟩ := pb
            by_cases c2 : 4294967296 * r + L0 < p
            · have hlt : Q2 < q := dg_gt HY.out HQR.out HP.out H2.out r2a (by omega) c2
              by_cases c3 : 4294967296 ≤ r + Y1
              · have hqe : Q2 = q - 1 := Int.le_antisymm (by omega) (dg_break (r := r + Y1) HY.out (by have := HQR.out; rw [Int.sub_mul]; omega) H2.out r2b (by omega) r1b l0a (by omega) y0a y0b c3)
                have c4 : Q2 + 1 = q := by omega
                clear hqe hlt
                obtain rfl := c4
                go_wp2_with fail
                go_wp2
                go_ret2
                exact ⟨rfl, rfl⟩
              · go_wp2
                go_round
                case rel => exact ⟨q - 1, r + Y1, rfl, rfl, by have := HQR.out; rw [Int.sub_mul]; omega, by omega, by omega, by omega, by omega⟩
                case measure => simp [intOf]; omega
            · obtain rfl : Q2 = q := Int.le_antisymm hq (dg_le HY.out HQR.out HP.out H2.out r2b (by omega) (by omega))
              clear HP
              go_wp2_with fail
              go_wp2
              go_ret2
              exact ⟨rfl, rfl⟩

theorem bitLenAux_zero (f : Nat) : Lib.bitLenAux f 0 = 0 := by cases f <;> simp [Lib.bitLenAux]
theorem bitLenAux_spec : ∀ (f x : Nat), x < 2 ^ f → x < 2 ^ Lib.bitLenAux f x ∧ (0 < x → 0 < Lib.bitLenAux f x ∧ 2 ^ (Lib.bitLenAux f x - 1) ≤ x)
  | 0, x, h => by simp at h; subst h; simp [Lib.bitLenAux]
  | f + 1, x, h => by
    unfold Lib.bitLenAux
    split
    · rename_i h0; subst h0; simp
    · rename_i h0
      by_cases hx : x / 2 = 0
      · rw [hx, bitLenAux_zero]
        obtain rfl : x = 1 := by omega
        simp
      · have ih := bitLenAux_spec f (x / 2) (by rw [Nat.pow_succ] at h; omega)
        generalize Lib.bitLenAux f (x / 2) = m at ih ⊢
        obtain ⟨hm, h2⟩ := ih.2 (by omega)
        have h3 := ih.1
        refine ⟨?_, fun _ => ⟨by omega, ?_⟩⟩
        · rw [Nat.add_comm, Nat.pow_succ]; omega
        · rw [show 1 + m - 1 = (m - 1) + 1 by omega, Nat.pow_succ]; omega
theorem bitLen_spec (x : Nat) (h : x < 18446744073709551616) (h0 : 0 < x) : x < 2 ^ Lib.bitLen x ∧ 0 < Lib.bitLen x ∧ 2 ^ (Lib.bitLen x - 1) ≤ x ∧ Lib.bitLen x ≤ 64 := by
  have a := bitLenAux_spec 64 x h
  exact ⟨a.1, (a.2 h0).1, (a.2 h0).2, Lib.bitLen_le x 64 (Nat.le_refl _) h⟩

theorem and_mask (a : Int) (h0 : 0 ≤ a) (h1 : a < 18446744073709551616) : bits BinOp.and IntKind.u64 a 4294967295 = a % 4294967296 := by
  obtain ⟨a, rfl⟩ := Int.eq_ofNat_of_zero_le h0
  have h := bits_and_u64_nat a 4294967295 (by omega) (by omega)
  have e : a &&& 4294967295 = a % 4294967296 := Nat.and_two_pow_sub_one_eq_mod a 32
  rw [e] at h
  have h2 : ((4294967295 : Nat) : Int) = 4294967295 := rfl
  rw [h2] at h
  rw [h]; omega
theorem or_low (x c s : Nat) (hc : c < 2 ^ s) (h : x * 2 ^ s + c < 18446744073709551616) : bits BinOp.or IntKind.u64 ((x * 2 ^ s : Nat) : Int) (c : Int) = ((x * 2 ^ s + c : Nat) : Int) := by
  rw [bits_or_u64_nat _ _ (by omega) (by omega)]
  have := Nat.two_pow_add_eq_or_of_lt hc x
  rw [Nat.mul_comm] at this
  rw [this]

/-- The 128 bits, shifted so that the divisor's highest bit is set. -/
theorem shifted (hi lo y n : Nat) (hl : lo < 18446744073709551616) (hy : hi < y) (hn : y < 2 ^ n) (hn1 : 0 < n) (hn0 : 2 ^ (n - 1) ≤ y) (hn2 : n ≤ 64) :
    y * 2 ^ (64 - n) < 18446744073709551616 ∧ 9223372036854775808 ≤ y * 2 ^ (64 - n) ∧ lo / 2 ^ n < 2 ^ (64 - n) ∧ hi * 2 ^ (64 - n) + lo / 2 ^ n < y * 2 ^ (64 - n) ∧
    (hi * 18446744073709551616 + lo) * 2 ^ (64 - n) = (hi * 2 ^ (64 - n) + lo / 2 ^ n) * 18446744073709551616 + lo * 2 ^ (64 - n) % 18446744073709551616 := by
  have e : 2 ^ n * 2 ^ (64 - n) = 18446744073709551616 := by rw [← Nat.pow_add, show n + (64 - n) = 64 by omega]
  have e1 : 2 ^ (n - 1) * 2 ^ (64 - n) = 9223372036854775808 := by rw [← Nat.pow_add, show n - 1 + (64 - n) = 63 by omega]
  have hS : 0 < 2 ^ (64 - n) := Nat.two_pow_pos _
  have hP : 0 < 2 ^ n := Nat.two_pow_pos _
  generalize 2 ^ (64 - n) = S at *
  generalize 2 ^ n = P at *
  have a1 : y * S < 18446744073709551616 := by rw [← e]; exact (Nat.mul_lt_mul_right hS).2 hn
  have a2 : 9223372036854775808 ≤ y * S := by rw [← e1]; exact Nat.mul_le_mul_right _ hn0
  have a3 : lo / P < S := by rw [Nat.div_lt_iff_lt_mul hP, Nat.mul_comm, e]; exact hl
  have a4 : hi * S + lo / P < y * S := by
    have : (hi + 1) * S ≤ y * S := Nat.mul_le_mul_right _ (by omega)
    rw [Nat.add_mul] at this; omega
  refine ⟨a1, a2, a3, a4, ?_⟩
  have b : lo * S / 18446744073709551616 = lo / P := by rw [← e]; exact Nat.mul_div_mul_right _ _ hS
  have c := Nat.div_add_mod (lo * S) 18446744073709551616
  rw [b] at c
  rw [Nat.add_mul, Nat.add_mul, Nat.mul_right_comm]
  omega

theorem cast5 (a b S U L K : Nat) (h : (a * K + b) * S = U * K + L) : ((a : Int) * (K : Int) + b) * (S : Int) = (U : Int) * (K : Int) + L := by exact_mod_cast h
theorem div_unique {x y q r : Int} (h : x = q * y + r) (h0 : 0 ≤ r) (h1 : r < y) : x / y = q ∧ x % y = r := by
  have hy : 0 < y := by omega
  have e : x = r + y * q := by rw [h, Int.mul_comm]; omega
  exact (Int.ediv_emod_unique hy).2 ⟨e.symm, h0, h1⟩

set_option maxHeartbeats 400000 in
theorem div64_zero (lo y : Int) (w : World) (hl0 : 0 ≤ lo) (_hl1 : lo < 18446744073709551616) (hy : 0 < y) (hy2 : y < 18446744073709551616) :
    Calls Tryd.prog 51 #[.int .u64 0, .int .u64 lo, .int .u64 y] w fun e w' => e = .returned (.tuple #[.int .u64 (lo / y), .int .u64 (lo % y)]) ∧ ∃ m, w' = w.drewN m := by
  have t1 : (y == 0) = false := by simp; omega
  have b1 : 0 ≤ lo / y := Int.ediv_nonneg hl0 (by omega)
  have b2 : lo / y < 18446744073709551616 := by
    have := Int.ediv_le_self y hl0
    omega
  have b3 : 0 ≤ lo % y := Int.emod_nonneg _ (by omega)
  have b4 : lo % y < y := Int.emod_lt_of_pos _ hy
  go_enter Tryd.func51, Tryd.ntmps51
  go_wp2_with fail
  go_quiet (fail)
  go_wp2
  go_ret2
  exact ⟨rfl, nq, rfl⟩

theorem div64_any (hi lo y : Int) (w : World) (h0 : 0 ≤ hi) (hl0 : 0 ≤ lo) (hl1 : lo < 18446744073709551616) (hy1 : hi < y) (hy2 : y < 18446744073709551616) :
    Calls Tryd.prog 51 #[.int .u64 hi, .int .u64 lo, .int .u64 y] w fun e w' => e = .returned (.tuple #[.int .u64 ((hi * 18446744073709551616 + lo) / y), .int .u64 ((hi * 18446744073709551616 + lo) % y)]) ∧ ∃ m, w' = w.drewN m := by
  by_cases hz : hi = 0
  · subst hz
    simpa using div64_zero lo y w hl0 hl1 (by omega) hy2
  obtain ⟨a, rfl⟩ := Int.eq_ofNat_of_zero_le h0
  obtain ⟨b, rfl⟩ := Int.eq_ofNat_of_zero_le hl0
  obtain ⟨c, rfl⟩ := Int.eq_ofNat_of_zero_le (show 0 ≤ y by omega)
  obtain ⟨s1, s2, s3, s4⟩ := bitLen_spec c (by omega) (by omega)
  generalize hn : Lib.bitLen c = n at *
  obtain ⟨c1, c2, c3, c4, c5⟩ := shifted a b c n (by omega) (by omega) s1 s2 s3 s4
  have c4' : a * 2 ^ (64 - n) < 18446744073709551616 := Nat.lt_of_le_of_lt (Nat.le_add_right _ (b / 2 ^ n)) (Nat.lt_trans c4 c1)
  have ew : ∀ x : Nat, (x : Int) * 2 ^ (64 - n) = ((x * 2 ^ (64 - n) : Nat) : Int) := fun x => by rw [Int.natCast_mul, Int.natCast_pow]; rfl
  have hS : 0 < 2 ^ (64 - n) := Nat.two_pow_pos _
  have hn64 : 64 - (64 - n) = n := by omega
  -- the numbers of the walk
  have eY : IntKind.u64.wrap ((c : Int) * 2 ^ (64 - n)) = ((c * 2 ^ (64 - n) : Nat) : Int) := by rw [ew, IntKind.wrap_u64]; omega
  have eH : IntKind.u64.wrap ((a : Int) * 2 ^ (64 - n)) = ((a * 2 ^ (64 - n) : Nat) : Int) := by rw [ew, IntKind.wrap_u64]; omega
  have eL : IntKind.u64.wrap ((b : Int) * 2 ^ (64 - n)) = ((b * 2 ^ (64 - n) % 18446744073709551616 : Nat) : Int) := by rw [ew, IntKind.wrap_u64]; omega
  have eD : (b : Int) / 2 ^ (64 - (64 - n)) = ((b / 2 ^ n : Nat) : Int) := by rw [hn64, Int.natCast_ediv, Int.natCast_pow]; rfl
  have eU : bits BinOp.or IntKind.u64 (IntKind.u64.wrap ((a : Int) * 2 ^ (64 - n))) ((b : Int) / 2 ^ (64 - (64 - n))) = ((a * 2 ^ (64 - n) + b / 2 ^ n : Nat) : Int) := by
    rw [eH, eD]; exact or_low a (b / 2 ^ n) (64 - n) c3 (by omega)
  have hdm : ∀ x : Int, x = x / 4294967296 * 4294967296 + x % 4294967296 := fun x => by omega
  generalize hYn : c * 2 ^ (64 - n) = Yn at *
  generalize hLn : b * 2 ^ (64 - n) % 18446744073709551616 = Ln at *
  generalize hUn : a * 2 ^ (64 - n) + b / 2 ^ n = Un at *
  have hLb : Ln < 18446744073709551616 := by rw [← hLn]; exact Nat.mod_lt _ (by decide)
  obtain ⟨Q1, R1, d1, d1a, d1b⟩ : ∃ Q R : Int, (Un : Int) * 4294967296 + (Ln : Int) / 4294967296 = Q * (Yn : Int) + R ∧ 0 ≤ R ∧ R < Yn :=
    ⟨_, _, by rw [Int.mul_comm _ (Yn : Int)]; exact (Int.mul_ediv_add_emod _ (Yn : Int)).symm, Int.emod_nonneg _ (by omega), Int.emod_lt_of_pos _ (by omega)⟩
  obtain ⟨Q2, R2, d2, d2a, d2b⟩ : ∃ Q R : Int, R1 * 4294967296 + (Ln : Int) % 4294967296 = Q * (Yn : Int) + R ∧ 0 ≤ R ∧ R < Yn :=
    ⟨_, _, by rw [Int.mul_comm _ (Yn : Int)]; exact (Int.mul_ediv_add_emod _ (Yn : Int)).symm, Int.emod_nonneg _ (by omega), Int.emod_lt_of_pos _ (by omega)⟩
  refine (div64_core a b c w (by omega) (by omega) (by omega) hy1 hy2 n (by show _ = _; simpa using hn) s2 s4 Yn ((Yn : Int) / 4294967296) ((Yn : Int) % 4294967296) Un Ln ((Ln : Int) / 4294967296) ((Ln : Int) % 4294967296) Q1 R1 Q2 R2
    eY rfl (and_mask _ (by omega) (by omega)) eU eL rfl (and_mask _ (by omega) (by omega)) (hdm _) (by omega) (by omega) (by omega) (by omega) (by omega) (by omega) (by omega) (by omega) (by omega) (by omega) (by omega) (by omega) (by omega) d1 d1a d1b d2 d2a d2b).mono ?_
  rintro e w' ⟨rfl, rfl⟩
  -- what they say of the quotient
  have key : ((a : Int) * 18446744073709551616 + b) * ((2 ^ (64 - n) : Nat) : Int) = (Q1 * 4294967296 + Q2) * Yn + R2 := by
    have h5 : ((a : Int) * 18446744073709551616 + b) * ((2 ^ (64 - n) : Nat) : Int) = (Un : Int) * 18446744073709551616 + Ln := cast5 a b _ Un Ln 18446744073709551616 c5
    have e6 : (Q1 * 4294967296 + Q2) * (Yn : Int) = Q1 * Yn * 4294967296 + Q2 * Yn := by rw [Int.add_mul, Int.mul_right_comm]
    rw [e6]
    refine h5.trans ?_
    generalize Q1 * (Yn : Int) = A1 at *
    generalize Q2 * (Yn : Int) = A2 at *
    clear h5 e6
    omega
  have hYc : (Yn : Int) = (c : Int) * ((2 ^ (64 - n) : Nat) : Int) := by rw [← hYn, Int.natCast_mul]
  have hpow : (2 : Int) ^ (64 - n) = ((2 ^ (64 - n) : Nat) : Int) := by rw [Int.natCast_pow]; rfl
  generalize 2 ^ (64 - n) = S at *
  have hSI : (0 : Int) < (S : Int) := by omega
  -- the rest is a multiple of S
  have hR : R2 = ((a : Int) * 18446744073709551616 + b - (Q1 * 4294967296 + Q2) * c) * S := by
    rw [Int.sub_mul, key, hYc, Int.mul_assoc]; omega
  obtain ⟨r, hr⟩ : ∃ r : Int, (a : Int) * 18446744073709551616 + b - (Q1 * 4294967296 + Q2) * c = r := ⟨_, rfl⟩
  rw [hr] at hR
  have r0 : 0 ≤ r := by
    rcases Int.lt_or_le r 0 with h | h
    · have := Int.mul_neg_of_neg_of_pos h hSI; omega
    · exact h
  have r1 : r < c := by
    have : r * S < c * S := by rw [← hR, ← hYc]; exact d2b
    exact Int.lt_of_mul_lt_mul_right this (by omega)
  obtain ⟨u1, u2⟩ := div_unique (x := (a : Int) * 18446744073709551616 + b) (y := c) (q := Q1 * 4294967296 + Q2) (r := r) (by omega) r0 r1
  refine ⟨?_, 0, rfl⟩
  rw [u1, u2, hpow, hR, Int.mul_ediv_cancel _ (by omega)]
end Go.Proofs.YtjbcjapgammbhacDoor

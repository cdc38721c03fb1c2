import Derived.Test.YtogdpgfccbohnaaDoorShelf
namespace Go.Proofs.YtogdpgfccbohnaaDoor
open Go.RowKit

set_option maxHeartbeats 400000 in
theorem lead64_any (x : Int) (w : World) (h0 : 0 ≤ x) (h1 : x < 18446744073709551616) (n : Nat) (hn : Lib.bitLen x.toNat = n) (hn2 : n ≤ 64) :
    Calls Tryd.prog 62 #[.int .u64 x] w fun e w' => e = .returned (.int .i64 (64 - (n : Int))) ∧ w = w' := by
  have HN : Hid (Lib.bitLen x.toNat = n) := hn
  clear hn
  go_enter Tryd.func62, Tryd.ntmps62
  go_wp2_with fail
  refine (len64_any x _ h0 h1).mono ?_
  rintro e w1 ⟨rfl, rfl⟩
  rw [HN.out]
  go_wp2
  go_ret
  exact ⟨rfl, rfl⟩

/-! ### the plain arithmetic of one digit: b = 2^32 -/
theorem dg_lt {U L Y Q R : Int} (hd : U * 4294967296 + L = Q * Y + R) (hL : L < 4294967296) (hR : 0 ≤ R) (hU : U < Y) (hY : 0 < Y) : Q < 4294967296 := by
  have h : Q * Y < 4294967296 * Y := by omega
  exact Int.lt_of_mul_lt_mul_right h (by omega)
theorem dg_nn {U L Y Q R : Int} (hd : U * 4294967296 + L = Q * Y + R) (hL : 0 ≤ L) (hU : 0 ≤ U) (hR : R < Y) (hY : 0 < Y) : 0 ≤ Q := by
  have h : (-1) * Y < Q * Y := by omega
  have := Int.lt_of_mul_lt_mul_right h (by omega)
  omega
theorem dg_split {q Y Y1 Y0 r U p : Int} (hY : Y = Y1 * 4294967296 + Y0) (hi : q * Y1 + r = U) (hp : q * Y0 = p) : q * Y = (U - r) * 4294967296 + p := by
  have h1 : q * Y1 = U - r := by omega
  rw [hY, Int.mul_add, ← Int.mul_assoc, h1, hp]
theorem dg_gt {q Y Y1 Y0 r U L Q R p : Int} (hY : Y = Y1 * 4294967296 + Y0) (hi : q * Y1 + r = U) (hp : q * Y0 = p) (hd : U * 4294967296 + L = Q * Y + R) (hR : 0 ≤ R) (hY' : 0 < Y) (h : 4294967296 * r + L < p) : Q < q := by
  have e := dg_split hY hi hp
  have h2 : Q * Y < q * Y := by omega
  exact Int.lt_of_mul_lt_mul_right h2 (by omega)
theorem dg_le {q Y Y1 Y0 r U L Q R p : Int} (hY : Y = Y1 * 4294967296 + Y0) (hi : q * Y1 + r = U) (hp : q * Y0 = p) (hd : U * 4294967296 + L = Q * Y + R) (hR : R < Y) (hY' : 0 < Y) (h : p ≤ 4294967296 * r + L) : q ≤ Q := by
  have e := dg_split hY hi hp
  have h2 : q * Y < (Q + 1) * Y := by rw [Int.add_mul]; omega
  have := Int.lt_of_mul_lt_mul_right h2 (by omega)
  omega
theorem dg_break {q Y Y1 Y0 r U L Q R : Int} (hY : Y = Y1 * 4294967296 + Y0) (hi : q * Y1 + r = U) (hd : U * 4294967296 + L = Q * Y + R) (hR : R < Y) (hY' : 0 < Y) (hU : U < Y) (hL : 0 ≤ L) (h1 : 0 ≤ Y1) (h0 : 0 ≤ Y0) (h0' : Y0 < 4294967296) (hr : 4294967296 ≤ r) : q ≤ Q := by
  have hqb : q ≤ 4294967295 := by
    rcases Int.lt_or_le 4294967295 q with h | h
    · have := Int.mul_le_mul_of_nonneg_right (a := 4294967296) (b := q) (c := Y1) (by omega) h1
      omega
    · exact h
  have hp := Int.mul_le_mul (a := q) (b := Y0) (c := 4294967295) (d := 4294967295) hqb (by omega) h0 (by omega)
  exact dg_le hY hi rfl hd hR hY' (by omega)

theorem dg_start {U L Y Y1 Y0 Q R : Int} (hY : Y = Y1 * 4294967296 + Y0) (y1a : 2147483648 ≤ Y1) (y1b : Y1 < 4294967296) (y0a : 0 ≤ Y0) (ua : 0 ≤ U) (ub : U < Y) (yb : Y < 18446744073709551616) (la : 0 ≤ L) (hd : U * 4294967296 + L = Q * Y + R) (hQ : 0 ≤ Q) (hR : 0 ≤ R) (hL : L < 4294967296) :
    ∃ Z V : Int, U / Y1 = Z ∧ Z * Y1 = U - V ∧ Z < 8589934592 ∧ Hid (Q ≤ Z) ∧ Hid (Z * Y1 + V = U) ∧ Hid (IntKind.u64.wrap (U - IntKind.u64.wrap (U - V)) = V) ∧ (0 ≤ V ∧ V < 4294967296) := by
  obtain ⟨Z, hZ⟩ : ∃ Z, U / Y1 = Z := ⟨_, rfl⟩
  obtain ⟨V, hV⟩ : ∃ V, U - V = Z * Y1 := ⟨U - Z * Y1, by omega⟩
  have hmod : 0 ≤ V ∧ V < Y1 := by
    have := Int.emod_add_mul_ediv U Y1
    have h3 := Int.emod_nonneg U (show Y1 ≠ 0 by omega)
    have h4 := Int.emod_lt_of_pos U (show 0 < Y1 by omega)
    rw [hZ, Int.mul_comm] at this
    omega
  have hZ0 : 0 ≤ Z := by rw [← hZ]; exact Int.ediv_nonneg ua (by omega)
  have hZ1 : Z < 8589934592 := by
    have : Z * 2147483648 ≤ Z * Y1 := Int.mul_le_mul_of_nonneg_left y1a hZ0
    omega
  refine ⟨Z, V, hZ, hV.symm, hZ1, ?_, ?_, ?_, hmod.1, by omega⟩
  · have e : Z * Y1 + V = U := by omega
    have e2 : Q * Y1 ≤ U := by
      have h5 : Q * Y = Q * Y1 * 4294967296 + Q * Y0 := by rw [hY, Int.mul_add, ← Int.mul_assoc]
      have h6 : 0 ≤ Q * Y0 := Int.mul_nonneg hQ y0a
      omega
    have h8 : Q * Y1 < (Z + 1) * Y1 := by rw [Int.add_mul]; omega
    have := Int.lt_of_mul_lt_mul_right h8 (by omega)
    show Q ≤ Z
    omega
  · show _ = _; omega
  · show _ = _; rw [IntKind.wrap_u64, IntKind.wrap_u64]; omega

set_option maxHeartbeats 1000000 in
theorem div64_core (hi lo y : Int) (w : World) (h0 : 0 < hi) (_hl0 : 0 ≤ lo) (_hl1 : lo < 18446744073709551616) (hy1 : hi < y) (hy2 : y < 18446744073709551616) (n : Nat) (HN : Hid (Lib.bitLen y.toNat = n)) (hn1 : 1 ≤ n) (hn2 : n ≤ 64)
    (Y Y1 Y0 U Lw L1 L0 Q1 R1 Q2 R2 : Int) (eY : IntKind.u64.wrap (y * 2 ^ (64 - n)) = Y) (eY1 : Y / 4294967296 = Y1) (eY0 : bits BinOp.and IntKind.u64 Y 4294967295 = Y0)
    (eU : bits BinOp.or IntKind.u64 (IntKind.u64.wrap (hi * 2 ^ (64 - n))) (lo / 2 ^ (64 - (64 - n))) = U) (eL : IntKind.u64.wrap (lo * 2 ^ (64 - n)) = Lw) (eL1 : Lw / 4294967296 = L1) (eL0 : bits BinOp.and IntKind.u64 Lw 4294967295 = L0)
    (HY : Hid (Y = Y1 * 4294967296 + Y0)) (y1a : 2147483648 ≤ Y1) (y1b : Y1 < 4294967296) (y0a : 0 ≤ Y0) (y0b : Y0 < 4294967296) (ua : 0 ≤ U) (ub : U < Y) (yb : Y < 18446744073709551616) (l1a : 0 ≤ L1) (l1b : L1 < 4294967296) (l0a : 0 ≤ L0) (l0b : L0 < 4294967296) (_lw0 : 0 ≤ Lw) (_lw1 : Lw < 18446744073709551616)
    (H1 : Hid (U * 4294967296 + L1 = Q1 * Y + R1)) (r1a : 0 ≤ R1) (r1b : R1 < Y) (H2 : Hid (R1 * 4294967296 + L0 = Q2 * Y + R2)) (r2a : 0 ≤ R2) (r2b : R2 < Y) :
    Calls Tryd.prog 61 #[.int .u64 hi, .int .u64 lo, .int .u64 y] w fun e w' => e = .returned (.tuple #[.int .u64 (Q1 * 4294967296 + Q2), .int .u64 (R2 / 2 ^ (64 - n))]) ∧ w = w' := by
  have t1 : (y == 0) = false := by simp; omega
  have t2 : (hi == 0) = false := by simp; omega
  have q1a : 0 ≤ Q1 := dg_nn H1.out l1a ua r1b (by omega)
  have q1b : Q1 < 4294967296 := dg_lt H1.out l1b r1a ub (by omega)
  have q2a : 0 ≤ Q2 := dg_nn H2.out l0a r1a r2b (by omega)
  have q2b : Q2 < 4294967296 := dg_lt H2.out l0b r2a r1b (by omega)
  obtain ⟨Z, V, hZ, eZV, hZ1, HQI, HVI, EV, hmod⟩ := dg_start HY.out y1a y1b y0a ua ub (by omega) l1a H1.out q1a r1a l1b
  obtain ⟨Z2, V2, hZ2, eZV2, hZ21, HQI2, HVI2, EV2, hmod2⟩ := dg_start HY.out y1a y1b y0a r1a r1b (by omega) l0a H2.out q2a r2a l0b
  have E21 : IntKind.u64.wrap (IntKind.u64.wrap (IntKind.u64.wrap (U * 4294967296) + L1) - IntKind.u64.wrap (Q1 * Y)) = R1 := by
    simp only [IntKind.wrap_u64]; have := H1.out; omega
  have E22 : IntKind.u64.wrap (IntKind.u64.wrap (IntKind.u64.wrap (R1 * 4294967296) + L0) - IntKind.u64.wrap (Q2 * Y)) = R2 := by
    simp only [IntKind.wrap_u64]; have := H2.out; omega
  go_enter Tryd.func61, Tryd.ntmps61
  go_wp2_with fail
  refine (lead64_any y _ (by omega) hy2 n HN.out hn2).mono ?_
  rintro e w1 ⟨rfl, rfl⟩
  go_wp2_with fail
  go_loop [15, 16] (fun a b => ∃ q r : Int, a = .int .u64 q ∧ b = .int .u64 r ∧ q * Y1 + r = U ∧ 0 ≤ r ∧ r < 4294967296 ∧ Q1 ≤ q ∧ q < 8589934592) (fun a _ => (intOf a).toNat)
  case atStart => exact ⟨Z, V, by first | rfl | rw [hZ], by first | rfl | rw [EV.out], HVI.out, hmod.1, hmod.2, HQI.out, hZ1⟩
  case round =>
    obtain ⟨q, r, rfl, rfl, hqr, ra, rb, hq, hq'⟩ := hrel
    have HQR : Hid (q * Y1 + r = U) := hqr
    clear hqr hZ HVI HQI EV hmod hZ1 eZV
    by_cases c1 : 4294967296 ≤ q
    · have hlt : Q1 < q := by omega
      by_cases c3 : 4294967296 ≤ r + Y1
      · have hqe : Q1 = q - 1 := Int.le_antisymm (by omega) (dg_break (r := r + Y1) HY.out (by have := HQR.out; rw [Int.sub_mul]; omega) H1.out r1b (by omega) ub l1a (by omega) y0a y0b c3)
        have c4 : Q1 + 1 = q := by omega
        clear hqe hlt
        obtain rfl := c4
        go_wp2_with fail
        go_loop [18, 16] (fun a b => ∃ q r : Int, a = .int .u64 q ∧ b = .int .u64 r ∧ q * Y1 + r = R1 ∧ 0 ≤ r ∧ r < 4294967296 ∧ Q2 ≤ q ∧ q < 8589934592) (fun a _ => (intOf a).toNat)
        case atStart => exact ⟨Z2, V2, by first | rfl | rw [hZ2], by first | rfl | rw [EV2.out], HVI2.out, hmod2.1, hmod2.2, HQI2.out, hZ21⟩
        case round =>
          obtain ⟨q, r, rfl, rfl, hqr, ra, rb, hq, hq'⟩ := hrel
          have HQR : Hid (q * Y1 + r = R1) := hqr
          clear hqr hZ2 HVI2 HQI2 EV2 hmod2 hZ21 eZV2
          by_cases c1 : 4294967296 ≤ q
          · have hlt : Q2 < q := by omega
            by_cases c3 : 4294967296 ≤ r + Y1
            · have hqe : Q2 = q - 1 := Int.le_antisymm (by omega) (dg_break (r := r + Y1) HY.out (by have := HQR.out; rw [Int.sub_mul]; omega) H2.out r2b (by omega) r1b l0a (by omega) y0a y0b c3)
              have c4 : Q2 + 1 = q := by omega
              clear hqe hlt
              obtain rfl := c4
              go_wp2_with fail
              go_wp2
              go_ret2
              exact ⟨rfl, rfl⟩
            · go_wp2
              go_round
              case rel => exact ⟨q - 1, r + Y1, rfl, rfl, by have := HQR.out; rw [Int.sub_mul]; omega, by omega, by omega, by omega, by omega⟩
              case measure => simp [intOf]; omega
          · obtain ⟨p, hp⟩ : ∃ p, q * Y0 = p := ⟨_, rfl⟩
            have HP : Hid (q * Y0 = p) := hp
            have pb : 0 ≤ p ∧ p < 18446744073709551616 := by
              have a1 := Int.mul_nonneg (show 0 ≤ q by omega) y0a
              have a2 := Int.mul_le_mul (a := q) (b := Y0) (c := 4294967295) (d := 4294967295) (by omega) (by omega) y0a (by omega)
              omega
            obtain ⟨pa, pb⟩ := pb
            by_cases c2 : 4294967296 * r + L0 < p
            · have hlt : Q2 < q := dg_gt HY.out HQR.out HP.out H2.out r2a (by omega) c2
              by_cases c3 : 4294967296 ≤ r + Y1
              · have hqe : Q2 = q - 1 := Int.le_antisymm (by omega) (dg_break (r := r + Y1) HY.out (by have := HQR.out; rw [Int.sub_mul]; omega) H2.out r2b (by omega) r1b l0a (by omega) y0a y0b c3)
                have c4 : Q2 + 1 = q := by omega
                clear hqe hlt
                obtain rfl := c4
                go_wp2_with fail
                go_wp2
                go_ret2
                exact ⟨rfl, rfl⟩
              · go_wp2
                go_round
                case rel => exact ⟨q - 1, r + Y1, rfl, rfl, by have := HQR.out; rw [Int.sub_mul]; omega, by omega, by omega, by omega, by omega⟩
                case measure => simp [intOf]; omega
            · obtain rfl : Q2 = q := Int.le_antisymm hq (dg_le HY.out HQR.out HP.out H2.out r2b (by omega) (by omega))
              clear HP
              go_wp2_with fail
              go_wp2
              go_ret2
              exact ⟨rfl, rfl⟩
      · go_wp2
        go_round
        case rel => exact ⟨q - 1, r + Y1, rfl, rfl, by have := HQR.out; rw [Int.sub_mul]; omega, by omega, by omega, by omega, by omega⟩
        case measure => simp [intOf]; omega
    · obtain ⟨p, hp⟩ : ∃ p, q * Y0 = p := ⟨_, rfl⟩
      have HP : Hid (q * Y0 = p) := hp
      have pb : 0 ≤ p ∧ p < 18446744073709551616 := by
        have a1 := Int.mul_nonneg (show 0 ≤ q by omega) y0a
        have a2 := Int.mul_le_mul (a := q) (b := Y0) (c := 4294967295) (d := 4294967295) (by omega) (by omega) y0a (by omega)
        omega
      obtain ⟨pa, pb⟩ := pb
      by_cases c2 : 4294967296 * r + L1 < p
      · have hlt : Q1 < q := dg_gt HY.out HQR.out HP.out H1.out r1a (by omega) c2
        by_cases c3 : 4294967296 ≤ r + Y1
        · have hqe : Q1 = q - 1 := Int.le_antisymm (by omega) (dg_break (r := r + Y1) HY.out (by have := HQR.out; rw [Int.sub_mul]; omega) H1.out r1b (by omega) ub l1a (by omega) y0a y0b c3)
          have c4 : Q1 + 1 = q := by omega
          clear hqe hlt
          obtain rfl := c4
          go_wp2_with fail
          go_loop [18, 16] (fun a b => ∃ q r : Int, a = .int .u64 q ∧ b = .int .u64 r ∧ q * Y1 + r = R1 ∧ 0 ≤ r ∧ r < 4294967296 ∧ Q2 ≤ q ∧ q < 8589934592) (fun a _ => (intOf a).toNat)
          case atStart => exact ⟨Z2, V2, by first | rfl | rw [hZ2], by first | rfl | rw [EV2.out], HVI2.out, hmod2.1, hmod2.2, HQI2.out, hZ21⟩
          case round =>
            obtain ⟨q, r, rfl, rfl, hqr, ra, rb, hq, hq'⟩ := hrel
            have HQR : Hid (q * Y1 + r = R1) := hqr
            clear hqr hZ2 HVI2 HQI2 EV2 hmod2 hZ21 eZV2
            by_cases c1 : 4294967296 ≤ q
            · have hlt : Q2 < q := by omega
              by_cases c3 : 4294967296 ≤ r + Y1
              · have hqe : Q2 = q - 1 := Int.le_antisymm (by omega) (dg_break (r := r + Y1) HY.out (by have := HQR.out; rw [Int.sub_mul]; omega) H2.out r2b (by omega) r1b l0a (by omega) y0a y0b c3)
                have c4 : Q2 + 1 = q := by omega
                clear hqe hlt
                obtain rfl := c4
                go_wp2_with fail
                go_wp2
                go_ret2
                exact ⟨rfl, rfl⟩
              · go_wp2
                go_round
                case rel => exact ⟨q - 1, r + Y1, rfl, rfl, by have := HQR.out; rw [Int.sub_mul]; omega, by omega, by omega, by omega, by omega⟩
                case measure => simp [intOf]; omega
            · obtain ⟨p, hp⟩ : ∃ p, q * Y0 = p := ⟨_, rfl⟩
              have HP : Hid (q * Y0 = p) := hp
              have pb : 0 ≤ p ∧ p < 18446744073709551616 := by
                have a1 := Int.mul_nonneg (show 0 ≤ q by omega) y0a
                have a2 := Int.mul_le_mul (a := q) (b := Y0) (c := 4294967295) (d := 4294967295) (by omega) (by omega) y0a (by omega)
                omega
              obtain ⟨pa, pb⟩ := pb
              by_cases c2 : 4294967296 * r + L0 < p
              · have hlt : Q2 < q := dg_gt HY.out HQR.out HP.out H2.out r2a (by omega) c2
                by_cases c3 : 4294967296 ≤ r + Y1
                · have hqe : Q2 = q - 1 := Int.le_antisymm (by omega) (dg_break (r := r + Y1) HY.out (by have := HQR.out; rw [Int.sub_mul]; omega) H2.out r2b (by omega) r1b l0a (by omega) y0a y0b c3)
                  have c4 : Q2 + 1 = q := by omega
                  clear hqe hlt
                  obtain rfl := c4
                  go_wp2_with fail
                  go_wp2
                  go_ret2
                  exact ⟨rfl, rfl⟩
                · go_wp2
                  go_round
                  case rel => exact ⟨q - 1, r + Y1, rfl, rfl, by have := HQR.out; rw [Int.sub_mul]; omega, by omega, by omega, by omega, by omega⟩
                  case measure => simp [intOf]; omega
              · obtain rfl : Q2 = q := Int.le_antisymm hq (dg_le HY.out HQR.out HP.out H2.out r2b (by omega) (by omega))
                clear HP
                go_wp2_with fail
                go_wp2
                go_ret2
                exact ⟨rfl, rfl⟩
        · go_wp2
          go_round
          case rel => exact ⟨q - 1, r + Y1, rfl, rfl, by have := HQR.out; rw [Int.sub_mul]; omega, by omega, by omega, by omega, by omega⟩
          case measure => simp [intOf]; omega
      · obtain rfl : Q1 = q := Int.le_antisymm hq (dg_le HY.out HQR.out HP.out H1.out r1b (by omega) (by omega))
        clear HP
        go_wp2_with fail
        go_loop [18, 16] (fun a b => ∃ q r : Int, a = .int .u64 q ∧ b = .int .u64 r ∧ q * Y1 + r = R1 ∧ 0 ≤ r ∧ r < 4294967296 ∧ Q2 ≤ q ∧ q < 8589934592) (fun a _ => (intOf a).toNat)
        case atStart => exact ⟨Z2, V2, by first | rfl | rw [hZ2], by first | rfl | rw [EV2.out], HVI2.out, hmod2.1, hmod2.2, HQI2.out, hZ21⟩
        case round =>
          obtain ⟨q, r, rfl, rfl, hqr, ra, rb, hq, hq'⟩ := hrel
          have HQR : Hid (q * Y1 + r = R1) := hqr
          clear hqr hZ2 HVI2 HQI2 EV2 hmod2 hZ21 eZV2
          by_cases c1 : 4294967296 ≤ q
          · have hlt : Q2 < q := by omega
            by_cases c3 : 4294967296 ≤ r + Y1
            · have hqe : Q2 = q - 1 := Int.le_antisymm (by omega) (dg_break (r := r + Y1) HY.out (by have := HQR.out; rw [Int.sub_mul]; omega) H2.out r2b (by omega) r1b l0a (by omega) y0a y0b c3)
              have c4 : Q2 + 1 = q := by omega
              clear hqe hlt
              obtain rfl := c4
              go_wp2_with fail
              go_wp2
              go_ret2
              exact ⟨rfl, rfl⟩
            · go_wp2
              go_round
              case rel => exact ⟨q - 1, r + Y1, rfl, rfl, by have := HQR.out; rw [Int.sub_mul]; omega, by omega, by omega, by omega, by omega⟩
              case measure => simp [intOf]; omega
          · obtain ⟨p, hp⟩ : ∃ p, q * Y0 = p := ⟨_, rfl⟩
            have HP : Hid (q * Y0 = p) := hp
            have pb : 0 ≤ p ∧ p < 18446744073709551616 := by
              have a1 := Int.mul_nonneg (show 0 ≤ q by omega) y0a
              have a2 := Int.mul_le_mul (a := q) (b := Y0) (c := 4294967295) (d := 4294967295) (by omega) (by omega) y0a (by omega)
              omega
            obtain ⟨pa, pb⟩ := pb
            by_cases c2 : 4294967296 * r + L0 < p
            · have hlt : Q2 < q := dg_gt HY.out HQR.out HP.out H2.out r2a (by omega) c2
              by_cases c3 : 4294967296 ≤ r + Y1
              · have hqe : Q2 = q - 1 := Int.le_antisymm (by omega) (dg_break (r := r + Y1) HY.out (by have := HQR.out; rw [Int.sub_mul]; omega) H2.out r2b (by omega) r1b l0a (by omega) y0a y0b c3)
                have c4 : Q2 + 1 = q := by omega
                clear hqe hlt
                obtain rfl := c4
                go_wp2_with fail
                go_wp2
                go_ret2
                exact ⟨rfl, rfl⟩
              · go_wp2
                go_round
                case rel => exact ⟨q - 1, r + Y1, rfl, rfl, by have := HQR.out; rw [Int.sub_mul]; omega, by omega, by omega, by omega, by omega⟩
                case measure => simp [intOf]; omega
            · obtain rfl : Q2 = q := Int.le_antisymm hq (dg_le HY.out HQR.out HP.out H2.out r2b (by omega) (by omega))
              clear HP
              go_wp2_with fail
              go_wp2
              go_ret2
              exact ⟨rfl, rfl⟩
end Go.Proofs.YtogdpgfccbohnaaDoor

import Derived.Test.YtbkkepbmaadomaaGreatDoorLkAll
import Derived.Test.YtbkkepbmaadomaaGreatDoorWhAll
import Derived.Test.YtbkkepbmaadomaaGreatDoorNumAll
import Derived.Test.YtbkkepbmaadomaaGreatDoorTwoAll
namespace Go.Proofs.YtbkkepbmaadomaaGreatDoor
open Go.RowKit

set_option maxHeartbeats 2000000 in
/-- A power, within the limit. -/
theorem powG (a : Option Addr) (na ca : Nat) (xs : List Int) (S n : Nat) (w : World) (hna : na = xs.length) (hla : na ≤ ca) (hmS : na ≤ S) (hS : S ≤ 100000000) (hr : Reads w a xs) (hx : AllW xs) (hn : n < 9223372036854775808) (hb : 0 < bitsL xs → (n : Int) ≤ 131072 / bitsL xs) :
    Calls Tryz.prog 117 #[.slice a na ca, .int .i64 n] w fun e w' => ∃ p m cap, e = .returned (.tuple #[.slice p m cap, .nilIface]) ∧ Got w' w.heap.size (.slice p m cap) (val xs ^ n) 2049 ∧ Below w.heap.size w w' := by
  obtain ⟨L, hL⟩ : ∃ L, Lib.bitLen ((n : Int)).toNat = L := ⟨_, rfl⟩
  have hL10 : L ≤ 63 := by rw [← hL]; exact Lib.bitLen_le _ 63 (by omega) (by rw [Int.toNat_natCast]; exact hn)
  have HLn : Hid (n / 2 ^ L = 0) := by
    show _ = _
    rcases Nat.eq_zero_or_pos n with h | h
    · subst h; simp
    · have := (bitLen_spec n (by omega) h).1
      rw [Int.toNat_natCast] at hL
      rw [hL] at this
      exact Nat.div_eq_of_lt this
  have hbn := bits_nn xs hx (by omega)
  obtain ⟨hb0, hb1⟩ := hbn
  have HSM : Hid (∀ m, m ≤ n → val xs ^ m < pw 2049) := fun m hm => pow_small hx hb hb0 hm (Nat.le_refl _)
  have HB : Hid (0 < bitsL xs → (n : Int) ≤ 131072 / bitsL xs) := hb
  have HA : Num w a na ca (val xs) S := ⟨xs, hna, hla, hr, hx, rfl, hmS⟩
  have Hna : Hid (na = xs.length) := hna
  have HLL : Hid (Lib.bitLen ((n : Int)).toNat = L) := hL
  have hm12 : na ≤ 1099511627776 := by omega
  clear hna hL hb
  go_enter Tryz.func117, Tryz.ntmps117
  go_wp2_with fail
  refine (bits_any a na ca xs _ Hna.out hla hm12 hr hx).mono ?_
  rintro e w1 ⟨rfl, rfl⟩
  generalize bitsL xs = bt at *
  by_cases hbt : 0 < bt
  · have hq := HB.out hbt
    go_wp2_with fail
    refine (ofG 1 _ (by omega) (by omega)).mono ?_
    rintro e w1 ⟨p0, n0, c0, rfl, HP, hbel⟩
    replace HA := HA.below hbel
    go_wp2_with fail
    refine (len_any (n : Int) _ (by omega) (by omega) L HLL.out).mono ?_
    rintro e w2 ⟨rfl, rfl⟩
    go_wp2
    go_loopw [7, 8] (fun v s wr => ∃ (t : Nat) (p : Option Addr) (m cap : Nat), t ≤ L ∧ s = .int .i64 ((t : Int) - 1) ∧ v = .slice p m cap ∧ Got wr w.heap.size (.slice p m cap) (val xs ^ (n / 2 ^ t)) 2049 ∧ Num wr a na ca (val xs) S ∧ Below w.heap.size w wr) (fun _ s _ => (intOf s + 1).toNat)
    case atStart => exact ⟨L, p0, n0, c0, Nat.le_refl _, rfl, rfl, by rw [HLn.out, Int.pow_zero]; exact HP.le (by omega), HA, hbel⟩
    case round =>
      clear HP HA hbel
      obtain ⟨t, p, m, cap, ht, rfl, rfl, HP, HA, hbel⟩ := hrel
      by_cases ht0 : t = 0
      · subst ht0
        have HP2 : Got wr w.heap.size (.slice p m cap) (val xs ^ n) 2049 := by
          rw [Nat.pow_zero, Nat.div_one] at HP
          exact HP
        clear HP
        go_wp2
        go_ret2
        exact ⟨p, m, cap, rfl, HP2, hbel⟩
      · obtain ⟨s, rfl⟩ : ∃ s, t = s + 1 := ⟨t - 1, by omega⟩
        have hnn : 0 ≤ (n : Int) / 2 ^ s := Int.ediv_nonneg (by omega) (Int.le_of_lt (Int.pow_pos (by decide)))
        have hns : (n : Int) / 2 ^ s = ((n / 2 ^ s : Nat) : Int) := by rw [Int.natCast_ediv, Int.natCast_pow]; rfl
        have hlt : n / 2 ^ s ≤ n := Nat.div_le_self _ _
        have EA := and_one_i64 ((n : Int) / 2 ^ s) hnn (by rw [hns]; omega)
        have hpar : n / 2 ^ s % 2 = 0 ∨ n / 2 ^ s % 2 = 1 := by omega
        have hhalf := half_pow n s
        have HS2 : Hid (val xs ^ (n / 2 ^ (s + 1)) * val xs ^ (n / 2 ^ (s + 1)) < pw 2049) := by
          show _ < _
          rw [← Int.pow_add]; exact HSM.out _ (by omega)
        have HS3 : Hid (val xs ^ (n / 2 ^ s) < pw 2049) := HSM.out _ hlt
        clear hhalf
        have hL63 : s < 63 := by omega
        go_wp2_with fail
        refine (mulG _ HP.num HP.num (by omega) (by omega)).mono ?_
        rintro e w3 ⟨p2, m2, cap2, rfl, HP2, hb2⟩
        replace HP2 := HP2.shrink HS2.out
        replace HP2 := HP2.mono (B' := w.heap.size) hbel.size
        replace HA := HA.below hb2
        replace hbel := bel_tr hbel hb2
        clear HP hb2
        rcases hpar with hp | hp
        · have EA2 : bits BinOp.and IntKind.i64 ((n : Int) / 2 ^ s) 1 = 0 := by rw [EA, hns]; omega
          rw [pow_even _ _ _ hp] at HP2
          clear EA hns hp
          go_wp2
          go_roundw
          case rel => exact ⟨s, p2, m2, cap2, by omega, by go_num, rfl, HP2, HA, hbel⟩
          case measure => simp [intOf]
        · have EA2 : bits BinOp.and IntKind.i64 ((n : Int) / 2 ^ s) 1 = 1 := by rw [EA, hns]; omega
          clear EA hns
          go_wp2_with fail
          refine (mulG _ HP2.num HA (by omega) (by omega)).mono ?_
          rintro e w4 ⟨p3, m3, cap3, rfl, HP3, hb3⟩
          rw [pow_odd _ _ _ hp] at HP3
          replace HP3 := HP3.shrink HS3.out
          replace HP3 := HP3.mono (B' := w.heap.size) hbel.size
          replace HA := HA.below hb3
          replace hbel := bel_tr hbel hb3
          clear HP2 hb3 hp
          go_wp2
          go_roundw
          case rel => exact ⟨s, p3, m3, cap3, by omega, by go_num, rfl, HP3, HA, hbel⟩
          case measure => simp [intOf]
  · have hd : decide (0 < bt) = false := by simpa using hbt
    go_wp2_with fail
    refine (ofG 1 _ (by omega) (by omega)).mono ?_
    rintro e w1 ⟨p0, n0, c0, rfl, HP, hbel⟩
    replace HA := HA.below hbel
    go_wp2_with fail
    refine (len_any (n : Int) _ (by omega) (by omega) L HLL.out).mono ?_
    rintro e w2 ⟨rfl, rfl⟩
    go_wp2
    go_loopw [7, 8] (fun v s wr => ∃ (t : Nat) (p : Option Addr) (m cap : Nat), t ≤ L ∧ s = .int .i64 ((t : Int) - 1) ∧ v = .slice p m cap ∧ Got wr w.heap.size (.slice p m cap) (val xs ^ (n / 2 ^ t)) 2049 ∧ Num wr a na ca (val xs) S ∧ Below w.heap.size w wr) (fun _ s _ => (intOf s + 1).toNat)
    case atStart => exact ⟨L, p0, n0, c0, Nat.le_refl _, rfl, rfl, by rw [HLn.out, Int.pow_zero]; exact HP.le (by omega), HA, hbel⟩
    case round =>
      clear HP HA hbel
      obtain ⟨t, p, m, cap, ht, rfl, rfl, HP, HA, hbel⟩ := hrel
      by_cases ht0 : t = 0
      · subst ht0
        have HP2 : Got wr w.heap.size (.slice p m cap) (val xs ^ n) 2049 := by
          rw [Nat.pow_zero, Nat.div_one] at HP
          exact HP
        clear HP
        go_wp2
        go_ret2
        exact ⟨p, m, cap, rfl, HP2, hbel⟩
      · obtain ⟨s, rfl⟩ : ∃ s, t = s + 1 := ⟨t - 1, by omega⟩
        have hnn : 0 ≤ (n : Int) / 2 ^ s := Int.ediv_nonneg (by omega) (Int.le_of_lt (Int.pow_pos (by decide)))
        have hns : (n : Int) / 2 ^ s = ((n / 2 ^ s : Nat) : Int) := by rw [Int.natCast_ediv, Int.natCast_pow]; rfl
        have hlt : n / 2 ^ s ≤ n := Nat.div_le_self _ _
        have EA := and_one_i64 ((n : Int) / 2 ^ s) hnn (by rw [hns]; omega)
        have hpar : n / 2 ^ s % 2 = 0 ∨ n / 2 ^ s % 2 = 1 := by omega
        have hhalf := half_pow n s
        have HS2 : Hid (val xs ^ (n / 2 ^ (s + 1)) * val xs ^ (n / 2 ^ (s + 1)) < pw 2049) := by
          show _ < _
          rw [← Int.pow_add]; exact HSM.out _ (by omega)
        have HS3 : Hid (val xs ^ (n / 2 ^ s) < pw 2049) := HSM.out _ hlt
        clear hhalf
        have hL63 : s < 63 := by omega
        go_wp2_with fail
        refine (mulG _ HP.num HP.num (by omega) (by omega)).mono ?_
        rintro e w3 ⟨p2, m2, cap2, rfl, HP2, hb2⟩
        replace HP2 := HP2.shrink HS2.out
        replace HP2 := HP2.mono (B' := w.heap.size) hbel.size
        replace HA := HA.below hb2
        replace hbel := bel_tr hbel hb2
        clear HP hb2
        rcases hpar with hp | hp
        · have EA2 : bits BinOp.and IntKind.i64 ((n : Int) / 2 ^ s) 1 = 0 := by rw [EA, hns]; omega
          rw [pow_even _ _ _ hp] at HP2
          clear EA hns hp
          go_wp2
          go_roundw
          case rel => exact ⟨s, p2, m2, cap2, by omega, by go_num, rfl, HP2, HA, hbel⟩
          case measure => simp [intOf]
        · have EA2 : bits BinOp.and IntKind.i64 ((n : Int) / 2 ^ s) 1 = 1 := by rw [EA, hns]; omega
          clear EA hns
          go_wp2_with fail
          refine (mulG _ HP2.num HA (by omega) (by omega)).mono ?_
          rintro e w4 ⟨p3, m3, cap3, rfl, HP3, hb3⟩
          rw [pow_odd _ _ _ hp] at HP3
          replace HP3 := HP3.shrink HS3.out
          replace HP3 := HP3.mono (B' := w.heap.size) hbel.size
          replace HA := HA.below hb3
          replace hbel := bel_tr hbel hb3
          clear HP2 hb3 hp
          go_wp2
          go_roundw
          case rel => exact ⟨s, p3, m3, cap3, by omega, by go_num, rfl, HP3, HA, hbel⟩
          case measure => simp [intOf]

set_option maxHeartbeats 400000 in
/-- Below nought: refused. -/
theorem powArg (a : Option Addr) (na ca : Nat) (n : Int) (ev : Value) (w : World) (hn : n < 0) (E : Errs w 3 ev) :
    Calls Tryz.prog 117 #[.slice a na ca, .int .i64 n] w fun e w' => e = .returned (.tuple #[.slice none 0 0, ev]) ∧ Below w.heap.size w w' := by
  obtain ⟨hE, _⟩ := E
  go_enter Tryz.func117, Tryz.ntmps117
  go_wp2
  go_quiet (fail)
  go_wp2
  go_ret2
  exact ⟨rfl, belN (Below.refl _ _) nq⟩
set_option maxHeartbeats 400000 in
/-- Beyond the limit: refused. -/
theorem powLong (a : Option Addr) (na ca : Nat) (xs : List Int) (n : Int) (ev : Value) (w : World) (hna : na = xs.length) (hla : na ≤ ca) (hm : na ≤ 100000000) (hr : Reads w a xs) (hx : AllW xs) (hn : 0 ≤ n) (hb : 0 < bitsL xs) (hb2 : 131072 / bitsL xs < n) (E : Errs w 4 ev) :
    Calls Tryz.prog 117 #[.slice a na ca, .int .i64 n] w fun e w' => e = .returned (.tuple #[.slice none 0 0, ev]) ∧ Below w.heap.size w w' := by
  obtain ⟨hE, _⟩ := E
  have hbn := bits_nn xs hx (by omega)
  obtain ⟨hb0, hb1⟩ := hbn
  have Hna : Hid (na = xs.length) := hna
  clear hna
  go_enter Tryz.func117, Tryz.ntmps117
  go_wp2_with fail
  refine (bits_any a na ca xs _ Hna.out hla (by omega) hr hx).mono ?_
  rintro e w1 ⟨rfl, rfl⟩
  generalize bitsL xs = bt at *
  have ht : decide (131072 / bt < n) = true := by simpa using hb2
  go_wp2
  go_quiet (fail)
  go_wp2
  go_ret2
  exact ⟨rfl, belN (Below.refl _ _) nq⟩
end Go.Proofs.YtbkkepbmaadomaaGreatDoor

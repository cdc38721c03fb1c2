import Derived.Test.YtogdpgfccbohnacDoorNum
import Derived.Laws.Bits64b
namespace Go.Proofs.YtogdpgfccbohnacDoor
open Go.RowKit

set_option maxHeartbeats 400000 in
theorem len_any (x : Int) (w : World) (h0 : 0 ≤ x) (h1 : x < 18446744073709551616) (n : Nat) (hn : Lib.bitLen x.toNat = n) :
    Calls Tryd.prog 37 #[.int .u64 x] w fun e w' => e = .returned (.int .i64 n) ∧ w = w' := by
  have HN : Hid (Lib.bitLen x.toNat = n) := hn
  clear hn
  go_enter Tryd.func37, Tryd.ntmps37
  go_wp2_with fail
  refine (len64_any x _ h0 h1).mono ?_
  rintro e w1 ⟨rfl, rfl⟩
  rw [HN.out]
  go_wp2
  go_ret
  exact ⟨rfl, rfl⟩

theorem and_one_i64 (a : Int) (h0 : 0 ≤ a) (h1 : a < 9223372036854775808) : bits BinOp.and IntKind.i64 a 1 = a % 2 := by
  obtain ⟨a, rfl⟩ := Int.eq_ofNat_of_zero_le h0
  have e1 : (BitVec.ofInt 64 (a : Int)).toNat = a := by
    rw [BitVec.ofInt_natCast, BitVec.toNat_ofNat]; exact Nat.mod_eq_of_lt (by omega)
  have e2 : (BitVec.ofInt 64 ((1 : Nat) : Int)).toNat = 1 := by decide
  have e3 : a &&& 1 = a % 2 := Nat.and_one_is_mod a
  show IntKind.i64.wrap ((BitVec.ofInt 64 (a : Int) &&& BitVec.ofInt 64 ((1 : Nat) : Int)).toNat : Int) = _
  rw [BitVec.toNat_and, e1, e2, e3]
  simp [IntKind.wrap, IntKind.signed, IntKind.bits]
  omega

/-- How long a power may be, so many rounds on. -/
def bd (S : Nat) : Nat → Nat
  | 0 => 1
  | j + 1 => 2 * bd S j + S
theorem bd_le (S j : Nat) : bd S j + S ≤ 2 ^ j * (S + 1) := by
  induction j with
  | zero => simp [bd]; omega
  | succ j ih => simp only [bd]; rw [Nat.pow_succ, Nat.mul_right_comm]; omega
theorem bd_10 {S j : Nat} (h : j ≤ 10) : bd S j ≤ 1024 * (S + 1) := by
  have h1 := bd_le S j
  have h2 : 2 ^ j ≤ 2 ^ 10 := Nat.pow_le_pow_right (by decide) h
  have h3 := Nat.mul_le_mul_right (S + 1) h2
  have h4 : 2 ^ 10 = 1024 := rfl
  rw [h4] at h3
  omega
theorem Num.le {w : World} {a : Option Addr} {n cap : Nat} {x : Int} {S R : Nat} (h : Num w a n cap x S) (hS : S ≤ R) : Num w a n cap x R := by
  obtain ⟨xs, h1, h2, h3, h4, h5, h6⟩ := h
  exact ⟨xs, h1, h2, h3, h4, h5, by omega⟩
theorem half_pow (n s : Nat) : n / 2 ^ s = 2 * (n / 2 ^ (s + 1)) + n / 2 ^ s % 2 := by
  rw [Nat.pow_succ, ← Nat.div_div_eq_div_mul]; omega
theorem pow_even (x : Int) (n s : Nat) (h : n / 2 ^ s % 2 = 0) : x ^ (n / 2 ^ (s + 1)) * x ^ (n / 2 ^ (s + 1)) = x ^ (n / 2 ^ s) := by
  rw [← Int.pow_add]; congr 1; have := half_pow n s; omega
theorem pow_odd (x : Int) (n s : Nat) (h : n / 2 ^ s % 2 = 1) : x ^ (n / 2 ^ (s + 1)) * x ^ (n / 2 ^ (s + 1)) * x = x ^ (n / 2 ^ s) := by
  rw [← Int.pow_add, ← Int.pow_succ]; congr 1; have := half_pow n s; omega
theorem bits_nn (xs : List Int) (hx : AllW xs) (hl : xs.length ≤ 1000000000) : 0 ≤ bitsL xs ∧ bitsL xs ≤ 64000000000 := by
  have ht : tlen xs ≤ xs.length := tl_le _ _
  unfold bitsL
  split
  · omega
  · have := bitLen_le64 (hx.at (tlen xs - 1)).2
    omega

set_option maxHeartbeats 2000000 in
theorem powV (a : Option Addr) (na ca : Nat) (xs : List Int) (S n : Nat) (w : World) (hna : na = xs.length) (hla : na ≤ ca) (hmS : na ≤ S) (hS : S ≤ 100000000) (hr : Reads w a xs) (hx : AllW xs) (hn : n ≤ 1000) (hb : (n : Int) * bitsL xs ≤ 131072) :
    Calls Tryd.prog 20 #[.slice a na ca, .int .i64 n] w fun e w' => ∃ p m cap, e = .returned (.tuple #[.slice p m cap, .nilIface]) ∧ Num w' p m cap (val xs ^ n) (1024 * (S + 1)) ∧ Below w.heap.size w w' := by
  obtain ⟨L, hL⟩ : ∃ L, Lib.bitLen ((n : Int)).toNat = L := ⟨_, rfl⟩
  have hL10 : L ≤ 10 := by rw [← hL]; exact Lib.bitLen_le _ 10 (by omega) (by omega)
  have HLn : Hid (n / 2 ^ L = 0) := by
    show _ = _
    rcases Nat.eq_zero_or_pos n with h | h
    · subst h; simp
    · have := (bitLen_spec n (by omega) h).1
      rw [Int.toNat_natCast] at hL
      rw [hL] at this
      exact Nat.div_eq_of_lt this
  have hbn := bits_nn xs hx (by omega)
  obtain ⟨hb0, hb1⟩ := hbn
  have HB : Hid (0 < bitsL xs → (n : Int) ≤ 131072 / bitsL xs) := fun h => (Int.le_ediv_iff_mul_le h).2 hb
  have HA : Num w a na ca (val xs) S := ⟨xs, hna, hla, hr, hx, rfl, hmS⟩
  have Hna : Hid (na = xs.length) := hna
  have HLL : Hid (Lib.bitLen ((n : Int)).toNat = L) := hL
  have hm12 : na ≤ 1099511627776 := by omega
  clear hna hL hb
  go_enter Tryd.func20, Tryd.ntmps20
  go_wp2_with fail
  refine (bits_any a na ca xs _ Hna.out hla hm12 hr hx).mono ?_
  rintro e w1 ⟨rfl, rfl⟩
  generalize bitsL xs = bt at *
  by_cases hbt : 0 < bt
  · have hq := HB.out hbt
    go_wp2_with fail
    refine (ofV 1 _ (by omega) (by omega)).mono ?_
    rintro e w1 ⟨p0, n0, c0, rfl, HP, hbel⟩
    replace HA := HA.below hbel
    go_wp2_with fail
    refine (len_any (n : Int) _ (by omega) (by omega) L HLL.out).mono ?_
    rintro e w2 ⟨rfl, rfl⟩
    go_wp2
    go_loopw [7, 8] (fun v s wr => ∃ (t : Nat) (p : Option Addr) (m cap : Nat), t ≤ L ∧ s = .int .i64 ((t : Int) - 1) ∧ v = .slice p m cap ∧ Num wr p m cap (val xs ^ (n / 2 ^ t)) (bd S (L - t)) ∧ Num wr a na ca (val xs) S ∧ Below w.heap.size w wr) (fun _ s _ => (intOf s + 1).toNat)
    case atStart => exact ⟨L, p0, n0, c0, Nat.le_refl _, rfl, rfl, by rw [HLn.out, Int.pow_zero, Nat.sub_self]; exact HP, HA, hbel⟩
    case round =>
      clear HP HA hbel
      obtain ⟨t, p, m, cap, ht, rfl, rfl, HP, HA, hbel⟩ := hrel
      by_cases ht0 : t = 0
      · subst ht0
        have HP2 : Num wr p m cap (val xs ^ n) (1024 * (S + 1)) := by
          rw [Nat.pow_zero, Nat.div_one] at HP
          exact HP.le (bd_10 (by omega))
        clear HP
        go_wp2
        go_ret2
        exact ⟨p, m, cap, rfl, HP2, hbel⟩
      · obtain ⟨s, rfl⟩ : ∃ s, t = s + 1 := ⟨t - 1, by omega⟩
        have hbd := bd_10 (S := S) (j := L - (s + 1)) (by omega)
        have HBD : Hid (bd S (L - s) = 2 * bd S (L - (s + 1)) + S) := by show _ = _; rw [show L - s = (L - (s + 1)) + 1 by omega]; rfl
        have hnn : 0 ≤ (n : Int) / 2 ^ s := Int.ediv_nonneg (by omega) (Int.le_of_lt (Int.pow_pos (by decide)))
        have hns : (n : Int) / 2 ^ s = ((n / 2 ^ s : Nat) : Int) := by rw [Int.natCast_ediv, Int.natCast_pow]; rfl
        have hlt : n / 2 ^ s ≤ n := Nat.div_le_self _ _
        have EA := and_one_i64 ((n : Int) / 2 ^ s) hnn (by rw [hns]; omega)
        have hpar : n / 2 ^ s % 2 = 0 ∨ n / 2 ^ s % 2 = 1 := by omega
        go_wp2_with fail
        refine (mulV _ HP HP (by omega) (by omega)).mono ?_
        rintro e w3 ⟨p2, m2, cap2, rfl, HP2, hb2⟩
        replace HA := HA.below hb2
        replace hbel := bel_tr hbel hb2
        clear HP hb2
        rcases hpar with hp | hp
        · have EA2 : bits BinOp.and IntKind.i64 ((n : Int) / 2 ^ s) 1 = 0 := by rw [EA, hns]; omega
          rw [pow_even _ _ _ hp] at HP2
          have HP3 := HP2.le (R := bd S (L - s)) (by rw [HBD.out]; omega)
          clear EA HP2 hns hp
          go_wp2
          go_roundw
          case rel => exact ⟨s, p2, m2, cap2, by omega, by go_num, rfl, HP3, HA, hbel⟩
          case measure => simp [intOf]
        · have EA2 : bits BinOp.and IntKind.i64 ((n : Int) / 2 ^ s) 1 = 1 := by rw [EA, hns]; omega
          clear EA hns
          go_wp2_with fail
          refine (mulV _ HP2 HA (by omega) (by omega)).mono ?_
          rintro e w4 ⟨p3, m3, cap3, rfl, HP3, hb3⟩
          rw [pow_odd _ _ _ hp] at HP3
          have HP4 := HP3.le (R := bd S (L - s)) (by rw [HBD.out]; omega)
          replace HA := HA.below hb3
          replace hbel := bel_tr hbel hb3
          clear HP2 HP3 hb3 hp
          go_wp2
          go_roundw
          case rel => exact ⟨s, p3, m3, cap3, by omega, by go_num, rfl, HP4, HA, hbel⟩
          case measure => simp [intOf]
  · have hd : decide (0 < bt) = false := by simpa using hbt
    go_wp2_with fail
    refine (ofV 1 _ (by omega) (by omega)).mono ?_
    rintro e w1 ⟨p0, n0, c0, rfl, HP, hbel⟩
    replace HA := HA.below hbel
    go_wp2_with fail
    refine (len_any (n : Int) _ (by omega) (by omega) L HLL.out).mono ?_
    rintro e w2 ⟨rfl, rfl⟩
    go_wp2
    go_loopw [7, 8] (fun v s wr => ∃ (t : Nat) (p : Option Addr) (m cap : Nat), t ≤ L ∧ s = .int .i64 ((t : Int) - 1) ∧ v = .slice p m cap ∧ Num wr p m cap (val xs ^ (n / 2 ^ t)) (bd S (L - t)) ∧ Num wr a na ca (val xs) S ∧ Below w.heap.size w wr) (fun _ s _ => (intOf s + 1).toNat)
    case atStart => exact ⟨L, p0, n0, c0, Nat.le_refl _, rfl, rfl, by rw [HLn.out, Int.pow_zero, Nat.sub_self]; exact HP, HA, hbel⟩
    case round =>
      clear HP HA hbel
      obtain ⟨t, p, m, cap, ht, rfl, rfl, HP, HA, hbel⟩ := hrel
      by_cases ht0 : t = 0
      · subst ht0
        have HP2 : Num wr p m cap (val xs ^ n) (1024 * (S + 1)) := by
          rw [Nat.pow_zero, Nat.div_one] at HP
          exact HP.le (bd_10 (by omega))
        clear HP
        go_wp2
        go_ret2
        exact ⟨p, m, cap, rfl, HP2, hbel⟩
      · obtain ⟨s, rfl⟩ : ∃ s, t = s + 1 := ⟨t - 1, by omega⟩
        have hbd := bd_10 (S := S) (j := L - (s + 1)) (by omega)
        have HBD : Hid (bd S (L - s) = 2 * bd S (L - (s + 1)) + S) := by show _ = _; rw [show L - s = (L - (s + 1)) + 1 by omega]; rfl
        have hnn : 0 ≤ (n : Int) / 2 ^ s := Int.ediv_nonneg (by omega) (Int.le_of_lt (Int.pow_pos (by decide)))
        have hns : (n : Int) / 2 ^ s = ((n / 2 ^ s : Nat) : Int) := by rw [Int.natCast_ediv, Int.natCast_pow]; rfl
        have hlt : n / 2 ^ s ≤ n := Nat.div_le_self _ _
        have EA := and_one_i64 ((n : Int) / 2 ^ s) hnn (by rw [hns]; omega)
        have hpar : n / 2 ^ s % 2 = 0 ∨ n / 2 ^ s % 2 = 1 := by omega
        go_wp2_with fail
        refine (mulV _ HP HP (by omega) (by omega)).mono ?_
        rintro e w3 ⟨p2, m2, cap2, rfl, HP2, hb2⟩
        replace HA := HA.below hb2
        replace hbel := bel_tr hbel hb2
        clear HP hb2
        rcases hpar with hp | hp
        · have EA2 : bits BinOp.and IntKind.i64 ((n : Int) / 2 ^ s) 1 = 0 := by rw [EA, hns]; omega
          rw [pow_even _ _ _ hp] at HP2
          have HP3 := HP2.le (R := bd S (L - s)) (by rw [HBD.out]; omega)
          clear EA HP2 hns hp
          go_wp2
          go_roundw
          case rel => exact ⟨s, p2, m2, cap2, by omega, by go_num, rfl, HP3, HA, hbel⟩
          case measure => simp [intOf]
        · have EA2 : bits BinOp.and IntKind.i64 ((n : Int) / 2 ^ s) 1 = 1 := by rw [EA, hns]; omega
          clear EA hns
          go_wp2_with fail
          refine (mulV _ HP2 HA (by omega) (by omega)).mono ?_
          rintro e w4 ⟨p3, m3, cap3, rfl, HP3, hb3⟩
          rw [pow_odd _ _ _ hp] at HP3
          have HP4 := HP3.le (R := bd S (L - s)) (by rw [HBD.out]; omega)
          replace HA := HA.below hb3
          replace hbel := bel_tr hbel hb3
          clear HP2 HP3 hb3 hp
          go_wp2
          go_roundw
          case rel => exact ⟨s, p3, m3, cap3, by omega, by go_num, rfl, HP4, HA, hbel⟩
          case measure => simp [intOf]
end Go.Proofs.YtogdpgfccbohnacDoor

import Derived.Test.YtbkkepbmaadomaaGreatDoorNumAll
import Derived.Laws.Bits64b
import Derived.Test.YtbkkepbmaadomaaGreatDoorGcdAll
import Derived.Test.YtbkkepbmaadomaaGreatDoorWhAll
namespace Go.Proofs.YtbkkepbmaadomaaGreatDoor
open Go.RowKit

theorem aw1 : tlen (addL [18446744073709551615] [1, 0]) = 2 ∧ (addL [18446744073709551615] [1, 0]).length = 2 ∧ lm (addL [18446744073709551615] [1, 0]) 0 = 0 ∧ lm (addL [18446744073709551615] [1, 0]) 1 = 1 := by decide +kernel
theorem aw2 : tlen (quoW [0, 0, 1] 18446744073709551615) = 2 ∧ tlen [(0 : Int), 0, 1] = 3 ∧ (quoW [0, 0, 1] 18446744073709551615).length = 3 ∧ lm (quoW [0, 0, 1] 18446744073709551615) 0 = 1 ∧ lm (quoW [0, 0, 1] 18446744073709551615) 1 = 1 ∧ remW [0, 0, 1] 18446744073709551615 = 1 := by decide +kernel
theorem aw3 : tlen [(1 : Int)] = 1 ∧ trimL [(1 : Int)] = [1] := by decide +kernel
theorem aw4 : tlen [(18446744073709551615 : Int)] = 1 := by decide +kernel
theorem allW1 : AllW [18446744073709551615] := by intro x hx; simp at hx; subst hx; unfold Word; omega
theorem allW2 : AllW [1, 0] := by intro x hx; simp at hx; unfold Word; omega
theorem allW3 : AllW [0, 0, 1] := by intro x hx; simp at hx; unfold Word; omega


end Go.Proofs.YtbkkepbmaadomaaGreatDoor

namespace Go.Proofs.YtbkkepbmaadomaaGreatDoor
open Go.RowKit
end Go.Proofs.YtbkkepbmaadomaaGreatDoor

namespace Go.Proofs.YtbkkepbmaadomaaGreatDoor
open Go.RowKit

set_option maxHeartbeats 400000 in
theorem len_any (x : Int) (w : World) (h0 : 0 ≤ x) (h1 : x < 18446744073709551616) (n : Nat) (hn : Lib.bitLen x.toNat = n) :
    Calls Tryz.prog 137 #[.int .u64 x] w fun e w' => e = .returned (.int .i64 n) ∧ w = w' := by
  have HN : Hid (Lib.bitLen x.toNat = n) := hn
  clear hn
  go_enter Tryz.func137, Tryz.ntmps137
  go_wp2_with fail
  refine (len64_any x _ h0 h1).mono ?_
  rintro e w1 ⟨rfl, rfl⟩
  rw [HN.out]
  go_wp2
  go_ret
  exact ⟨rfl, rfl⟩

theorem and_one_i64 (a : Int) (h0 : 0 ≤ a) (h1 : a < 9223372036854775808) : bits BinOp.and IntKind.i64 a 1 = a % 2 := by
  obtain ⟨a, rfl⟩ := Int.eq_ofNat_of_zero_le h0
  have e1 : (BitVec.ofInt 64 (a : Int)).toNat = a := by
    rw [BitVec.ofInt_natCast, BitVec.toNat_ofNat]; exact Nat.mod_eq_of_lt (by omega)
  have e2 : (BitVec.ofInt 64 ((1 : Nat) : Int)).toNat = 1 := by decide
  have e3 : a &&& 1 = a % 2 := Nat.and_one_is_mod a
  show IntKind.i64.wrap ((BitVec.ofInt 64 (a : Int) &&& BitVec.ofInt 64 ((1 : Nat) : Int)).toNat : Int) = _
  rw [BitVec.toNat_and, e1, e2, e3]
  simp [IntKind.wrap, IntKind.signed, IntKind.bits]
  omega

/-- How long a power may be, so many rounds on. -/
def bd (S : Nat) : Nat → Nat
  | 0 => 1
  | j + 1 => 2 * bd S j + S
theorem bd_le (S j : Nat) : bd S j + S ≤ 2 ^ j * (S + 1) := by
  induction j with
  | zero => simp [bd]; omega
  | succ j ih => simp only [bd]; rw [Nat.pow_succ, Nat.mul_right_comm]; omega
theorem bd_10 {S j : Nat} (h : j ≤ 10) : bd S j ≤ 1024 * (S + 1) := by
  have h1 := bd_le S j
  have h2 : 2 ^ j ≤ 2 ^ 10 := Nat.pow_le_pow_right (by decide) h
  have h3 := Nat.mul_le_mul_right (S + 1) h2
  have h4 : 2 ^ 10 = 1024 := rfl
  rw [h4] at h3
  omega
theorem Num.le {w : World} {a : Option Addr} {n cap : Nat} {x : Int} {S R : Nat} (h : Num w a n cap x S) (hS : S ≤ R) : Num w a n cap x R := by
  obtain ⟨xs, h1, h2, h3, h4, h5, h6⟩ := h
  exact ⟨xs, h1, h2, h3, h4, h5, by omega⟩
theorem half_pow (n s : Nat) : n / 2 ^ s = 2 * (n / 2 ^ (s + 1)) + n / 2 ^ s % 2 := by
  rw [Nat.pow_succ, ← Nat.div_div_eq_div_mul]; omega
theorem pow_even (x : Int) (n s : Nat) (h : n / 2 ^ s % 2 = 0) : x ^ (n / 2 ^ (s + 1)) * x ^ (n / 2 ^ (s + 1)) = x ^ (n / 2 ^ s) := by
  rw [← Int.pow_add]; congr 1; have := half_pow n s; omega
theorem pow_odd (x : Int) (n s : Nat) (h : n / 2 ^ s % 2 = 1) : x ^ (n / 2 ^ (s + 1)) * x ^ (n / 2 ^ (s + 1)) * x = x ^ (n / 2 ^ s) := by
  rw [← Int.pow_add, ← Int.pow_succ]; congr 1; have := half_pow n s; omega
theorem bits_nn (xs : List Int) (hx : AllW xs) (hl : xs.length ≤ 1000000000) : 0 ≤ bitsL xs ∧ bitsL xs ≤ 64000000000 := by
  have ht : tlen xs ≤ xs.length := tl_le _ _
  unfold bitsL
  split
  · omega
  · have := bitLen_le64 (hx.at (tlen xs - 1)).2
    omega

set_option maxHeartbeats 2000000 in
theorem powV (a : Option Addr) (na ca : Nat) (xs : List Int) (S n : Nat) (w : World) (hna : na = xs.length) (hla : na ≤ ca) (hmS : na ≤ S) (hS : S ≤ 100000000) (hr : Reads w a xs) (hx : AllW xs) (hn : n ≤ 1000) (hb : (n : Int) * bitsL xs ≤ 131072) :
    Calls Tryz.prog 117 #[.slice a na ca, .int .i64 n] w fun e w' => ∃ p m cap, e = .returned (.tuple #[.slice p m cap, .nilIface]) ∧ Num w' p m cap (val xs ^ n) (1024 * (S + 1)) ∧ Below w.heap.size w w' := by
  obtain ⟨L, hL⟩ : ∃ L, Lib.bitLen ((n : Int)).toNat = L := ⟨_, rfl⟩
  have hL10 : L ≤ 10 := by rw [← hL]; exact Lib.bitLen_le _ 10 (by omega) (by omega)
  have HLn : Hid (n / 2 ^ L = 0) := by
    show _ = _
    rcases Nat.eq_zero_or_pos n with h | h
    · subst h; simp
    · have := (bitLen_spec n (by omega) h).1
      rw [Int.toNat_natCast] at hL
      rw [hL] at this
      exact Nat.div_eq_of_lt this
  have hbn := bits_nn xs hx (by omega)
  obtain ⟨hb0, hb1⟩ := hbn
  have HB : Hid (0 < bitsL xs → (n : Int) ≤ 131072 / bitsL xs) := fun h => (Int.le_ediv_iff_mul_le h).2 hb
  have HA : Num w a na ca (val xs) S := ⟨xs, hna, hla, hr, hx, rfl, hmS⟩
  have Hna : Hid (na = xs.length) := hna
  have HLL : Hid (Lib.bitLen ((n : Int)).toNat = L) := hL
  have hm12 : na ≤ 1099511627776 := by omega
  clear hna hL hb
  go_enter Tryz.func117, Tryz.ntmps117
  go_wp2_with fail
  refine (bits_any a na ca xs _ Hna.out hla hm12 hr hx).mono ?_
  rintro e w1 ⟨rfl, rfl⟩
  generalize bitsL xs = bt at *
  by_cases hbt : 0 < bt
  · have hq := HB.out hbt
    go_wp2_with fail
    refine (ofV 1 _ (by omega) (by omega)).mono ?_
    rintro e w1 ⟨p0, n0, c0, rfl, HP, hbel⟩
    replace HA := HA.below hbel
    go_wp2_with fail
    refine (len_any (n : Int) _ (by omega) (by omega) L HLL.out).mono ?_
    rintro e w2 ⟨rfl, rfl⟩
    go_wp2
    go_loopw [7, 8] (fun v s wr => ∃ (t : Nat) (p : Option Addr) (m cap : Nat), t ≤ L ∧ s = .int .i64 ((t : Int) - 1) ∧ v = .slice p m cap ∧ Num wr p m cap (val xs ^ (n / 2 ^ t)) (bd S (L - t)) ∧ Num wr a na ca (val xs) S ∧ Below w.heap.size w wr) (fun _ s _ => (intOf s + 1).toNat)
    case atStart => exact ⟨L, p0, n0, c0, Nat.le_refl _, rfl, rfl, by rw [HLn.out, Int.pow_zero, Nat.sub_self]; exact HP, HA, hbel⟩
    case round =>
      clear HP HA hbel
      obtain ⟨t, p, m, cap, ht, rfl, rfl, HP, HA, hbel⟩ := hrel
      by_cases ht0 : t = 0
      · subst ht0
        have HP2 : Num wr p m cap (val xs ^ n) (1024 * (S + 1)) := by
          rw [Nat.pow_zero, Nat.div_one] at HP
          exact HP.le (bd_10 (by omega))
        clear HP
        go_wp2
        go_ret2
        exact ⟨p, m, cap, rfl, HP2, hbel⟩
      · obtain ⟨s, rfl⟩ : ∃ s, t = s + 1 := ⟨t - 1, by omega⟩
        have hbd := bd_10 (S := S) (j := L - (s + 1)) (by omega)
        have HBD : Hid (bd S (L - s) = 2 * bd S (L - (s + 1)) + S) := by show _ = _; rw [show L - s = (L - (s + 1)) + 1 by omega]; rfl
        have hnn : 0 ≤ (n : Int) / 2 ^ s := Int.ediv_nonneg (by omega) (Int.le_of_lt (Int.pow_pos (by decide)))
        have hns : (n : Int) / 2 ^ s = ((n / 2 ^ s : Nat) : Int) := by rw [Int.natCast_ediv, Int.natCast_pow]; rfl
        have hlt : n / 2 ^ s ≤ n := Nat.div_le_self _ _
        have EA := and_one_i64 ((n : Int) / 2 ^ s) hnn (by rw [hns]; omega)
        have hpar : n / 2 ^ s % 2 = 0 ∨ n / 2 ^ s % 2 = 1 := by omega
        go_wp2_with fail
        refine (mulV _ HP HP (by omega) (by omega)).mono ?_
        rintro e w3 ⟨p2, m2, cap2, rfl, HP2, hb2⟩
        replace HA := HA.below hb2
        replace hbel := bel_tr hbel hb2
        clear HP hb2
        rcases hpar with hp | hp
        · have EA2 : bits BinOp.and IntKind.i64 ((n : Int) / 2 ^ s) 1 = 0 := by rw [EA, hns]; omega
          rw [pow_even _ _ _ hp] at HP2
          have HP3 := HP2.le (R := bd S (L - s)) (by rw [HBD.out]; omega)
          clear EA HP2 hns hp
          go_wp2
          go_roundw
          case rel => exact ⟨s, p2, m2, cap2, by omega, by go_num, rfl, HP3, HA, hbel⟩
          case measure => simp [intOf]
        · have EA2 : bits BinOp.and IntKind.i64 ((n : Int) / 2 ^ s) 1 = 1 := by rw [EA, hns]; omega
          clear EA hns
          go_wp2_with fail
          refine (mulV _ HP2 HA (by omega) (by omega)).mono ?_
          rintro e w4 ⟨p3, m3, cap3, rfl, HP3, hb3⟩
          rw [pow_odd _ _ _ hp] at HP3
          have HP4 := HP3.le (R := bd S (L - s)) (by rw [HBD.out]; omega)
          replace HA := HA.below hb3
          replace hbel := bel_tr hbel hb3
          clear HP2 HP3 hb3 hp
          go_wp2
          go_roundw
          case rel => exact ⟨s, p3, m3, cap3, by omega, by go_num, rfl, HP4, HA, hbel⟩
          case measure => simp [intOf]
  · have hd : decide (0 < bt) = false := by simpa using hbt
    go_wp2_with fail
    refine (ofV 1 _ (by omega) (by omega)).mono ?_
    rintro e w1 ⟨p0, n0, c0, rfl, HP, hbel⟩
    replace HA := HA.below hbel
    go_wp2_with fail
    refine (len_any (n : Int) _ (by omega) (by omega) L HLL.out).mono ?_
    rintro e w2 ⟨rfl, rfl⟩
    go_wp2
    go_loopw [7, 8] (fun v s wr => ∃ (t : Nat) (p : Option Addr) (m cap : Nat), t ≤ L ∧ s = .int .i64 ((t : Int) - 1) ∧ v = .slice p m cap ∧ Num wr p m cap (val xs ^ (n / 2 ^ t)) (bd S (L - t)) ∧ Num wr a na ca (val xs) S ∧ Below w.heap.size w wr) (fun _ s _ => (intOf s + 1).toNat)
    case atStart => exact ⟨L, p0, n0, c0, Nat.le_refl _, rfl, rfl, by rw [HLn.out, Int.pow_zero, Nat.sub_self]; exact HP, HA, hbel⟩
    case round =>
      clear HP HA hbel
      obtain ⟨t, p, m, cap, ht, rfl, rfl, HP, HA, hbel⟩ := hrel
      by_cases ht0 : t = 0
      · subst ht0
        have HP2 : Num wr p m cap (val xs ^ n) (1024 * (S + 1)) := by
          rw [Nat.pow_zero, Nat.div_one] at HP
          exact HP.le (bd_10 (by omega))
        clear HP
        go_wp2
        go_ret2
        exact ⟨p, m, cap, rfl, HP2, hbel⟩
      · obtain ⟨s, rfl⟩ : ∃ s, t = s + 1 := ⟨t - 1, by omega⟩
        have hbd := bd_10 (S := S) (j := L - (s + 1)) (by omega)
        have HBD : Hid (bd S (L - s) = 2 * bd S (L - (s + 1)) + S) := by show _ = _; rw [show L - s = (L - (s + 1)) + 1 by omega]; rfl
        have hnn : 0 ≤ (n : Int) / 2 ^ s := Int.ediv_nonneg (by omega) (Int.le_of_lt (Int.pow_pos (by decide)))
        have hns : (n : Int) / 2 ^ s = ((n / 2 ^ s : Nat) : Int) := by rw [Int.natCast_ediv, Int.natCast_pow]; rfl
        have hlt : n / 2 ^ s ≤ n := Nat.div_le_self _ _
        have EA := and_one_i64 ((n : Int) / 2 ^ s) hnn (by rw [hns]; omega)
        have hpar : n / 2 ^ s % 2 = 0 ∨ n / 2 ^ s % 2 = 1 := by omega
        go_wp2_with fail
        refine (mulV _ HP HP (by omega) (by omega)).mono ?_
        rintro e w3 ⟨p2, m2, cap2, rfl, HP2, hb2⟩
        replace HA := HA.below hb2
        replace hbel := bel_tr hbel hb2
        clear HP hb2
        rcases hpar with hp | hp
        · have EA2 : bits BinOp.and IntKind.i64 ((n : Int) / 2 ^ s) 1 = 0 := by rw [EA, hns]; omega
          rw [pow_even _ _ _ hp] at HP2
          have HP3 := HP2.le (R := bd S (L - s)) (by rw [HBD.out]; omega)
          clear EA HP2 hns hp
          go_wp2
          go_roundw
          case rel => exact ⟨s, p2, m2, cap2, by omega, by go_num, rfl, HP3, HA, hbel⟩
          case measure => simp [intOf]
        · have EA2 : bits BinOp.and IntKind.i64 ((n : Int) / 2 ^ s) 1 = 1 := by rw [EA, hns]; omega
          clear EA hns
          go_wp2_with fail
          refine (mulV _ HP2 HA (by omega) (by omega)).mono ?_
          rintro e w4 ⟨p3, m3, cap3, rfl, HP3, hb3⟩
          rw [pow_odd _ _ _ hp] at HP3
          have HP4 := HP3.le (R := bd S (L - s)) (by rw [HBD.out]; omega)
          replace HA := HA.below hb3
          replace hbel := bel_tr hbel hb3
          clear HP2 HP3 hb3 hp
          go_wp2
          go_roundw
          case rel => exact ⟨s, p3, m3, cap3, by omega, by go_num, rfl, HP4, HA, hbel⟩
          case measure => simp [intOf]
end Go.Proofs.YtbkkepbmaadomaaGreatDoor

namespace Go.Proofs.YtbkkepbmaadomaaGreatDoor
open Go.RowKit

theorem Mine.num {w : World} {B : Nat} {a : Option Addr} {n cap x S : Nat} (h : Mine w B a n cap x S) : Num w a n cap x S := h.1.num
theorem bitsP {a : Option Addr} {na ca : Nat} {x : Int} {S : Nat} (w : World) (ha : Num w a na ca x S) (hS : S ≤ 100000000) (hx : 0 < x) :
    Calls Tryz.prog 76 #[.slice a na ca] w fun e w' => ∃ n : Int, e = .returned (.int .i64 n) ∧ 0 < n ∧ w = w' := by
  obtain ⟨xs, a1, a2, a3, a4, a5, a6⟩ := ha
  have h1 := val_bits a4
  have h2 := (bits_nn xs a4 (by omega)).1
  have h3 : 0 < bitsL xs := by
    rcases (by omega : bitsL xs = 0 ∨ 0 < bitsL xs) with h | h
    · rw [h] at h1; simp at h1; omega
    · exact h
  refine (bits_any a na ca xs w a1 a2 (by omega) a3 a4).mono ?_
  rintro e w' ⟨rfl, rfl⟩
  exact ⟨_, rfl, h3, rfl⟩
theorem below_alloc (w : World) (o : Obj) : Below w.heap.size w (w.alloc o) := (Below.refl _ _).alloc (Nat.le_refl _) _
theorem tab_up {w w' : World} {g : Nat} {tab : List Nat} (h : TabAt g tab w) (hg : g < w.heap.size) (hb : Below w.heap.size w w') : TabAt g tab w' := tab_below h hb hg
theorem gcd2_any {a b : Option Addr} {na nb ca cb : Nat} {x y R : Nat} (w : World) (ha : Num w a na ca x R) (hb : Num w b nb cb y R) (hR : R ≤ 8000000) (hT : TabAt 12 Lib.deBruijn64tab w) (hgt : 12 < w.heap.size) :
    Calls Tryz.prog 102 #[.slice (some ⟨w.heap.size, 0, none⟩) 2 2] (w.alloc (.cells #[Value.slice a na ca, .slice b nb cb] 31)) fun e w' => ∃ c n cc, e = .returned (.slice c n cc) ∧ Num w' c n cc (Nat.gcd x y : Nat) (R + 2) ∧ Below w.heap.size w w' := by
  have hbA := below_alloc w (.cells #[Value.slice a na ca, .slice b nb cb] 31)
  refine (gcdL_any w.heap.size 2 2 (fun j => if j = 0 then a else b) (fun j => if j = 0 then na else nb) (fun j => if j = 0 then ca else cb) (fun j => if j = 0 then x else y) R _ ?_ ?_ (by omega) hR (tab_up hT hgt hbA) (by have := hbA.size; omega)).mono ?_
  · intro j hj
    rcases (by omega : j = 0 ∨ j = 1) with h | h <;> subst h <;> simp
  · intro j hj
    rcases (by omega : j = 0 ∨ j = 1) with h | h <;> subst h
    · exact ha.below hbA
    · exact hb.below hbA
  · rintro e w' ⟨c, n, cc, rfl, hM, hb'⟩
    refine ⟨c, n, cc, rfl, ?_, hbA.trans (hb'.mono hbA.size)⟩
    have e : gcdN (fun j => if j = 0 then x else y) 2 = Nat.gcd x y := by simp [gcdN]
    rw [e] at hM
    exact hM.num
theorem gcd3_any {a b d : Option Addr} {na nb nd ca cb cd : Nat} {x y z R : Nat} (w : World) (ha : Num w a na ca x R) (hb : Num w b nb cb y R) (hd : Num w d nd cd z R) (hR : R ≤ 8000000) (hT : TabAt 12 Lib.deBruijn64tab w) (hgt : 12 < w.heap.size) :
    Calls Tryz.prog 102 #[.slice (some ⟨w.heap.size, 0, none⟩) 3 3] (w.alloc (.cells #[Value.slice a na ca, .slice b nb cb, .slice d nd cd] 31)) fun e w' => ∃ c n cc, e = .returned (.slice c n cc) ∧ Num w' c n cc (Nat.gcd (Nat.gcd x y) z : Nat) (R + 2) ∧ Below w.heap.size w w' := by
  have hbA := below_alloc w (.cells #[Value.slice a na ca, .slice b nb cb, .slice d nd cd] 31)
  refine (gcdL_any w.heap.size 3 3 (fun j => if j = 0 then a else if j = 1 then b else d) (fun j => if j = 0 then na else if j = 1 then nb else nd) (fun j => if j = 0 then ca else if j = 1 then cb else cd) (fun j => if j = 0 then x else if j = 1 then y else z) R _ ?_ ?_ (by omega) hR (tab_up hT hgt hbA) (by have := hbA.size; omega)).mono ?_
  · intro j hj
    rcases (by omega : j = 0 ∨ j = 1 ∨ j = 2) with h | h | h <;> subst h <;> simp
  · intro j hj
    rcases (by omega : j = 0 ∨ j = 1 ∨ j = 2) with h | h | h <;> subst h
    · exact ha.below hbA
    · exact hb.below hbA
    · exact hd.below hbA
  · rintro e w' ⟨c, n, cc, rfl, hM, hb'⟩
    refine ⟨c, n, cc, rfl, ?_, hbA.trans (hb'.mono hbA.size)⟩
    have e : gcdN (fun j => if j = 0 then x else if j = 1 then y else z) 3 = Nat.gcd (Nat.gcd x y) z := by simp [gcdN]
    rw [e] at hM
    exact hM.num
theorem Num.more {w : World} {a : Option Addr} {n cap : Nat} {x : Int} {S R : Nat} (h : Num w a n cap x S) (hS : S ≤ R) : Num w a n cap x R := by
  obtain ⟨xs, h1, h2, h3, h4, h5, h6⟩ := h
  exact ⟨xs, h1, h2, h3, h4, h5, by omega⟩
theorem gcd_cop {x y : Nat} (h : 0 < Nat.gcd x y) : Nat.gcd (x / Nat.gcd x y) (y / Nat.gcd x y) = 1 := by
  have h1 := Nat.gcd_div (Nat.gcd_dvd_left x y) (Nat.gcd_dvd_right x y)
  rw [h1, Nat.div_self h]

/-- The table, and where it lies. -/
def Tabs (w : World) : Prop := TabAt 12 Lib.deBruijn64tab w ∧ 12 < w.heap.size
theorem Tabs.mk {w : World} (h : TabAt 12 Lib.deBruijn64tab w) (hg : 12 < w.heap.size) : Tabs w := ⟨h, hg⟩
theorem Tabs.below {w w' : World} (h : Tabs w) (hb : Below w.heap.size w w') : Tabs w' := ⟨tab_up h.1 h.2 hb, Nat.lt_of_lt_of_le h.2 hb.size⟩

end Go.Proofs.YtbkkepbmaadomaaGreatDoor

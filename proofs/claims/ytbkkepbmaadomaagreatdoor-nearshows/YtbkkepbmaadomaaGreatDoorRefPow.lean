import Derived.Test.YtbkkepbmaadomaaGreatDoorPowG
import Derived.Test.YtbkkepbmaadomaaGreatDoorRefAll
namespace Go.Proofs.YtbkkepbmaadomaaGreatDoor
open Go.RowKit

theorem one_le_pow {q : Int} (h : 1 ≤ q) (j : Nat) : 1 ≤ q ^ j := by
  induction j with
  | zero => simp
  | succ j ih => rw [Int.pow_succ]; have := Int.mul_le_mul (a := 1) (b := 1) (c := q ^ j) (d := q) ih h (by omega) (by omega); omega
theorem le_pow1 {q : Int} (h : 1 ≤ q) {j : Nat} (hj : 1 ≤ j) : q ≤ q ^ j := by
  obtain ⟨i, rfl⟩ : ∃ i, j = i + 1 := ⟨j - 1, by omega⟩
  rw [Int.pow_succ]
  have h1 := one_le_pow h i
  have := Int.mul_le_mul_of_nonneg_right (a := 1) (b := q ^ i) (c := q) h1 (by omega)
  omega
theorem le_pow2 {q : Int} (h : 1 ≤ q) {j : Nat} (hj : 2 ≤ j) : q * q ≤ q ^ j := by
  obtain ⟨i, rfl⟩ : ∃ i, j = i + 1 := ⟨j - 1, by omega⟩
  rw [Int.pow_succ]
  exact Int.mul_le_mul_of_nonneg_right (le_pow1 h (by omega)) (by omega)
theorem le_mul1 {o p : Int} (h : 1 ≤ o) (hp : 0 ≤ p) : p ≤ o * p := by
  have := Int.mul_le_mul_of_nonneg_right (a := 1) (b := o) (c := p) h hp
  omega
theorem pow_split {o q V : Int} {k : Nat} (h : o * q ^ k = V) : (k % 2 = 1 → o * q * (q * q) ^ (k / 2) = V) ∧ (k % 2 = 0 → o * (q * q) ^ (k / 2) = V) := by
  have e : (q * q) ^ (k / 2) = q ^ (2 * (k / 2)) := by rw [Int.pow_mul]; congr 1; rw [Int.pow_succ, Int.pow_succ, Int.pow_zero, Int.one_mul]
  constructor
  · intro h2
    rw [e, Int.mul_assoc, Int.mul_comm q, ← Int.pow_succ, show (2 * (k / 2)).succ = k by omega]; exact h
  · intro h2
    rw [e, show 2 * (k / 2) = k by omega]; exact h

set_option maxRecDepth 100000 in
set_option maxHeartbeats 2000000 in
/-- The document's power. -/
theorem rpowG (a : Option Addr) (na ca : Nat) (xs : List Int) (S n : Nat) (w : World) (hna : na = xs.length) (hla : na ≤ ca) (hmS : na ≤ S) (hS : S ≤ 100000000) (hr : Reads w a xs) (hx : AllW xs) (hn : n < 9223372036854775808) (hv : 0 < n → 1 ≤ val xs) (hV : ∀ m, m ≤ n → val xs ^ m < pw 2049) :
    Calls Tryz.prog 91 #[.slice a na ca, .int .i64 n] w fun e w' => ∃ p m cap, e = .returned (.slice p m cap) ∧ Got w' w.heap.size (.slice p m cap) (val xs ^ n) 2049 ∧ Below w.heap.size w w' := by
  have HVs : Hid (val xs ^ n < pw 2049) := hV n (Nat.le_refl _)
  have HV1 : Hid (0 < n → val xs < pw 2049) := fun h => by have := hV 1 (by omega); rwa [Int.pow_succ, Int.pow_zero, Int.one_mul] at this
  have HVp : Hid (0 < n → 1 ≤ val xs) := hv
  have Hna : Hid (na = xs.length) := hna
  clear hV hv hna
  go_enter Tryz.func91, Tryz.ntmps91
  go_wp2_with fail
  have hbk : Blk (w.alloc (Obj.cells #[Value.int IntKind.u64 1] 22)) w.heap.size [1] := blk_new [1]
  have G0 := got_of_blk hbk (fun x hx => by simp at hx; subst hx; exact ⟨by omega, by omega⟩) (Nat.le_refl _) 1 rfl (S := 2049) (by simp) (by simp)
  have hb0 : Below w.heap.size w (w.alloc (Obj.cells #[Value.int IntKind.u64 1] 22)) := (Below.refl _ _).alloc (Nat.le_refl _) _
  refine (rnorm_any a na ca xs _ Hna.out hla (by omega) (hr.below hb0) hx).mono ?_
  rintro e w1 ⟨c, cc, rfl, hown, hb1⟩
  replace G0 := G0.below hb1
  replace hb0 := bel_tr hb0 hb1
  have e1 : tlen [(1 : Int)] = 1 := by decide
  have e2 : val [(1 : Int)] = 1 := by decide
  rw [e1, e2] at G0
  have GQ : Got w1 (w.alloc (Obj.cells #[Value.int IntKind.u64 1] 22)).heap.size (.slice c (tlen xs) cc) (val xs) (tlen xs) := ⟨trimL xs, hown, NF.trimL hx, val_trimL xs, by rw [length_trimL]; omega⟩
  have HQ0 : 0 < n → Num w1 c (tlen xs) cc (val xs) 2049 := fun h => (GQ.shrink (HV1.out h)).num
  obtain ⟨V, hVE⟩ : ∃ V, V = val xs ^ n := ⟨_, rfl⟩
  have HVE : Hid (V = val xs ^ n) := hVE
  have HVP0 : Hid ((1 : Int) * val xs ^ n = V) := by show _ = _; rw [hVE]; exact Int.one_mul _
  have HVp2 := HVp.out
  clear hr hb1 e1 e2 hown GQ hbk hx
  rw [← hVE] at HVs
  obtain ⟨X, hXE⟩ : ∃ X, X = val xs := ⟨_, rfl⟩
  rw [← hXE] at HQ0 HVP0 HVp2
  clear hXE hVE HVp HV1
  generalize tlen xs = tq at *
  go_wp2
  go_loopw [5, 6, 7] (fun vo vq s wr => ∃ (k : Nat) (o q : Int) (po : Option Addr) (mo co : Nat) (pq : Option Addr) (mq cq : Nat), k ≤ n ∧ s = .int .i64 k ∧ vo = .slice po mo co ∧ vq = .slice pq mq cq ∧ Got wr w.heap.size (.slice po mo co) o 2049 ∧ (0 < k → Num wr pq mq cq q 2049) ∧ o * q ^ k = V ∧ 1 ≤ o ∧ (0 < k → 1 ≤ q) ∧ Below w.heap.size w wr) (fun _ _ s _ => (intOf s).toNat)
  case atStart => exact ⟨n, 1, X, _, _, _, _, _, _, Nat.le_refl _, rfl, rfl, rfl, G0, HQ0, HVP0.out, by omega, HVp2, hb0⟩
  case round =>
    clear G0 HQ0 HVP0 HVp2 hb0
    obtain ⟨k, o, q, po, mo, co, pq, mq, cq, hk, rfl, rfl, rfl, HO, HQ, hval, ho, hq, hbel⟩ := hrel
    by_cases hk0 : 0 < k
    · have hkl : (0 : Int) < (k : Int) := by omega
      have hq1 := hq hk0
      have HOQ : Hid (o * q < pw 2049) := by
        show _ < _
        have h1 := Int.mul_le_mul_of_nonneg_left (le_pow1 hq1 (by omega : 1 ≤ k)) (by omega : 0 ≤ o)
        have := HVs.out
        omega
      have HQQ : Hid (1 < k → q * q < pw 2049) := fun h => by
        have h1 := le_pow2 hq1 (by omega : 2 ≤ k)
        have h2 := le_mul1 ho (by have := one_le_pow hq1 k; omega : 0 ≤ q ^ k)
        have := HVs.out
        omega
      have HSP : Hid ((k % 2 = 1 → o * q * (q * q) ^ (k / 2) = V) ∧ (k % 2 = 0 → o * (q * q) ^ (k / 2) = V)) := pow_split hval
      have hoq : 1 ≤ o * q := by have := Int.mul_le_mul (a := 1) (b := 1) (c := o) (d := q) ho hq1 (by omega) (by omega); omega
      have hqq : 1 ≤ q * q := by have := Int.mul_le_mul (a := 1) (b := 1) (c := q) (d := q) hq1 hq1 (by omega) (by omega); omega
      have HOQ1 : Hid (1 ≤ o * q) := hoq
      have HQQ1 : Hid (1 ≤ q * q) := hqq
      have HVK : Hid (o * q ^ k = V) := hval
      clear hval hoq hqq hq
      obtain ⟨k2, hk2⟩ : ∃ k2 : Nat, k2 = k / 2 := ⟨_, rfl⟩
      have hk2a : 2 * k2 ≤ k := by omega
      have hk2b : k ≤ 2 * k2 + 1 := by omega
      have T2 : IntKind.i64.wrap ((k : Int).tdiv 2) = (k2 : Int) := by
        rw [Int.tdiv_eq_ediv_of_nonneg (by omega)]
        simp [IntKind.wrap, IntKind.signed, IntKind.bits]
        omega
      rw [← hk2] at HSP
      clear hk2
      by_cases hodd : k % 2 = 1
      · have hm : (k : Int) % 2 = 1 := by omega
        go_wp2_with fail
        refine (rmulV _ HO.num (HQ (by omega)) (by omega)).mono ?_
        rintro e w2 ⟨c1, n1, d1, rfl, R1, hb1⟩
        replace R1 := (R1.shrink (m := 2049) (HOQ.out)).mono (B' := w.heap.size) hbel.size
        have HQ1 : 0 < k → Num w2 pq mq cq q 2049 := fun h => (HQ h).below hb1
        replace hbel := bel_tr hbel hb1
        clear hb1 HQ HO
        by_cases hk1 : 1 < k
        · have hkl1 : (1 : Int) < (k : Int) := by omega
          have HQX := HQ1
          have HOX := R1
          clear HQ1 R1
          go_wp2_with fail
          refine (rmulV _ (HQX (by omega)) (HQX (by omega)) (by omega)).mono ?_
          rintro e w3 ⟨c2, n2, d2, rfl, R2, hb2⟩
          replace R2 := R2.shrink (m := 2049) (HQQ.out hk1)
          have R3 : 0 < k2 → Num w3 c2 n2 d2 (q * q) 2049 := fun _ => R2.num
          replace HOX := HOX.below hb2
          replace hbel := bel_tr hbel hb2
          clear hb2 R2 HQX
          go_wp2
          go_roundw
          case rel => exact ⟨k2, o * q, q * q, _, _, _, _, _, _, by omega, by first | rfl | go_num | (simp; done) | (congr 1; omega), rfl, rfl, HOX, R3, HSP.out.1 hodd, HOQ1.out, fun _ => HQQ1.out, hbel⟩
          case measure => first | (simp [intOf]; done) | (simp [intOf]; omega)
        · obtain rfl : k = 1 := by omega
          obtain rfl : k2 = 0 := by omega
          have HZ : Hid (o * q * q ^ 0 = V) := by
            show _ = _
            have := HVK.out
            rw [Int.pow_zero, Int.mul_one]
            rwa [Int.pow_succ, Int.pow_zero, Int.one_mul] at this
          clear hm
          go_wp2
          go_roundw
          case rel => exact ⟨0, o * q, q, _, _, _, _, _, _, by omega, by first | rfl | go_num | (simp; done) | (congr 1; omega), rfl, rfl, R1, (fun h => absurd h (by decide)), HZ.out, HOQ1.out, fun _ => hq1, hbel⟩
          case measure => first | (simp [intOf]; done) | (simp [intOf]; omega)
      · have hm : (k : Int) % 2 = 0 := by omega
        have hk1 : 1 < k := by omega
        have hkl1 : (1 : Int) < (k : Int) := by omega
        have HQX := HQ
        have HOX := HO
        clear HQ HO
        go_wp2_with fail
        refine (rmulV _ (HQX (by omega)) (HQX (by omega)) (by omega)).mono ?_
        rintro e w3 ⟨c2, n2, d2, rfl, R2, hb2⟩
        replace R2 := R2.shrink (m := 2049) (HQQ.out hk1)
        have R3 : 0 < k2 → Num w3 c2 n2 d2 (q * q) 2049 := fun _ => R2.num
        replace HOX := HOX.below hb2
        replace hbel := bel_tr hbel hb2
        clear hb2 R2 HQX
        go_wp2
        go_roundw
        case rel => exact ⟨k2, o, q * q, _, _, _, _, _, _, by omega, by first | rfl | go_num | (simp; done) | (congr 1; omega), rfl, rfl, HOX, R3, HSP.out.2 (by omega), ho, fun _ => HQQ1.out, hbel⟩
        case measure => first | (simp [intOf]; done) | (simp [intOf]; omega)
    · obtain rfl : k = 0 := by omega
      rw [Int.pow_zero, Int.mul_one] at hval
      rw [hval] at HO
      clear HQ hq hval
      go_wp2
      go_ret
      exact ⟨po, mo, co, rfl, by rw [← HVE.out]; exact HO, hbel⟩
end Go.Proofs.YtbkkepbmaadomaaGreatDoor

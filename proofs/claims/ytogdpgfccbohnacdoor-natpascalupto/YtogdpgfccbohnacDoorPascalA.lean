import Derived.Test.YtogdpgfccbohnacDoorChoose
import Derived.Test.YtogdpgfccbohnacDoorPow
import Derived.Test.YtogdpgfccbohnacDoorLike
namespace Go.Proofs.YtogdpgfccbohnacDoor
open Go.RowKit

theorem chooseI (nI kI : Int) (n k : Nat) (w : World) (e1 : nI = n) (e2 : kI = k) (hn : n ≤ 4096) (hk2 : k ≤ 1000000) :
    Calls Tryd.prog 19 #[.int .i64 nI, .int .i64 kI] w fun e w' => ∃ a m cap, e = .returned (.tuple #[.slice a m cap, .nilIface]) ∧ Num w' a m cap (chs n k) 5000 ∧ Below w.heap.size w w' := by
  subst e1 e2; exact chooseV n k w hn hk2
theorem powI (a : Option Addr) (na ca : Nat) (xs : List Int) (S : Nat) (nI : Int) (n : Nat) (w : World) (e1 : nI = n) (hna : na = xs.length) (hla : na ≤ ca) (hmS : na ≤ S) (hS : S ≤ 100000000) (hr : Reads w a xs) (hx : AllW xs) (hn : n ≤ 1000) (hb : (n : Int) * bitsL xs ≤ 131072) :
    Calls Tryd.prog 20 #[.slice a na ca, .int .i64 nI] w fun e w' => ∃ p m cap, e = .returned (.tuple #[.slice p m cap, .nilIface]) ∧ Num w' p m cap (val xs ^ n) (1024 * (S + 1)) ∧ Below w.heap.size w w' := by
  subst e1; exact powV a na ca xs S n w hna hla hmS hS hr hx hn hb
theorem num_nil (w : World) (a : Option Addr) (cap : Nat) : Num w a 0 cap 0 0 := ⟨[], rfl, Nat.zero_le _, .inl rfl, AllW.nil, rfl, Nat.le_refl _⟩
theorem chs_rule (N K : Nat) (h : 0 < K) : ((chs (N + 1) K : Nat) : Int) = ((chs N (K - 1) : Nat) : Int) + ((chs N K : Nat) : Int) := by
  obtain ⟨k, rfl⟩ : ∃ k, K = k + 1 := ⟨K - 1, by omega⟩
  show ((chs N k + chs N (k + 1) : Nat) : Int) = _
  rw [Int.natCast_add]; rfl
theorem chs_rule0 (N : Nat) : ((chs (N + 1) 0 : Nat) : Int) = 0 + ((chs N 0 : Nat) : Int) := by rw [chs_zero, chs_zero]; rfl
theorem chsSum_int (M i : Nat) : ((chsSum M i : Nat) : Int) + ((chs M i : Nat) : Int) = ((chsSum M (i + 1) : Nat) : Int) := by
  show _ = ((chsSum M i + chs M i : Nat) : Int); rw [Int.natCast_add]
theorem allW_two : AllW [2] := fun x hx => by simp at hx; subst hx; unfold Word; omega
theorem bits_two {M : Nat} (h : M ≤ 59) : (M : Int) * bitsL [2] ≤ 131072 := by
  have : bitsL [2] = 2 := by decide +kernel
  rw [this]; omega
theorem sum_two (M : Nat) : ((chsSum M (M + 1) : Nat) : Int) = val [2] ^ M := by
  rw [chsSum_all, Int.natCast_pow]
  congr 1
theorem bits_small {j : Nat} {b : Int} (h : j ≤ 12) (h0 : 0 ≤ b) (h1 : b ≤ 4000) : (j : Int) * b ≤ 131072 := by
  have := Int.mul_le_mul (a := (j : Int)) (b := b) (c := 12) (d := 4000) (by omega) h1 h0 (by omega)
  omega
theorem neg_rem (n c : Int) (h : n < 0) : -(n + 1).tmod c = (-(n + 1)) % c := by
  rw [← Int.neg_tmod]; exact Int.tmod_eq_emod_of_nonneg (by omega)
theorem pick_n (n : Int) : ∃ N : Nat, 1 + n % 4096 = (N : Int) + 1 ∧ N ≤ 4095 := ⟨(n % 4096).toNat, by omega, by omega⟩
theorem pick_k (k : Int) : ∃ K : Nat, k % 4200 = (K : Int) ∧ K ≤ 4199 := ⟨(k % 4200).toNat, by omega, by omega⟩
theorem pick_n' (n : Int) (h : n < 0) : ∃ N : Nat, wrap64 (1 + -(n + 1).tmod 4096) = (N : Int) + 1 ∧ N ≤ 4095 := by
  obtain ⟨N, h1, h2⟩ := pick_n (-(n + 1))
  refine ⟨N, ?_, h2⟩
  rw [neg_rem n 4096 h, h1]
  exact IntWalk.wrap64_in _ ⟨by omega, by omega⟩
theorem pick_k' (k : Int) (h : k < 0) : ∃ K : Nat, -(k + 1).tmod 4200 = (K : Int) ∧ K ≤ 4199 := by
  obtain ⟨K, h1, h2⟩ := pick_k (-(k + 1))
  exact ⟨K, by rw [neg_rem k 4200 h, h1], h2⟩

set_option maxRecDepth 100000 in
set_option maxHeartbeats 8000000 in
theorem pascal_pp (n k : Int) (a : Option Addr) (na ca : Nat) (xs : List Int) (w : World) (hn1 : -9223372036854775808 ≤ n) (hn2 : n ≤ 9223372036854775807) (hk1 : -9223372036854775808 ≤ k) (hk2 : k ≤ 9223372036854775807)
    (hna : na = xs.length) (hla : na ≤ ca) (hma : na ≤ 1048576) (hra : Reads w a xs) (hx : AllW xs) (hn0 : ¬ n < 0) (hk0 : ¬ k < 0) :
    Calls Tryd.prog 5 #[.int .i64 n, .int .i64 k, .slice a na ca] w fun e w' => e = .returned (.bool true) ∧ Below w.heap.size w w' := by
  have HT : Below w.heap.size w w := Below.refl _ _
  have Hna : Hid (na = xs.length) := hna
  clear hna
  obtain ⟨N, hN, hNb⟩ := pick_n n
  obtain ⟨K, hK, hKb⟩ := pick_k k
  obtain ⟨M, hM⟩ : ∃ M : Nat, ((N : Int) + 1) % 60 = M := ⟨(((N : Int) + 1) % 60).toNat, by omega⟩
  obtain ⟨J, hJ⟩ : ∃ J : Nat, (K : Int) % 7 = J := ⟨((K : Int) % 7).toNat, by omega⟩
  obtain ⟨L, hL⟩ : ∃ L : Nat, ((N : Int) + 1) % 7 = L := ⟨(((N : Int) + 1) % 7).toNat, by omega⟩
  have hMb : M ≤ 59 := by omega
  have hJb : J ≤ 6 := by omega
  have hLb : L ≤ 6 := by omega
  go_enter Tryd.func5, Tryd.ntmps5
  go_wp2_with fail
  refine (awake_any _).mono ?_
  rintro e w1 ⟨rfl, hb⟩
  replace hra := hra.below hb
  replace HT := bel_tr HT hb
  clear hb
  by_cases hK0 : 0 < K
  · have hK0' : (0 : Int) < (K : Int) := by omega
    go_wp2_with fail
    refine (chooseI _ _ (N + 1) K _ (by omega) (by omega) (by omega) (by omega)).mono ?_
    rintro e w2 ⟨c1, m1, p1, rfl, C1, hb⟩
    replace hra := hra.below hb
    have hs2 := hb.size
    replace HT := bel_tr HT hb
    clear hb
    go_wp2_with fail
    refine (chooseI _ _ N K _ (by omega) (by omega) (by omega) (by omega)).mono ?_
    rintro e w3 ⟨c2, m2, p2, rfl, C2, hb⟩
    replace hra := hra.below hb
    replace C1 := C1.below hb
    have hs3 := hb.size
    replace HT := bel_tr HT hb
    clear hb
    go_wp2_with fail
    refine (chooseI _ _ N (K - 1) _ (by omega) (by omega) (by omega) (by omega)).mono ?_
    rintro e w4 ⟨c3, m3, p3, rfl, C3, hb⟩
    replace hb := bel_tr ((Below.refl _ w3).alloc (Nat.le_refl _) _) hb
    replace hra := hra.below hb
    replace C1 := C1.below hb
    replace C2 := C2.below hb
    have hs4 := hb.size
    replace HT := bel_tr HT hb
    clear hb
    go_wp2_with fail
    refine (addV _ C3 C2 (by omega) (by omega)).mono ?_
    rintro e w5 ⟨c4, m4, p4, rfl, C4, hb⟩
    replace hra := hra.below hb
    replace C1 := C1.below hb
    replace C2 := C2.below hb
    replace C3 := C3.below hb
    have hs5 := hb.size
    replace HT := bel_tr HT hb
    clear hb
    go_wp2_with fail
    refine (likeV _ C1 C4 (by omega) (by omega) (chs_rule N K hK0)).mono ?_
    rintro e w6 ⟨rfl, hb⟩
    replace hra := hra.below hb
    replace C1 := C1.below hb
    replace C2 := C2.below hb
    replace C3 := C3.below hb
    replace C4 := C4.below hb
    have hs6 := hb.size
    replace HT := bel_tr HT hb
    clear hb
    clear C1 C2 C3 C4
    have hsz : w.heap.size ≤ w6.heap.size := HT.size
    go_wp2
    rw [hM]
    go_loopw [15, 17] (fun v s wr => ∃ (i : Nat) (p : Option Addr) (m cap : Nat), i ≤ M + 1 ∧ s = .int .i64 i ∧ v = .slice p m cap ∧ Num wr p m cap (chsSum M i) (i * 5001) ∧ Reads wr a xs ∧ Below w.heap.size w wr) (fun _ s _ => M + 1 - (intOf s).toNat)
    case atStart => exact ⟨0, _, _, _, Nat.zero_le _, rfl, rfl, (num_nil _ _ _).le (by omega), hra.below ((Below.refl _ _).alloc (Nat.le_refl _) _), HT.alloc hsz _⟩
    case round =>
      clear HT hra hsz
      obtain ⟨i, p, m, cap, hi, rfl, rfl, SM, hra, HT⟩ := hrel
      by_cases him : i ≤ M
      · have hiM : (i : Int) ≤ (M : Int) := by omega
        go_wp2_with fail
        refine (chooseI _ _ M i wr (by omega) (by omega) (by omega) (by omega)).mono ?_
        rintro e w41 ⟨c5, m5, p5, rfl, C5, hb⟩
        replace SM := SM.below hb
        replace hra := hra.below hb
        replace HT := bel_tr HT hb
        clear hb
        go_wp2_with fail
        refine (addV _ SM C5 (by omega) (by omega)).mono ?_
        rintro e w42 ⟨c6, m6, p6, rfl, C6, hb⟩
        replace hra := hra.below hb
        replace HT := bel_tr HT hb
        have C7 := (C6.le (R := (i + 1) * 5001) (by omega))
        rw [chsSum_int] at C7
        clear hb C6 SM C5
        go_wp2
        go_roundw
        case rel => first | exact ⟨i + 1, _, _, _, by omega, by go_num, rfl, C7, hra, HT⟩ | ((repeat apply Exists.intro); refine ⟨?_, rfl⟩; exact ⟨i + 1, _, _, _, by omega, by go_num, rfl, C7, hra, HT⟩)
        case measure => simp [intOf]; omega
      · have hiM : ¬ (i : Int) ≤ (M : Int) := by omega
        obtain rfl : i = M + 1 := by omega
        go_wp2_with fail
        refine (of3_any 2 wr (by omega) (by omega)).mono ?_
        rintro e w51 ⟨c8, p8, rfl, O8, hb⟩
        replace SM := SM.below hb
        replace hra := hra.below hb
        replace HT := bel_tr HT hb
        clear hb
        go_wp2_with fail
        refine (powI c8 1 p8 [2] 1 _ M w51 (by omega) rfl O8.reads.2.1 (by omega) (by omega) O8.reads.2.2 allW_two (by omega) (bits_two (by omega))).mono ?_
        rintro e w52 ⟨c9, m9, p9, rfl, C9, hb⟩
        replace SM := SM.below hb
        replace hra := hra.below hb
        have hs52 := hb.size
        replace HT := bel_tr HT hb
        clear hb
        go_wp2_with fail
        refine (likeV _ SM C9 (by omega) (by omega) (sum_two M)).mono ?_
        rintro e w53 ⟨rfl, hb⟩
        replace SM := SM.below hb
        replace hra := hra.below hb
        replace C9 := C9.below hb
        have hs53 := hb.size
        replace HT := bel_tr HT hb
        clear hb
        clear SM C9
        go_wp2_with fail
        refine (bits_any a na ca xs _ Hna.out hla (by omega) hra hx).mono ?_
        rintro e wsame ⟨rfl, rfl⟩
        obtain ⟨bt, hbt⟩ : ∃ bt, bitsL xs = bt := ⟨_, rfl⟩
        have HBT : Hid (bitsL xs = bt) := hbt
        rw [hbt]
        have hbt0 := (bits_nn xs hx (by have := Hna.out; omega)).1
        rw [hbt] at hbt0
        clear hbt
        by_cases hbig : 4000 < bt
        · go_wp2
          go_ret
          exact ⟨rfl, HT⟩
        · have hA : na ≤ 1048576 := hma
          go_wp2_with fail
          refine (powI a na ca xs 1048576 _ J w53 (by omega) Hna.out hla hma (by omega) hra hx (by omega) (by rw [HBT.out]; exact bits_small (by omega) hbt0 (by omega))).mono ?_
          rintro e w54 ⟨cq1, mq1, pq1, rfl, Cq1, hb⟩
          replace hra := hra.below hb
          have hs54 := hb.size
          replace HT := bel_tr HT hb
          clear hb
          go_wp2_with fail
          refine (powI a na ca xs 1048576 _ L w54 (by omega) Hna.out hla hma (by omega) hra hx (by omega) (by rw [HBT.out]; exact bits_small (by omega) hbt0 (by omega))).mono ?_
          rintro e w55 ⟨cq2, mq2, pq2, rfl, Cq2, hb⟩
          replace hra := hra.below hb
          replace Cq1 := Cq1.below hb
          have hs55 := hb.size
          replace HT := bel_tr HT hb
          clear hb
          go_wp2_with fail
          refine (powI a na ca xs 1048576 _ (J + L) w55 (by omega) Hna.out hla hma (by omega) hra hx (by omega) (by rw [HBT.out]; exact bits_small (by omega) hbt0 (by omega))).mono ?_
          rintro e w56 ⟨cq3, mq3, pq3, rfl, Cq3, hb⟩
          replace hra := hra.below hb
          replace Cq1 := Cq1.below hb
          replace Cq2 := Cq2.below hb
          have hs56 := hb.size
          replace HT := bel_tr HT hb
          clear hb
          go_wp2_with fail
          refine (mulV _ Cq1 Cq2 (by omega) (by omega)).mono ?_
          rintro e w57 ⟨cq4, mq4, pq4, rfl, Cq4, hb⟩
          replace hra := hra.below hb
          replace Cq1 := Cq1.below hb
          replace Cq2 := Cq2.below hb
          replace Cq3 := Cq3.below hb
          have hs57 := hb.size
          replace HT := bel_tr HT hb
          clear hb
          go_wp2_with fail
          refine (likeV _ Cq4 Cq3 (by omega) (by omega) (Int.pow_add _ _ _).symm).mono ?_
          rintro e w58 ⟨rfl, hb⟩
          replace hra := hra.below hb
          replace Cq1 := Cq1.below hb
          replace Cq2 := Cq2.below hb
          replace Cq3 := Cq3.below hb
          replace Cq4 := Cq4.below hb
          have hs58 := hb.size
          replace HT := bel_tr HT hb
          clear hb
          clear hra Cq1 Cq2 Cq3 Cq4
          go_wp2
          go_ret
          exact ⟨rfl, HT⟩
  · obtain rfl : K = 0 := by omega
    go_wp2_with fail
    refine (chooseI _ _ (N + 1) 0 _ (by omega) (by omega) (by omega) (by omega)).mono ?_
    rintro e w2 ⟨c1, m1, p1, rfl, C1, hb⟩
    replace hra := hra.below hb
    have hs2 := hb.size
    replace HT := bel_tr HT hb
    clear hb
    go_wp2_with fail
    refine (chooseI _ _ N 0 _ (by omega) (by omega) (by omega) (by omega)).mono ?_
    rintro e w3 ⟨c2, m2, p2, rfl, C2, hb⟩
    replace hra := hra.below hb
    replace C1 := C1.below hb
    have hs3 := hb.size
    replace HT := bel_tr HT hb
    clear hb
    go_wp2_with fail
    refine (addV _ (num_nil _ _ _) (C2.below ((Below.refl _ _).alloc (Nat.le_refl _) _)) (by omega) (by omega)).mono ?_
    rintro e w4 ⟨c4, m4, p4, rfl, C4, hb⟩
    replace hb := bel_tr ((Below.refl _ w3).alloc (Nat.le_refl _) _) hb
    replace hra := hra.below hb
    replace C1 := C1.below hb
    replace C2 := C2.below hb
    have hs4 := hb.size
    replace HT := bel_tr HT hb
    clear hb
    go_wp2_with fail
    refine (likeV _ C1 C4 (by omega) (by omega) (chs_rule0 N)).mono ?_
    rintro e w5 ⟨rfl, hb⟩
    replace hra := hra.below hb
    replace C1 := C1.below hb
    replace C2 := C2.below hb
    replace C4 := C4.below hb
    have hs5 := hb.size
    replace HT := bel_tr HT hb
    clear hb
    clear C1 C2 C4
    have hsz : w.heap.size ≤ w5.heap.size := HT.size
    go_wp2
    rw [hM]
    go_loopw [15, 17] (fun v s wr => ∃ (i : Nat) (p : Option Addr) (m cap : Nat), i ≤ M + 1 ∧ s = .int .i64 i ∧ v = .slice p m cap ∧ Num wr p m cap (chsSum M i) (i * 5001) ∧ Reads wr a xs ∧ Below w.heap.size w wr) (fun _ s _ => M + 1 - (intOf s).toNat)
    case atStart => exact ⟨0, _, _, _, Nat.zero_le _, rfl, rfl, (num_nil _ _ _).le (by omega), hra.below ((Below.refl _ _).alloc (Nat.le_refl _) _), HT.alloc hsz _⟩
    case round =>
      clear HT hra hsz
      obtain ⟨i, p, m, cap, hi, rfl, rfl, SM, hra, HT⟩ := hrel
      by_cases him : i ≤ M
      · have hiM : (i : Int) ≤ (M : Int) := by omega
        go_wp2_with fail
        refine (chooseI _ _ M i wr (by omega) (by omega) (by omega) (by omega)).mono ?_
        rintro e w41 ⟨c5, m5, p5, rfl, C5, hb⟩
        replace SM := SM.below hb
        replace hra := hra.below hb
        replace HT := bel_tr HT hb
        clear hb
        go_wp2_with fail
        refine (addV _ SM C5 (by omega) (by omega)).mono ?_
        rintro e w42 ⟨c6, m6, p6, rfl, C6, hb⟩
        replace hra := hra.below hb
        replace HT := bel_tr HT hb
        have C7 := (C6.le (R := (i + 1) * 5001) (by omega))
        rw [chsSum_int] at C7
        clear hb C6 SM C5
        go_wp2
        go_roundw
        case rel => first | exact ⟨i + 1, _, _, _, by omega, by go_num, rfl, C7, hra, HT⟩ | ((repeat apply Exists.intro); refine ⟨?_, rfl⟩; exact ⟨i + 1, _, _, _, by omega, by go_num, rfl, C7, hra, HT⟩)
        case measure => simp [intOf]; omega
      · have hiM : ¬ (i : Int) ≤ (M : Int) := by omega
        obtain rfl : i = M + 1 := by omega
        go_wp2_with fail
        refine (of3_any 2 wr (by omega) (by omega)).mono ?_
        rintro e w51 ⟨c8, p8, rfl, O8, hb⟩
        replace SM := SM.below hb
        replace hra := hra.below hb
        replace HT := bel_tr HT hb
        clear hb
        go_wp2_with fail
        refine (powI c8 1 p8 [2] 1 _ M w51 (by omega) rfl O8.reads.2.1 (by omega) (by omega) O8.reads.2.2 allW_two (by omega) (bits_two (by omega))).mono ?_
        rintro e w52 ⟨c9, m9, p9, rfl, C9, hb⟩
        replace SM := SM.below hb
        replace hra := hra.below hb
        have hs52 := hb.size
        replace HT := bel_tr HT hb
        clear hb
        go_wp2_with fail
        refine (likeV _ SM C9 (by omega) (by omega) (sum_two M)).mono ?_
        rintro e w53 ⟨rfl, hb⟩
        replace SM := SM.below hb
        replace hra := hra.below hb
        replace C9 := C9.below hb
        have hs53 := hb.size
        replace HT := bel_tr HT hb
        clear hb
        clear SM C9
        go_wp2_with fail
        refine (bits_any a na ca xs _ Hna.out hla (by omega) hra hx).mono ?_
        rintro e wsame ⟨rfl, rfl⟩
        obtain ⟨bt, hbt⟩ : ∃ bt, bitsL xs = bt := ⟨_, rfl⟩
        have HBT : Hid (bitsL xs = bt) := hbt
        rw [hbt]
        have hbt0 := (bits_nn xs hx (by have := Hna.out; omega)).1
        rw [hbt] at hbt0
        clear hbt
        by_cases hbig : 4000 < bt
        · go_wp2
          go_ret
          exact ⟨rfl, HT⟩
        · have hA : na ≤ 1048576 := hma
          go_wp2_with fail
          refine (powI a na ca xs 1048576 _ J w53 (by omega) Hna.out hla hma (by omega) hra hx (by omega) (by rw [HBT.out]; exact bits_small (by omega) hbt0 (by omega))).mono ?_
          rintro e w54 ⟨cq1, mq1, pq1, rfl, Cq1, hb⟩
          replace hra := hra.below hb
          have hs54 := hb.size
          replace HT := bel_tr HT hb
          clear hb
          go_wp2_with fail
          refine (powI a na ca xs 1048576 _ L w54 (by omega) Hna.out hla hma (by omega) hra hx (by omega) (by rw [HBT.out]; exact bits_small (by omega) hbt0 (by omega))).mono ?_
          rintro e w55 ⟨cq2, mq2, pq2, rfl, Cq2, hb⟩
          replace hra := hra.below hb
          replace Cq1 := Cq1.below hb
          have hs55 := hb.size
          replace HT := bel_tr HT hb
          clear hb
          go_wp2_with fail
          refine (powI a na ca xs 1048576 _ (J + L) w55 (by omega) Hna.out hla hma (by omega) hra hx (by omega) (by rw [HBT.out]; exact bits_small (by omega) hbt0 (by omega))).mono ?_
          rintro e w56 ⟨cq3, mq3, pq3, rfl, Cq3, hb⟩
          replace hra := hra.below hb
          replace Cq1 := Cq1.below hb
          replace Cq2 := Cq2.below hb
          have hs56 := hb.size
          replace HT := bel_tr HT hb
          clear hb
          go_wp2_with fail
          refine (mulV _ Cq1 Cq2 (by omega) (by omega)).mono ?_
          rintro e w57 ⟨cq4, mq4, pq4, rfl, Cq4, hb⟩
          replace hra := hra.below hb
          replace Cq1 := Cq1.below hb
          replace Cq2 := Cq2.below hb
          replace Cq3 := Cq3.below hb
          have hs57 := hb.size
          replace HT := bel_tr HT hb
          clear hb
          go_wp2_with fail
          refine (likeV _ Cq4 Cq3 (by omega) (by omega) (Int.pow_add _ _ _).symm).mono ?_
          rintro e w58 ⟨rfl, hb⟩
          replace hra := hra.below hb
          replace Cq1 := Cq1.below hb
          replace Cq2 := Cq2.below hb
          replace Cq3 := Cq3.below hb
          replace Cq4 := Cq4.below hb
          have hs58 := hb.size
          replace HT := bel_tr HT hb
          clear hb
          clear hra Cq1 Cq2 Cq3 Cq4
          go_wp2
          go_ret
          exact ⟨rfl, HT⟩

end Go.Proofs.YtogdpgfccbohnacDoor

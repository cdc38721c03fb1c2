import Derived.Test.YtogdpgfccbohnaaDoorNum
import Derived.Laws.Bits64b
namespace Go.Proofs.YtogdpgfccbohnaaDoor
open Go.RowKit

theorem or_add {c x P : Int} {u : Nat} (hP : P = 2 ^ u) (h0 : 0 ≤ c) (h1 : c < P) (hx0 : 0 ≤ x) (hx1 : x * P + c < 18446744073709551616) : bits BinOp.or IntKind.u64 c (x * P) = c + x * P := by
  obtain ⟨c, rfl⟩ := Int.eq_ofNat_of_zero_le h0
  obtain ⟨x, rfl⟩ := Int.eq_ofNat_of_zero_le hx0
  have e : P = ((2 ^ u : Nat) : Int) := by rw [hP, Int.natCast_pow]; rfl
  subst hP
  rw [e] at h1 hx1 ⊢
  rw [← Int.natCast_mul] at hx1 ⊢
  have h1' : c < 2 ^ u := Int.ofNat_lt.1 h1
  rw [bits_or_u64_nat _ _ (by omega) (by omega), ← Int.natCast_add]
  congr 1
  have := Nat.shiftLeft_add_eq_or_of_lt h1' x
  rw [Nat.shiftLeft_eq] at this
  rw [Nat.or_comm, ← this, Nat.add_comm]
/-- A limb, shifted: what stays, and what goes on. -/
theorem shl_parts (x P Q : Int) (hPQ : P * Q = 18446744073709551616) (hP : 0 < P) : (x * P) % 18446744073709551616 = x % Q * P ∧ x / Q = x * P / 18446744073709551616 := by
  rw [← hPQ, Int.mul_comm x P]
  constructor
  · rw [Int.mul_emod_mul_of_pos _ _ hP, Int.mul_comm]
  · rw [Int.mul_ediv_mul_of_pos _ _ hP]
theorem part_bd {x P Q c : Int} (hPQ : P * Q = 18446744073709551616) (hP : 0 < P) (h1 : c < P) : 0 < Q ∧ 0 ≤ x % Q ∧ x % Q * P + c < 18446744073709551616 := by
  have hQ : 0 < Q := by
    rcases Int.lt_trichotomy Q 0 with h | h | h
    · have := Int.mul_neg_of_pos_of_neg hP h; omega
    · subst h; simp at hPQ
    · exact h
  refine ⟨hQ, Int.emod_nonneg _ (by omega), ?_⟩
  have h2 := Int.emod_lt_of_pos x hQ
  have h3 := Int.mul_le_mul_of_nonneg_right (a := x % Q + 1) (b := Q) (c := P) (by omega) (by omega)
  rw [Int.add_mul, Int.mul_comm Q P] at h3
  omega
theorem pw2 (k : Nat) : pw k = 2 ^ (64 * k) := by unfold pw; rw [Int.pow_mul]; rfl
theorem vS_zeros (N n : Nat) : vS (List.replicate N 0) n = 0 := by
  induction n with
  | zero => rfl
  | succ n ih => simp only [vS]; rw [ih, lm_replicate]; omega
theorem shl_val {V X P Q C Z Y T pl p : Int} (hPQ : P * Q = 18446744073709551616) (hP : 0 < P) (hZ : Z = C + X % Q * P) (hY : Y = X / Q) (hT : T = pl * p) : V * (P * pl) + (Z - C) * T + (Y - 0) * (T * 18446744073709551616) = (V + X * p) * (P * pl) := by
  obtain ⟨e1, e2⟩ := shl_parts X P Q hPQ hP
  have e3 := mod_mul (X * P) T
  rw [e1, ← e2] at e3
  have e4 : X * P * T = X * p * (P * pl) := by rw [hT]; ac_rfl
  rw [hZ, hY, Int.add_mul, Int.sub_zero, show C + X % Q * P - C = X % Q * P by omega]
  omega
theorem shr_lt {X P Q : Int} (hPQ : P * Q = 18446744073709551616) (hP : 0 < P) (h1 : X < 18446744073709551616) : X / Q < P := by
  rw [(shl_parts X P Q hPQ hP).2]
  exact Int.ediv_lt_of_lt_mul (by decide) (by rw [Int.mul_comm P]; exact Int.mul_lt_mul_of_pos_right h1 hP)
set_option maxHeartbeats 1000000 in
theorem shiftUp_any (a : Option Addr) (na ca : Nat) (xs : List Int) (n low up : Nat) (w : World) (hna : na = xs.length) (hma : na ≤ 100000000000) (hn : n ≤ 100000) (hlow : low = n / 64) (hup : up = n % 64) (hr : Reads w a xs) (hx : AllW xs) :
    Calls Tryd.prog 63 #[.slice a na ca, .int .i64 n] w fun e w' => ∃ U, e = .returned (.slice (some ⟨w.heap.size, 0, none⟩) (low + na + 1) (low + na + 1)) ∧ Blk w' w.heap.size U ∧ U.length = low + na + 1 ∧ AllW U ∧ val U = val xs * 2 ^ n ∧ Below w.heap.size w w' := by
  obtain ⟨P, hP⟩ : ∃ P : Int, P = 2 ^ up := ⟨_, rfl⟩
  obtain ⟨Q, hQ⟩ : ∃ Q : Int, Q = 2 ^ (64 - up) := ⟨_, rfl⟩
  have T1 : (n : Int) % 64 = (up : Int) := by omega
  have D1 : (n : Int) / 64 = (low : Int) := by omega
  have hup' : up < 64 := by omega
  have HPQ : Hid (P * Q = 18446744073709551616) := by show _ = _; rw [hP, hQ, ← Int.pow_add, show up + (64 - up) = 64 by omega]; rfl
  have HP0 : Hid (0 < P) := by show 0 < P; rw [hP]; exact Int.pow_pos (by decide)
  have HPE : Hid (P = 2 ^ up) := hP
  have HQE : Hid (Q = 2 ^ (64 - up)) := hQ
  clear hP hQ
  have hlow' : low ≤ 2000 := by omega
  have Hna : Hid (na = xs.length) := hna
  obtain ⟨N, hN1, hN2⟩ : ∃ N, N ≤ low + na + 1 ∧ low + na + 1 ≤ N := ⟨_, Nat.le_refl _, Nat.le_refl _⟩
  clear hna hlow hup
  go_enter Tryd.func63, Tryd.ntmps63
  go_wp2_with (at_make; refine wpList_makeB _ rfl _ _ rfl _ _ N rfl rfl (by omega) (by omega) (by omega) ?_)
  intro wm hbm hbelm
  obtain ⟨G, hG⟩ : ∃ G, G = w.heap.size := ⟨_, rfl⟩
  have HG : Hid (G = w.heap.size) := hG
  rw [← hG] at hbm hbelm
  rw [← hG]
  clear hG
  go_wp2
  go_loopw [22] (fun s wr => ∃ (i : Nat) (U : List Int), i ≤ na ∧ s = .int .i64 i ∧ Blk wr G U ∧ U.length = N ∧ AllW U ∧ (∀ j, low + i < j → lm U j = 0) ∧ lm U (low + i) < P ∧ vS U N = vS xs i * (P * pw low) ∧ Below G w wr) (fun s _ => na - (intOf s).toNat)
  case atStart => exact ⟨0, _, Nat.zero_le _, rfl, hbm, by simp, fun x hx => by rw [List.eq_of_mem_replicate hx]; unfold Word; omega, fun j _ => lm_replicate _ _, by rw [lm_replicate]; exact HP0.out, by rw [vS_zeros]; simp [vS], hbelm⟩
  case round =>
    clear hbm hbelm
    obtain ⟨i, U, hi, rfl, hbr, hU, hUa, hz, hc, hV, hbel⟩ := hrel
    by_cases hlt : i < na
    · have hil : (i : Int) < (na : Int) := by omega
      obtain ⟨b1, o1, rfl, hc1⟩ := hr.at (by have := Hna.out; omega)
      have h1 := hc1 i (by have := Hna.out; omega)
      have hb1' : b1 < G := by rw [HG.out]; simpa using World.block_lt_of_cell? _ _ h1
      have hcx : wr.cell? ⟨b1, o1 + i, none⟩ = some (.int .u64 (lm xs i)) := by rw [hbel.cell (p := ⟨b1, o1 + i, none⟩) (by exact hb1')]; exact h1
      have hcu := hbr.cell (i := low + i) (by omega)
      have hfu := hbr.frozen (low + i)
      have hik : (low : Int) + (i : Int) < (N : Int) := by omega
      have hik1 : (low : Int) + (i : Int) + 1 < (N : Int) := by omega
      clear hc1 h1 hr
      obtain ⟨Z, hZ⟩ : ∃ Z, Z = lm U (low + i) + lm xs i % Q * P := ⟨_, rfl⟩
      have HZE : Hid (Z = lm U (low + i) + lm xs i % Q * P) := hZ
      have EZ : bits BinOp.or IntKind.u64 (lm U (low + i)) (IntKind.u64.wrap (lm xs i * 2 ^ up)) = Z := by
        rw [IntKind.wrap_u64, ← HPE.out, (shl_parts (lm xs i) P Q HPQ.out HP0.out).1, hZ]
        obtain ⟨_, p1, p2⟩ := part_bd (x := lm xs i) HPQ.out HP0.out hc
        exact or_add HPE.out (hUa.at (low + i)).1 hc p1 p2
      have HZW : Hid (Word Z) := by
        show Word Z
        rw [hZ]
        obtain ⟨_, p1, p2⟩ := part_bd (x := lm xs i) HPQ.out HP0.out hc
        have p3 := Int.mul_nonneg p1 (Int.le_of_lt HP0.out)
        have := (hUa.at (low + i)).1
        exact ⟨by omega, by omega⟩
      have x0 := (hx.at i).1
      clear hZ
      have hcu1 := hbr.cell (i := low + i + 1) (by omega)
      have hfu1 := hbr.frozen (low + i + 1)
      have HBr : Hid (Blk wr G U) := hbr
      have HBl : Hid (Below G w wr) := hbel
      have HUa : Hid (AllW U) := hUa
      have HZ : Hid (∀ j, low + i < j → lm U j = 0) := hz
      have HV : Hid (vS U N = vS xs i * (P * pw low)) := hV
      have HU : Hid (U.length = N) := hU
      clear hbr hbel hUa hz hV hU
      go_wp2
      go_region
      have HB1 : Blk ((wr.setCell ⟨G, low + i, none⟩ (.int .u64 Z)).drew) G (U.set (low + i) Z) := HBr.out.set (low + i) Z
      have HL1 : Below G w ((wr.setCell ⟨G, low + i, none⟩ (.int .u64 Z)).drew) := (HBl.out.setCell (p := ⟨G, low + i, none⟩) (Nat.le_refl _) _).drew
      clear hcu hfu hcx EZ HBr HBl hcu1 hfu1
      generalize (wr.setCell ⟨G, low + i, none⟩ (.int .u64 Z)).drew = W1 at *
      have hcu1 := HB1.cell (i := low + i + 1) (by rw [List.length_set, HU.out]; omega)
      have hfu1 := HB1.frozen (low + i + 1)
      have HBr : Hid (Blk W1 G (U.set (low + i) Z)) := HB1
      have HBl : Hid (Below G w W1) := HL1
      clear HB1 HL1
      have hup2 : (0 : Int) ≤ 64 - (up : Int) := by omega
      have ES : lm xs i / 2 ^ (64 - up) = lm xs i / Q := by rw [HQE.out]
      obtain ⟨Y, hY⟩ : ∃ Y, Y = lm xs i / Q := ⟨_, rfl⟩
      rw [← hY] at ES
      have HYE : Hid (Y = lm xs i / Q) := hY
      have x1 := (hx.at i).2
      have HYP : Hid (Y < P) := by show Y < P; rw [hY]; exact shr_lt HPQ.out HP0.out x1
      have HYW : Hid (Word Y) := by
        show Word Y
        rw [hY]
        have hQ0 := (part_bd (x := 0) HPQ.out HP0.out HP0.out).1
        exact ⟨Int.ediv_nonneg x0 (by omega), Int.lt_of_le_of_lt (Int.ediv_le_self _ x0) x1⟩
      have HLEN : Hid (((U.set (low + i) Z).set (low + i + 1) Y).length = N) := by show _ = _; simp [HU.out]
      have HVAL : Hid (vS ((U.set (low + i) Z).set (low + i + 1) Y) N = vS xs (i + 1) * (P * pw low)) := by
        show _ = _
        rw [vS_set _ (by omega) (by rw [List.length_set, HU.out]; omega), vS_set _ (by omega) (by rw [HU.out]; omega), HV.out, lm_set, if_neg (by omega), HZ.out (low + i + 1) (by omega), pw_succ]
        exact shl_val HPQ.out HP0.out HZE.out HYE.out (pw_add low i)
      have HZZ : Hid (∀ j, low + (i + 1) < j → lm ((U.set (low + i) Z).set (low + i + 1) Y) j = 0) := fun j hj => by
        rw [lm_set, if_neg (by omega), lm_set, if_neg (by omega)]; exact HZ.out j (by omega)
      have HCC : Hid (lm ((U.set (low + i) Z).set (low + i + 1) Y) (low + (i + 1)) < P) := by
        show _ < _
        rw [show low + (i + 1) = low + i + 1 by omega, lm_set, if_pos ⟨rfl, by rw [List.length_set, HU.out]; omega⟩]; exact HYP.out
      have HAA : Hid (AllW ((U.set (low + i) Z).set (low + i + 1) Y)) := (HUa.out.set _ _ HZW.out).set _ _ HYW.out
      have HB2 := HBr.out.set (low + i + 1) Y
      have HL2 := HBl.out.setCell (p := ⟨G, low + i + 1, none⟩) (Nat.le_refl _) (.int .u64 Y)
      clear hY hc
      go_wp2
      go_roundw
      case rel => exact ⟨i + 1, _, by omega, by go_num, HB2, HLEN.out, HAA.out, HZZ.out, HCC.out, HVAL.out, HL2⟩
      case measure => simp [intOf]; omega
    · obtain rfl : i = na := by omega
      have hil : ¬ (i : Int) < (i : Int) := by omega
      have hNN : N = low + i + 1 := by omega
      have HE : Hid (val U = val xs * 2 ^ n) := by
        show vS U U.length = _
        rw [hU, hV, vS_long (us := xs) (by have := Hna.out; omega), HPE.out, pw2, ← Int.pow_add, show up + 64 * low = n by omega]
      have HNN : Hid (N = low + i + 1) := hNN
      have HGG := HG.out
      subst HGG
      have HUL : Hid (U.length = low + i + 1) := hU.trans hNN
      clear hNN hU
      go_wp2
      go_ret
      exact ⟨by rw [HNN.out]; rfl, U, hbr, HUL.out, hUa, HE.out, hbel⟩
end Go.Proofs.YtogdpgfccbohnaaDoor

import Derived.Test.YtfelogbfijomiabGreatDoorNum
import Derived.Laws.Bits64b
namespace Go.Proofs.YtfelogbfijomiabGreatDoor
open Go.RowKit

theorem or_add {c x P : Int} {u : Nat} (hP : P = 2 ^ u) (h0 : 0 ≤ c) (h1 : c < P) (hx0 : 0 ≤ x) (hx1 : x * P + c < 18446744073709551616) : bits BinOp.or IntKind.u64 c (x * P) = c + x * P := by
  obtain ⟨c, rfl⟩ := Int.eq_ofNat_of_zero_le h0
  obtain ⟨x, rfl⟩ := Int.eq_ofNat_of_zero_le hx0
  have e : P = ((2 ^ u : Nat) : Int) := by rw [hP, Int.natCast_pow]; rfl
  subst hP
  rw [e] at h1 hx1 ⊢
  rw [← Int.natCast_mul] at hx1 ⊢
  have h1' : c < 2 ^ u := Int.ofNat_lt.1 h1
  rw [bits_or_u64_nat _ _ (by omega) (by omega), ← Int.natCast_add]
  congr 1
  have := Nat.shiftLeft_add_eq_or_of_lt h1' x
  rw [Nat.shiftLeft_eq] at this
  rw [Nat.or_comm, ← this, Nat.add_comm]
/-- A limb, shifted: what stays, and what goes on. -/
theorem shl_parts (x P Q : Int) (hPQ : P * Q = 18446744073709551616) (hP : 0 < P) : (x * P) % 18446744073709551616 = x % Q * P ∧ x / Q = x * P / 18446744073709551616 := by
  rw [← hPQ, Int.mul_comm x P]
  constructor
  · rw [Int.mul_emod_mul_of_pos _ _ hP, Int.mul_comm]
  · rw [Int.mul_ediv_mul_of_pos _ _ hP]
theorem part_bd {x P Q c : Int} (hPQ : P * Q = 18446744073709551616) (hP : 0 < P) (h1 : c < P) : 0 < Q ∧ 0 ≤ x % Q ∧ x % Q * P + c < 18446744073709551616 := by
  have hQ : 0 < Q := by
    rcases Int.lt_trichotomy Q 0 with h | h | h
    · have := Int.mul_neg_of_pos_of_neg hP h; omega
    · subst h; simp at hPQ
    · exact h
  refine ⟨hQ, Int.emod_nonneg _ (by omega), ?_⟩
  have h2 := Int.emod_lt_of_pos x hQ
  have h3 := Int.mul_le_mul_of_nonneg_right (a := x % Q + 1) (b := Q) (c := P) (by omega) (by omega)
  rw [Int.add_mul, Int.mul_comm Q P] at h3
  omega
theorem pw2 (k : Nat) : pw k = 2 ^ (64 * k) := by unfold pw; rw [Int.pow_mul]; rfl
theorem vS_zeros (N n : Nat) : vS (List.replicate N 0) n = 0 := by
  induction n with
  | zero => rfl
  | succ n ih => simp only [vS]; rw [ih, lm_replicate]; omega
theorem shl_val {V X P Q C Z Y T pl p : Int} (hPQ : P * Q = 18446744073709551616) (hP : 0 < P) (hZ : Z = C + X % Q * P) (hY : Y = X / Q) (hT : T = pl * p) : V * (P * pl) + (Z - C) * T + (Y - 0) * (T * 18446744073709551616) = (V + X * p) * (P * pl) := by
  obtain ⟨e1, e2⟩ := shl_parts X P Q hPQ hP
  have e3 := mod_mul (X * P) T
  rw [e1, ← e2] at e3
  have e4 : X * P * T = X * p * (P * pl) := by rw [hT]; ac_rfl
  rw [hZ, hY, Int.add_mul, Int.sub_zero, show C + X % Q * P - C = X % Q * P by omega]
  omega
theorem shr_lt {X P Q : Int} (hPQ : P * Q = 18446744073709551616) (hP : 0 < P) (h1 : X < 18446744073709551616) : X / Q < P := by
  rw [(shl_parts X P Q hPQ hP).2]
  exact Int.ediv_lt_of_lt_mul (by decide) (by rw [Int.mul_comm P]; exact Int.mul_lt_mul_of_pos_right h1 hP)
set_option maxHeartbeats 1000000 in
theorem shiftUp_any (a : Option Addr) (na ca : Nat) (xs : List Int) (n low up : Nat) (w : World) (hna : na = xs.length) (hma : na ≤ 100000000000) (hn : n ≤ 100000000000) (hlow : low = n / 64) (hup : up = n % 64) (hr : Reads w a xs) (hx : AllW xs) :
    Calls Tryz.prog 124 #[.slice a na ca, .int .i64 n] w fun e w' => ∃ U, e = .returned (.slice (some ⟨w.heap.size, 0, none⟩) (low + na + 1) (low + na + 1)) ∧ Blk w' w.heap.size U ∧ U.length = low + na + 1 ∧ AllW U ∧ val U = val xs * 2 ^ n ∧ Below w.heap.size w w' := by
  obtain ⟨P, hP⟩ : ∃ P : Int, P = 2 ^ up := ⟨_, rfl⟩
  obtain ⟨Q, hQ⟩ : ∃ Q : Int, Q = 2 ^ (64 - up) := ⟨_, rfl⟩
  have T1 : (n : Int) % 64 = (up : Int) := by omega
  have D1 : (n : Int) / 64 = (low : Int) := by omega
  have hup' : up < 64 := by omega
  have HPQ : Hid (P * Q = 18446744073709551616) := by show _ = _; rw [hP, hQ, ← Int.pow_add, show up + (64 - up) = 64 by omega]; rfl
  have HP0 : Hid (0 < P) := by show 0 < P; rw [hP]; exact Int.pow_pos (by decide)
  have HPE : Hid (P = 2 ^ up) := hP
  have HQE : Hid (Q = 2 ^ (64 - up)) := hQ
  clear hP hQ
  have hlow' : low ≤ 2000000000 := by omega
  have Hna : Hid (na = xs.length) := hna
  obtain ⟨N, hN1, hN2⟩ : ∃ N, N ≤ low + na + 1 ∧ low + na + 1 ≤ N := ⟨_, Nat.le_refl _, Nat.le_refl _⟩
  clear hna hlow hup
  go_enter Tryz.func124, Tryz.ntmps124
  go_wp2_with (at_make; refine wpList_makeB _ rfl _ _ rfl _ _ N rfl rfl (by omega) (by omega) (by omega) ?_)
  intro wm hbm hbelm
  obtain ⟨G, hG⟩ : ∃ G, G = w.heap.size := ⟨_, rfl⟩
  have HG : Hid (G = w.heap.size) := hG
  rw [← hG] at hbm hbelm
  rw [← hG]
  clear hG
  go_wp2
  go_loopw [22] (fun s wr => ∃ (i : Nat) (U : List Int), i ≤ na ∧ s = .int .i64 i ∧ Blk wr G U ∧ U.length = N ∧ AllW U ∧ (∀ j, low + i < j → lm U j = 0) ∧ lm U (low + i) < P ∧ vS U N = vS xs i * (P * pw low) ∧ Below G w wr) (fun s _ => na - (intOf s).toNat)
  case atStart => exact ⟨0, _, Nat.zero_le _, rfl, hbm, by simp, fun x hx => by rw [List.eq_of_mem_replicate hx]; unfold Word; omega, fun j _ => lm_replicate _ _, by rw [lm_replicate]; exact HP0.out, by rw [vS_zeros]; simp [vS], hbelm⟩
  case round =>
    clear hbm hbelm
    obtain ⟨i, U, hi, rfl, hbr, hU, hUa, hz, hc, hV, hbel⟩ := hrel
    by_cases hlt : i < na
    · have hil : (i : Int) < (na : Int) := by omega
      obtain ⟨b1, o1, rfl, hc1⟩ := hr.at (by have := Hna.out; omega)
      have h1 := hc1 i (by have := Hna.out; omega)
      have hb1' : b1 < G := by rw [HG.out]; simpa using World.block_lt_of_cell? _ _ h1
      have hcx : wr.cell? ⟨b1, o1 + i, none⟩ = some (.int .u64 (lm xs i)) := by rw [hbel.cell (p := ⟨b1, o1 + i, none⟩) (by exact hb1')]; exact h1
      have hcu := hbr.cell (i := low + i) (by omega)
      have hfu := hbr.frozen (low + i)
      have hik : (low : Int) + (i : Int) < (N : Int) := by omega
      have hik1 : (low : Int) + (i : Int) + 1 < (N : Int) := by omega
      clear hc1 h1 hr
      obtain ⟨Z, hZ⟩ : ∃ Z, Z = lm U (low + i) + lm xs i % Q * P := ⟨_, rfl⟩
      have HZE : Hid (Z = lm U (low + i) + lm xs i % Q * P) := hZ
      have EZ : bits BinOp.or IntKind.u64 (lm U (low + i)) (IntKind.u64.wrap (lm xs i * 2 ^ up)) = Z := by
        rw [IntKind.wrap_u64, ← HPE.out, (shl_parts (lm xs i) P Q HPQ.out HP0.out).1, hZ]
        obtain ⟨_, p1, p2⟩ := part_bd (x := lm xs i) HPQ.out HP0.out hc
        exact or_add HPE.out (hUa.at (low + i)).1 hc p1 p2
      have HZW : Hid (Word Z) := by
        show Word Z
        rw [hZ]
        obtain ⟨_, p1, p2⟩ := part_bd (x := lm xs i) HPQ.out HP0.out hc
        have p3 := Int.mul_nonneg p1 (Int.le_of_lt HP0.out)
        have := (hUa.at (low + i)).1
        exact ⟨by omega, by omega⟩
      have x0 := (hx.at i).1
      clear hZ
      have hcu1 := hbr.cell (i := low + i + 1) (by omega)
      have hfu1 := hbr.frozen (low + i + 1)
      have HBr : Hid (Blk wr G U) := hbr
      have HBl : Hid (Below G w wr) := hbel
      have HUa : Hid (AllW U) := hUa
      have HZ : Hid (∀ j, low + i < j → lm U j = 0) := hz
      have HV : Hid (vS U N = vS xs i * (P * pw low)) := hV
      have HU : Hid (U.length = N) := hU
      clear hbr hbel hUa hz hV hU
      go_wp2
      go_region
      have HB1 : Blk ((wr.setCell ⟨G, low + i, none⟩ (.int .u64 Z)).drew) G (U.set (low + i) Z) := HBr.out.set (low + i) Z
      have HL1 : Below G w ((wr.setCell ⟨G, low + i, none⟩ (.int .u64 Z)).drew) := (HBl.out.setCell (p := ⟨G, low + i, none⟩) (Nat.le_refl _) _).drew
      clear hcu hfu hcx EZ HBr HBl hcu1 hfu1
      generalize (wr.setCell ⟨G, low + i, none⟩ (.int .u64 Z)).drew = W1 at *
      have hcu1 := HB1.cell (i := low + i + 1) (by rw [List.length_set, HU.out]; omega)
      have hfu1 := HB1.frozen (low + i + 1)
      have HBr : Hid (Blk W1 G (U.set (low + i) Z)) := HB1
      have HBl : Hid (Below G w W1) := HL1
      clear HB1 HL1
      have hup2 : (0 : Int) ≤ 64 - (up : Int) := by omega
      have ES : lm xs i / 2 ^ (64 - up) = lm xs i / Q := by rw [HQE.out]
      obtain ⟨Y, hY⟩ : ∃ Y, Y = lm xs i / Q := ⟨_, rfl⟩
      rw [← hY] at ES
      have HYE : Hid (Y = lm xs i / Q) := hY
      have x1 := (hx.at i).2
      have HYP : Hid (Y < P) := by show Y < P; rw [hY]; exact shr_lt HPQ.out HP0.out x1
      have HYW : Hid (Word Y) := by
        show Word Y
        rw [hY]
        have hQ0 := (part_bd (x := 0) HPQ.out HP0.out HP0.out).1
        exact ⟨Int.ediv_nonneg x0 (by omega), Int.lt_of_le_of_lt (Int.ediv_le_self _ x0) x1⟩
      have HLEN : Hid (((U.set (low + i) Z).set (low + i + 1) Y).length = N) := by show _ = _; simp [HU.out]
      have HVAL : Hid (vS ((U.set (low + i) Z).set (low + i + 1) Y) N = vS xs (i + 1) * (P * pw low)) := by
        show _ = _
        rw [vS_set _ (by omega) (by rw [List.length_set, HU.out]; omega), vS_set _ (by omega) (by rw [HU.out]; omega), HV.out, lm_set, if_neg (by omega), HZ.out (low + i + 1) (by omega), pw_succ]
        exact shl_val HPQ.out HP0.out HZE.out HYE.out (pw_add low i)
      have HZZ : Hid (∀ j, low + (i + 1) < j → lm ((U.set (low + i) Z).set (low + i + 1) Y) j = 0) := fun j hj => by
        rw [lm_set, if_neg (by omega), lm_set, if_neg (by omega)]; exact HZ.out j (by omega)
      have HCC : Hid (lm ((U.set (low + i) Z).set (low + i + 1) Y) (low + (i + 1)) < P) := by
        show _ < _
        rw [show low + (i + 1) = low + i + 1 by omega, lm_set, if_pos ⟨rfl, by rw [List.length_set, HU.out]; omega⟩]; exact HYP.out
      have HAA : Hid (AllW ((U.set (low + i) Z).set (low + i + 1) Y)) := (HUa.out.set _ _ HZW.out).set _ _ HYW.out
      have HB2 := HBr.out.set (low + i + 1) Y
      have HL2 := HBl.out.setCell (p := ⟨G, low + i + 1, none⟩) (Nat.le_refl _) (.int .u64 Y)
      clear hY hc
      go_wp2
      go_roundw
      case rel => exact ⟨i + 1, _, by omega, by go_num, HB2, HLEN.out, HAA.out, HZZ.out, HCC.out, HVAL.out, HL2⟩
      case measure => simp [intOf]; omega
    · obtain rfl : i = na := by omega
      have hil : ¬ (i : Int) < (i : Int) := by omega
      have hNN : N = low + i + 1 := by omega
      have HE : Hid (val U = val xs * 2 ^ n) := by
        show vS U U.length = _
        rw [hU, hV, vS_long (us := xs) (by have := Hna.out; omega), HPE.out, pw2, ← Int.pow_add, show up + 64 * low = n by omega]
      have HNN : Hid (N = low + i + 1) := hNN
      have HGG := HG.out
      subst HGG
      have HUL : Hid (U.length = low + i + 1) := hU.trans hNN
      clear hNN hU
      go_wp2
      go_ret
      exact ⟨by rw [HNN.out]; rfl, U, hbr, HUL.out, hUa, HE.out, hbel⟩

/-- The limb j of xs, shifted down: P times Q is the limbs' base. -/
def sdl (xs : List Int) (P Q : Int) (j : Nat) : Int := lm xs j / P + lm xs (j + 1) % P * Q
theorem sdl_or {xs : List Int} {P Q : Int} {n : Nat} (hx : AllW xs) (hPQ : P * Q = 18446744073709551616) (hP : 0 < P) (hQ : Q = 2 ^ (64 - n)) (j : Nat) :
    Word (sdl xs P Q j) ∧ bits BinOp.or IntKind.u64 (lm xs j / P) (lm xs (j + 1) * Q % 18446744073709551616) = sdl xs P Q j := by
  have hQP : Q * P = 18446744073709551616 := by rw [Int.mul_comm]; exact hPQ
  have hQ0 : 0 < Q := by rw [hQ]; exact Int.pow_pos (by decide)
  have hlt := shr_lt (X := lm xs j) hQP hQ0 (hx.at j).2
  have h0 : 0 ≤ lm xs j / P := Int.ediv_nonneg (hx.at j).1 (by omega)
  obtain ⟨_, p1, p2⟩ := part_bd (x := lm xs (j + 1)) hQP hQ0 hlt
  have p3 := Int.mul_nonneg p1 (Int.le_of_lt hQ0)
  refine ⟨⟨?_, ?_⟩, ?_⟩
  · unfold sdl; omega
  · unfold sdl; omega
  · rw [(shl_parts (lm xs (j + 1)) Q P hQP hQ0).1]
    exact or_add hQ h0 hlt p1 p2
theorem sdl_last {xs : List Int} {P Q : Int} (j : Nat) (h : xs.length ≤ j + 1) : sdl xs P Q j = lm xs j / P := by
  unfold sdl; rw [lm_ge h]; simp
theorem sdl_vS {xs ys : List Int} {P Q : Int} (hPQ : P * Q = 18446744073709551616) (k : Nat) (h : ∀ j, j < k → lm ys j = sdl xs P Q j) : vS ys k * P + lm xs 0 % P = vS xs k + lm xs k % P * pw k := by
  induction k with
  | zero => simp [vS, pw]
  | succ k ih =>
    have ih := ih (fun j hj => h j (by omega))
    simp only [vS]
    rw [h k (by omega), pw_succ, Int.add_mul]
    have e1 : sdl xs P Q k * pw k * P = (lm xs k - lm xs k % P) * pw k + lm xs (k + 1) % P * (pw k * 18446744073709551616) := by
      unfold sdl
      have e2 := Int.mul_ediv_add_emod (lm xs k) P
      have e3 : (lm xs k / P + lm xs (k + 1) % P * Q) * pw k * P = (P * (lm xs k / P)) * pw k + lm xs (k + 1) % P * (pw k * (P * Q)) := by
        rw [Int.add_mul, Int.add_mul]
        congr 1 <;> ac_rfl
      rw [e3, hPQ]
      congr 2
      omega
    rw [e1, Int.sub_mul]
    omega
theorem sdl_val {xs ys : List Int} {P Q : Int} (hPQ : P * Q = 18446744073709551616) (hP : 0 < P) (hl : ys.length = xs.length) (h : ∀ j, j < xs.length → lm ys j = sdl xs P Q j) : val ys = val xs / P := by
  have e := sdl_vS hPQ xs.length h
  rw [lm_ge (Nat.le_refl _)] at e
  have h1 : vS ys xs.length = val ys := by unfold val; rw [hl]
  have h2 : vS xs xs.length = val xs := rfl
  rw [h1, h2] at e
  have h3 := Int.emod_lt_of_pos (lm xs 0) hP
  have h4 := Int.emod_nonneg (lm xs 0) (by omega : P ≠ 0)
  simp at e
  rw [← e, Int.add_comm, Int.add_mul_ediv_right _ _ (by omega), Int.ediv_eq_zero_of_lt h4 h3]
  omega

/-- What 'shiftDown' leaves of the words us where it worked on m of them, from o on. -/
def SDown (us : List Int) (o m : Nat) (P Q : Int) (k : Nat) (U : List Int) : Prop := U.length = us.length ∧ (∀ i, i < o ∨ o + k ≤ i → lm U i = lm us i) ∧ ∀ j, j < k → lm U (o + j) = sdl ((us.drop o).take m) P Q j

set_option maxRecDepth 100000 in
set_option maxHeartbeats 1000000 in
theorem shiftDown_any (g o m cap n : Nat) (us : List Int) (w : World) (hb : Blk w g us) (hu : AllW us) (hl : o + m ≤ us.length) (hm : us.length ≤ 100000000000) (hc : m ≤ cap) (hn : n < 64) (P Q : Int) (hP : P = 2 ^ n) (hQ : Q = 2 ^ (64 - n)) :
    Calls Tryz.prog 133 #[.slice (some ⟨g, o, none⟩) m cap, .int .i64 n] w fun e w' => e = .returned (.tuple #[]) ∧ ∃ U, Blk w' g U ∧ SDown us o m P Q m U ∧ Off g w w' := by
  obtain ⟨xs, hxs⟩ : ∃ xs, (us.drop o).take m = xs := ⟨_, rfl⟩
  have HXS : Hid ((us.drop o).take m = xs) := hxs
  have hxl : xs.length = m := by rw [← hxs]; simp; omega
  have HXL : Hid (xs.length = m) := hxl
  have hxw : AllW xs := by rw [← hxs]; exact (fun x hx => hu x (List.mem_of_mem_drop (List.mem_of_mem_take hx)))
  have hlx : ∀ j, j < m → lm us (o + j) = lm xs j := fun j hj => by rw [← hxs, lm_take hj, lm_drop]
  have HLX : Hid (∀ j, j < m → lm us (o + j) = lm xs j) := hlx
  have HXW : Hid (AllW xs) := hxw
  have HPQ : Hid (P * Q = 18446744073709551616) := by show _ = _; rw [hP, hQ, ← Int.pow_add, show n + (64 - n) = 64 by omega]; rfl
  have HP0 : Hid (0 < P) := by show 0 < P; rw [hP]; exact Int.pow_pos (by decide)
  have HPE : Hid (P = 2 ^ n) := hP
  have HQE : Hid (Q = 2 ^ (64 - n)) := hQ
  have hn2 : (0 : Int) ≤ 64 - (n : Int) := by omega
  obtain ⟨N, hN⟩ : ∃ N, us.length = N := ⟨_, rfl⟩
  have HN : Hid (us.length = N) := hN
  rw [hN] at hl hm
  clear hxs hxl hxw hlx hP hQ hu hN
  go_enter Tryz.func133, Tryz.ntmps133
  go_wp2
  go_loopw [7] (fun t wr => ∃ (k : Nat) (U : List Int), k ≤ m ∧ t = .int .i64 k ∧ Blk wr g U ∧ SDown us o m P Q k U ∧ Off g w wr) (fun t _ => m - (intOf t).toNat)
  case atStart => exact ⟨0, us, Nat.zero_le _, rfl, hb, ⟨rfl, fun _ _ => rfl, fun j hj => by omega⟩, Off.refl _ _⟩
  case round =>
    clear hb
    obtain ⟨k, U, hk, rfl, hbr, hS, hoff⟩ := hrel
    have HS : Hid (SDown us o m P Q k U) := hS
    clear hS
    by_cases hlt : k < m
    · have hkm : (k : Int) < (m : Int) := by omega
      have hcu := hbr.cell (i := o + k) (by rw [HS.out.1, HN.out]; omega)
      rw [HS.out.2.1 (o + k) (.inr (Nat.le_refl _)), HLX.out k hlt] at hcu
      have hfu := hbr.frozen (o + k)
      obtain ⟨x0, x1⟩ := HXW.out.at k
      have hsd := sdl_or HXW.out HPQ.out HP0.out HQE.out k
      obtain ⟨A, hA⟩ : ∃ A, lm xs k / P = A := ⟨_, rfl⟩
      have ES : lm xs k / 2 ^ n = A := by rw [← HPE.out]; exact hA
      have HB1 := hbr.set (o + k) A
      have HO1 := hoff.set (o + k) (.int .u64 A)
      have HSA : Hid (lm xs k / P = A) := hA
      have HSO : Hid (bits BinOp.or IntKind.u64 A (lm xs (k + 1) * Q % 18446744073709551616) = sdl xs P Q k) := by show _ = _; rw [← hA]; exact hsd.2
      clear hA hsd hbr hoff
      obtain ⟨X, hX⟩ : ∃ X, lm xs k = X := ⟨_, rfl⟩
      have HXK : Hid (lm xs k = X) := hX
      rw [hX] at hcu x0 x1 ES HSA
      clear hX
      by_cases hlt2 : k + 1 < m
      · have hkm2 : (k : Int) + 1 < (m : Int) := by omega
        have hcu2 := HB1.cell (i := o + (k + 1)) (by rw [List.length_set, HS.out.1, HN.out]; omega)
        rw [lm_set, if_neg (by omega), HS.out.2.1 (o + (k + 1)) (.inr (by omega)), HLX.out (k + 1) hlt2] at hcu2
        have hcu3 := HB1.cell (i := o + k) (by rw [List.length_set, HS.out.1, HN.out]; omega)
        rw [lm_set, if_pos ⟨rfl, by rw [HS.out.1, HN.out]; omega⟩] at hcu3
        have hfu2 := HB1.frozen (o + k)
        obtain ⟨y0, y1⟩ := HXW.out.at (k + 1)
        obtain ⟨Z, hZ⟩ : ∃ Z, sdl xs P Q k = Z := ⟨_, rfl⟩
        have HZ : Hid (sdl xs P Q k = Z) := hZ
        have EZ : bits BinOp.or IntKind.u64 A (IntKind.u64.wrap (lm xs (k + 1) * 2 ^ (64 - n))) = Z := by rw [IntKind.wrap_u64, ← HQE.out, HSO.out, hZ]
        have HB2 := HB1.set (o + k) Z
        have HO2 := HO1.set (o + k) (.int .u64 Z)
        have HS2 : Hid (SDown us o m P Q (k + 1) ((U.set (o + k) A).set (o + k) Z)) := by
          obtain ⟨s1, s2, s3⟩ := HS.out
          refine ⟨by simp [s1], fun i hi => ?_, fun j hj => ?_⟩
          · rw [lm_set, if_neg (by omega), lm_set, if_neg (by omega)]; exact s2 i (by omega)
          · rw [HXS.out]
            rcases Nat.lt_or_ge j k with h | h
            · rw [lm_set, if_neg (by omega), lm_set, if_neg (by omega), s3 j h, HXS.out]
            · rw [show j = k by omega, lm_set, if_pos ⟨rfl, by rw [List.length_set, s1, HN.out]; omega⟩, HZ.out]
        clear hZ HB1 HO1
        generalize lm xs (k + 1) = Y at *
        go_wp2
        go_region
        go_wp2
        go_roundw
        case rel => exact ⟨k + 1, _, by omega, by go_num, HB2.drew, HS2.out, HO2.drew⟩
        case measure => simp [intOf]; omega
      · have hkm2 : ¬ (k : Int) + 1 < (m : Int) := by omega
        have HS2 : Hid (SDown us o m P Q (k + 1) (U.set (o + k) A)) := by
          obtain ⟨s1, s2, s3⟩ := HS.out
          refine ⟨by simp [s1], fun i hi => ?_, fun j hj => ?_⟩
          · rw [lm_set, if_neg (by omega)]; exact s2 i (by omega)
          · rw [HXS.out]
            rcases Nat.lt_or_ge j k with h | h
            · rw [lm_set, if_neg (by omega), s3 j h, HXS.out]
            · rw [show j = k by omega, lm_set, if_pos ⟨rfl, by rw [s1, HN.out]; omega⟩, sdl_last k (by rw [HXL.out]; omega), HXK.out, HSA.out]
        clear HSO HXK
        go_wp2
        go_roundw
        case rel => exact ⟨k + 1, _, by omega, by go_num, HB1, HS2.out, HO1⟩
        case measure => simp [intOf]; omega
    · have hkm : ¬ (k : Int) < (m : Int) := by omega
      obtain rfl : k = m := by omega
      go_wp2
      go_end0
      exact ⟨rfl, U, hbr, HS.out, hoff⟩

/-- takeTimes, so many rounds of it: the block, and what is borrowed. -/
def tkR (us : List Int) (o : Nat) (ys : List Int) (l : Int) : Nat → List Int × Int
  | 0 => (us, 0)
  | k + 1 => ((tkR us o ys l k).1.set (o + k) ((lm (tkR us o ys l k).1 (o + k) - (lm ys k * l + (tkR us o ys l k).2) % 18446744073709551616) % 18446744073709551616), (lm ys k * l + (tkR us o ys l k).2) / 18446744073709551616 + bor (lm (tkR us o ys l k).1 (o + k)) ((lm ys k * l + (tkR us o ys l k).2) % 18446744073709551616))
theorem tk_bd {x p c : Int} (p0 : 0 ≤ p) (p1 : p ≤ 340282366920938463426481119284349108225) (c0 : 0 ≤ c) (c1 : c < 18446744073709551616) (x0 : 0 ≤ x) : 0 ≤ (p + c) / 18446744073709551616 + bor x ((p + c) % 18446744073709551616) ∧ (p + c) / 18446744073709551616 + bor x ((p + c) % 18446744073709551616) < 18446744073709551616 := by
  unfold bor
  split <;> omega
theorem tkR_ok {us ys : List Int} (o : Nat) {l : Int} (hu : AllW us) (hy : AllW ys) (hl : Word l) (k : Nat) : AllW (tkR us o ys l k).1 ∧ (tkR us o ys l k).1.length = us.length ∧ 0 ≤ (tkR us o ys l k).2 ∧ (tkR us o ys l k).2 < 18446744073709551616 := by
  induction k with
  | zero => simp [tkR, hu]
  | succ k ih =>
    obtain ⟨h1, h2, h3, h4⟩ := ih
    have a := h1.at (o + k)
    have b := hy.at k
    have c := mul_bd b.1 b.2 hl.1 hl.2
    have d := tk_bd c.1 c.2 h3 h4 a.1
    exact ⟨h1.set _ _ (word_mod _), by simp [tkR, h2], d.1, d.2⟩
theorem tkR_val {us ys : List Int} (o : Nat) {l : Int} (hu : AllW us) (hy : AllW ys) (hl : Word l) (k N : Nat) (h : o + k ≤ N) (hll : o + k ≤ us.length) : vS (tkR us o ys l k).1 N - (tkR us o ys l k).2 * pw (o + k) = vS us N - pw o * (vS ys k * l) := by
  induction k with
  | zero => simp [tkR, vS]
  | succ k ih =>
    have ih := ih (by omega) (by omega)
    obtain ⟨h1, h2, h3, h4⟩ := tkR_ok o hu hy hl k
    simp only [tkR, vS]
    generalize (tkR us o ys l k).1 = U at *
    generalize (tkR us o ys l k).2 = C at *
    rw [vS_set _ (by omega) (by omega), show o + (k + 1) = (o + k) + 1 by omega, pw_succ, Int.add_mul (vS ys k), Int.mul_add]
    have e2 : pw o * (lm ys k * pw k * l) = lm ys k * l * pw (o + k) := by
      rw [pw_add, Int.mul_right_comm (lm ys k), Int.mul_left_comm]
    rw [e2, Int.sub_mul]
    have a := h1.at (o + k)
    have e3 := bor_mul (lm U (o + k)) ((lm ys k * l + C) % 18446744073709551616) (pw (o + k)) a.1 a.2 (by omega) (by omega)
    have e1 := mod_mul (lm ys k * l + C) (pw (o + k))
    rw [Int.sub_mul] at e3
    rw [Int.add_mul (lm ys k * l) C] at e1
    rw [Int.add_mul ((lm ys k * l + C) / 18446744073709551616)]
    generalize (lm U (o + k) - (lm ys k * l + C) % 18446744073709551616) % 18446744073709551616 * pw (o + k) = A at *
    generalize (lm ys k * l + C) % 18446744073709551616 * pw (o + k) = D at *
    generalize (lm ys k * l + C) / 18446744073709551616 * (pw (o + k) * 18446744073709551616) = E at *
    generalize bor (lm U (o + k)) ((lm ys k * l + C) % 18446744073709551616) * (pw (o + k) * 18446744073709551616) = F at *
    omega
theorem tkR_far {us ys : List Int} (o : Nat) (l : Int) (k i : Nat) (h : i < o ∨ o + k ≤ i) : lm (tkR us o ys l k).1 i = lm us i := by
  induction k with
  | zero => rfl
  | succ k ih => simp only [tkR]; rw [lm_set, if_neg (by omega), ih (by omega)]
theorem tk_lo (x y : Int) : (x - y % 18446744073709551616) % 18446744073709551616 = (x - y) % 18446744073709551616 := by omega
theorem tk_hi (p c : Int) : p / 18446744073709551616 + (p % 18446744073709551616 + c) / 18446744073709551616 = (p + c) / 18446744073709551616 := by omega

set_option maxHeartbeats 1000000 in
theorem takeTimes_any (g o n cap : Nat) (us : List Int) (b : Option Addr) (nb cb : Nat) (ys : List Int) (l : Int) (w : World) (hb : Blk w g us) (hfit : o + n ≤ us.length) (hm : us.length ≤ 1099511627776) (hu : AllW us)
    (hnb : nb = ys.length) (hle : nb ≤ n) (hr : Reads w b ys) (haw : ys ≠ [] → Away b g) (hy : AllW ys) (hl : Word l) :
    Calls Tryz.prog 153 #[.slice (some ⟨g, o, none⟩) n cap, .slice b nb cb, .int .u64 l] w fun e w' => e = .returned (.int .u64 (tkR us o ys l ys.length).2) ∧ Blk w' g (tkR us o ys l ys.length).1 ∧ Off g w w' := by
  subst hnb
  obtain ⟨l1, l2⟩ := hl
  go_enter Tryz.func153, Tryz.ntmps153
  go_wp2
  go_loopw [7, 15] (fun c i wr => ∃ k : Nat, k ≤ ys.length ∧ i = .int .i64 k ∧ c = .int .u64 (tkR us o ys l k).2 ∧ Blk wr g (tkR us o ys l k).1 ∧ Off g w wr) (fun _ i _ => ys.length - (intOf i).toNat)
  case atStart => exact ⟨0, Nat.zero_le _, rfl, rfl, hb, Off.refl _ _⟩
  case round =>
    obtain ⟨k, hk, rfl, rfl, hbr, hoff⟩ := hrel
    obtain ⟨ok1, ok2, ok3, ok4⟩ := tkR_ok o hu hy ⟨l1, l2⟩ k
    by_cases hlt : k < ys.length
    · obtain ⟨b2, o2, rfl, hc2⟩ := hr.at (by omega)
      have HN : Hid (tkR us o ys l (k + 1) = ((tkR us o ys l k).1.set (o + k) ((lm (tkR us o ys l k).1 (o + k) - (lm ys k * l + (tkR us o ys l k).2) % 18446744073709551616) % 18446744073709551616), (lm ys k * l + (tkR us o ys l k).2) / 18446744073709551616 + bor (lm (tkR us o ys l k).1 (o + k)) ((lm ys k * l + (tkR us o ys l k).2) % 18446744073709551616))) := rfl
      generalize hU : (tkR us o ys l k).1 = U at *
      generalize hC : (tkR us o ys l k).2 = C at *
      clear hU hC
      have HC2 : wr.cell? ⟨b2, o2 + k, none⟩ = some (.int .u64 (lm ys k)) := by rw [hoff.cell (p := ⟨b2, o2 + k, none⟩) (by exact haw (List.length_pos_iff.1 (by omega)) ⟨b2, o2, none⟩ rfl)]; exact hc2 k hlt
      have hcg := hbr.cell (i := o + k) (by omega)
      have hfg := hbr.frozen (o + k)
      obtain ⟨a10, a11⟩ := ok1.at (o + k)
      obtain ⟨a20, a21⟩ := hy.at k
      have hpb := mul_bd a20 a21 l1 l2
      obtain ⟨p, hp⟩ : ∃ p, lm ys k * l = p := ⟨_, rfl⟩
      rw [hp] at hpb HN
      have HP : Hid (lm ys k * l = p) := hp
      obtain ⟨p0, p1⟩ := hpb
      have HB := hbr.set (o + k) ((lm U (o + k) - (p + C)) % 18446744073709551616)
      have HO := hoff.set (o + k) (.int .u64 ((lm U (o + k) - (p + C)) % 18446744073709551616))
      have hkn : (k : Int) < (n : Int) := by omega
      have hbb := tk_bd (x := lm U (o + k)) p0 p1 ok3 ok4 a10
      have hb01 := bor_01 (lm U (o + k)) ((p + C) % 18446744073709551616)
      obtain ⟨hb0, hb1⟩ := hbb
      obtain ⟨hb2, hb3⟩ := hb01
      clear hc2 hb hr haw hbr hoff hp
      have q0 : 0 ≤ p % 18446744073709551616 := by omega
      have q1 : 0 ≤ (p + C) % 18446744073709551616 := by omega
      have q2 : (p + C) % 18446744073709551616 < 18446744073709551616 := by omega
      go_wp2_with (first | (go_at_call 129; refine (mul64_any _ _ p HP a20 a21 l1 l2 _).mono ?_; rintro e w' ⟨rfl, rfl⟩) | simp only [add64_0 (p % 18446744073709551616) C q0 ok3] | simp only [sub64_0 (lm U (o + k)) ((p + C) % 18446744073709551616) a10 q1 q2])
      go_roundw
      case rel => exact ⟨k + 1, by omega, by go_num, by rw [HN.out, tk_hi], by rw [HN.out, tk_lo]; exact HB, HO⟩
      case measure => simp [intOf]; omega
    · obtain rfl : k = ys.length := by omega
      go_wp2
      go_ret
      exact ⟨rfl, hbr, hoff⟩
end Go.Proofs.YtfelogbfijomiabGreatDoor

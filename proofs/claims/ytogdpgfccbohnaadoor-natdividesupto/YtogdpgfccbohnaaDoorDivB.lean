import Derived.Test.YtogdpgfccbohnaaDoorDivA
namespace Go.Proofs.YtogdpgfccbohnaaDoor
open Go.RowKit

/-- The limb j of xs, shifted down: P times Q is the limbs' base. -/
def sdl (xs : List Int) (P Q : Int) (j : Nat) : Int := lm xs j / P + lm xs (j + 1) % P * Q
theorem sdl_or {xs : List Int} {P Q : Int} {n : Nat} (hx : AllW xs) (hPQ : P * Q = 18446744073709551616) (hP : 0 < P) (hQ : Q = 2 ^ (64 - n)) (j : Nat) :
    Word (sdl xs P Q j) ∧ bits BinOp.or IntKind.u64 (lm xs j / P) (lm xs (j + 1) * Q % 18446744073709551616) = sdl xs P Q j := by
  have hQP : Q * P = 18446744073709551616 := by rw [Int.mul_comm]; exact hPQ
  have hQ0 : 0 < Q := by rw [hQ]; exact Int.pow_pos (by decide)
  have hlt := shr_lt (X := lm xs j) hQP hQ0 (hx.at j).2
  have h0 : 0 ≤ lm xs j / P := Int.ediv_nonneg (hx.at j).1 (by omega)
  obtain ⟨_, p1, p2⟩ := part_bd (x := lm xs (j + 1)) hQP hQ0 hlt
  have p3 := Int.mul_nonneg p1 (Int.le_of_lt hQ0)
  refine ⟨⟨?_, ?_⟩, ?_⟩
  · unfold sdl; omega
  · unfold sdl; omega
  · rw [(shl_parts (lm xs (j + 1)) Q P hQP hQ0).1]
    exact or_add hQ h0 hlt p1 p2
theorem sdl_last {xs : List Int} {P Q : Int} (j : Nat) (h : xs.length ≤ j + 1) : sdl xs P Q j = lm xs j / P := by
  unfold sdl; rw [lm_ge h]; simp
theorem sdl_vS {xs ys : List Int} {P Q : Int} (hPQ : P * Q = 18446744073709551616) (k : Nat) (h : ∀ j, j < k → lm ys j = sdl xs P Q j) : vS ys k * P + lm xs 0 % P = vS xs k + lm xs k % P * pw k := by
  induction k with
  | zero => simp [vS, pw]
  | succ k ih =>
    have ih := ih (fun j hj => h j (by omega))
    simp only [vS]
    rw [h k (by omega), pw_succ, Int.add_mul]
    have e1 : sdl xs P Q k * pw k * P = (lm xs k - lm xs k % P) * pw k + lm xs (k + 1) % P * (pw k * 18446744073709551616) := by
      unfold sdl
      have e2 := Int.mul_ediv_add_emod (lm xs k) P
      have e3 : (lm xs k / P + lm xs (k + 1) % P * Q) * pw k * P = (P * (lm xs k / P)) * pw k + lm xs (k + 1) % P * (pw k * (P * Q)) := by
        rw [Int.add_mul, Int.add_mul]
        congr 1 <;> ac_rfl
      rw [e3, hPQ]
      congr 2
      omega
    rw [e1, Int.sub_mul]
    omega
theorem sdl_val {xs ys : List Int} {P Q : Int} (hPQ : P * Q = 18446744073709551616) (hP : 0 < P) (hl : ys.length = xs.length) (h : ∀ j, j < xs.length → lm ys j = sdl xs P Q j) : val ys = val xs / P := by
  have e := sdl_vS hPQ xs.length h
  rw [lm_ge (Nat.le_refl _)] at e
  have h1 : vS ys xs.length = val ys := by unfold val; rw [hl]
  have h2 : vS xs xs.length = val xs := rfl
  rw [h1, h2] at e
  have h3 := Int.emod_lt_of_pos (lm xs 0) hP
  have h4 := Int.emod_nonneg (lm xs 0) (by omega : P ≠ 0)
  simp at e
  rw [← e, Int.add_comm, Int.add_mul_ediv_right _ _ (by omega), Int.ediv_eq_zero_of_lt h4 h3]
  omega

/-- What 'shiftDown' leaves of the words us where it worked on m of them, from o on. -/
def SDown (us : List Int) (o m : Nat) (P Q : Int) (k : Nat) (U : List Int) : Prop := U.length = us.length ∧ (∀ i, i < o ∨ o + k ≤ i → lm U i = lm us i) ∧ ∀ j, j < k → lm U (o + j) = sdl ((us.drop o).take m) P Q j

set_option maxRecDepth 100000 in
set_option maxHeartbeats 1000000 in
theorem shiftDown_any (g o m cap n : Nat) (us : List Int) (w : World) (hb : Blk w g us) (hu : AllW us) (hl : o + m ≤ us.length) (hm : us.length ≤ 100000000000) (hc : m ≤ cap) (hn : n < 64) (P Q : Int) (hP : P = 2 ^ n) (hQ : Q = 2 ^ (64 - n)) :
    Calls Tryd.prog 65 #[.slice (some ⟨g, o, none⟩) m cap, .int .i64 n] w fun e w' => e = .returned (.tuple #[]) ∧ ∃ U, Blk w' g U ∧ SDown us o m P Q m U ∧ Off g w w' := by
  obtain ⟨xs, hxs⟩ : ∃ xs, (us.drop o).take m = xs := ⟨_, rfl⟩
  have HXS : Hid ((us.drop o).take m = xs) := hxs
  have hxl : xs.length = m := by rw [← hxs]; simp; omega
  have HXL : Hid (xs.length = m) := hxl
  have hxw : AllW xs := by rw [← hxs]; exact (fun x hx => hu x (List.mem_of_mem_drop (List.mem_of_mem_take hx)))
  have hlx : ∀ j, j < m → lm us (o + j) = lm xs j := fun j hj => by rw [← hxs, lm_take hj, lm_drop]
  have HLX : Hid (∀ j, j < m → lm us (o + j) = lm xs j) := hlx
  have HXW : Hid (AllW xs) := hxw
  have HPQ : Hid (P * Q = 18446744073709551616) := by show _ = _; rw [hP, hQ, ← Int.pow_add, show n + (64 - n) = 64 by omega]; rfl
  have HP0 : Hid (0 < P) := by show 0 < P; rw [hP]; exact Int.pow_pos (by decide)
  have HPE : Hid (P = 2 ^ n) := hP
  have HQE : Hid (Q = 2 ^ (64 - n)) := hQ
  have hn2 : (0 : Int) ≤ 64 - (n : Int) := by omega
  obtain ⟨N, hN⟩ : ∃ N, us.length = N := ⟨_, rfl⟩
  have HN : Hid (us.length = N) := hN
  rw [hN] at hl hm
  clear hxs hxl hxw hlx hP hQ hu hN
  go_enter Tryd.func65, Tryd.ntmps65
  go_wp2
  go_loopw [7] (fun t wr => ∃ (k : Nat) (U : List Int), k ≤ m ∧ t = .int .i64 k ∧ Blk wr g U ∧ SDown us o m P Q k U ∧ Off g w wr) (fun t _ => m - (intOf t).toNat)
  case atStart => exact ⟨0, us, Nat.zero_le _, rfl, hb, ⟨rfl, fun _ _ => rfl, fun j hj => by omega⟩, Off.refl _ _⟩
  case round =>
    clear hb
    obtain ⟨k, U, hk, rfl, hbr, hS, hoff⟩ := hrel
    have HS : Hid (SDown us o m P Q k U) := hS
    clear hS
    by_cases hlt : k < m
    · have hkm : (k : Int) < (m : Int) := by omega
      have hcu := hbr.cell (i := o + k) (by rw [HS.out.1, HN.out]; omega)
      rw [HS.out.2.1 (o + k) (.inr (Nat.le_refl _)), HLX.out k hlt] at hcu
      have hfu := hbr.frozen (o + k)
      obtain ⟨x0, x1⟩ := HXW.out.at k
      have hsd := sdl_or HXW.out HPQ.out HP0.out HQE.out k
      obtain ⟨A, hA⟩ : ∃ A, lm xs k / P = A := ⟨_, rfl⟩
      have ES : lm xs k / 2 ^ n = A := by rw [← HPE.out]; exact hA
      have HB1 := hbr.set (o + k) A
      have HO1 := hoff.set (o + k) (.int .u64 A)
      have HSA : Hid (lm xs k / P = A) := hA
      have HSO : Hid (bits BinOp.or IntKind.u64 A (lm xs (k + 1) * Q % 18446744073709551616) = sdl xs P Q k) := by show _ = _; rw [← hA]; exact hsd.2
      clear hA hsd hbr hoff
      obtain ⟨X, hX⟩ : ∃ X, lm xs k = X := ⟨_, rfl⟩
      have HXK : Hid (lm xs k = X) := hX
      rw [hX] at hcu x0 x1 ES HSA
      clear hX
      by_cases hlt2 : k + 1 < m
      · have hkm2 : (k : Int) + 1 < (m : Int) := by omega
        have hcu2 := HB1.cell (i := o + (k + 1)) (by rw [List.length_set, HS.out.1, HN.out]; omega)
        rw [lm_set, if_neg (by omega), HS.out.2.1 (o + (k + 1)) (.inr (by omega)), HLX.out (k + 1) hlt2] at hcu2
        have hcu3 := HB1.cell (i := o + k) (by rw [List.length_set, HS.out.1, HN.out]; omega)
        rw [lm_set, if_pos ⟨rfl, by rw [HS.out.1, HN.out]; omega⟩] at hcu3
        have hfu2 := HB1.frozen (o + k)
        obtain ⟨y0, y1⟩ := HXW.out.at (k + 1)
        obtain ⟨Z, hZ⟩ : ∃ Z, sdl xs P Q k = Z := ⟨_, rfl⟩
        have HZ : Hid (sdl xs P Q k = Z) := hZ
        have EZ : bits BinOp.or IntKind.u64 A (IntKind.u64.wrap (lm xs (k + 1) * 2 ^ (64 - n))) = Z := by rw [IntKind.wrap_u64, ← HQE.out, HSO.out, hZ]
        have HB2 := HB1.set (o + k) Z
        have HO2 := HO1.set (o + k) (.int .u64 Z)
        have HS2 : Hid (SDown us o m P Q (k + 1) ((U.set (o + k) A).set (o + k) Z)) := by
          obtain ⟨s1, s2, s3⟩ := HS.out
          refine ⟨by simp [s1], fun i hi => ?_, fun j hj => ?_⟩
          · rw [lm_set, if_neg (by omega), lm_set, if_neg (by omega)]; exact s2 i (by omega)
          · rw [HXS.out]
            rcases Nat.lt_or_ge j k with h | h
            · rw [lm_set, if_neg (by omega), lm_set, if_neg (by omega), s3 j h, HXS.out]
            · rw [show j = k by omega, lm_set, if_pos ⟨rfl, by rw [List.length_set, s1, HN.out]; omega⟩, HZ.out]
        clear hZ HB1 HO1
        generalize lm xs (k + 1) = Y at *
        go_wp2
        go_region
        go_wp2
        go_roundw
        case rel => exact ⟨k + 1, _, by omega, by go_num, HB2.drew, HS2.out, HO2.drew⟩
        case measure => simp [intOf]; omega
      · have hkm2 : ¬ (k : Int) + 1 < (m : Int) := by omega
        have HS2 : Hid (SDown us o m P Q (k + 1) (U.set (o + k) A)) := by
          obtain ⟨s1, s2, s3⟩ := HS.out
          refine ⟨by simp [s1], fun i hi => ?_, fun j hj => ?_⟩
          · rw [lm_set, if_neg (by omega)]; exact s2 i (by omega)
          · rw [HXS.out]
            rcases Nat.lt_or_ge j k with h | h
            · rw [lm_set, if_neg (by omega), s3 j h, HXS.out]
            · rw [show j = k by omega, lm_set, if_pos ⟨rfl, by rw [s1, HN.out]; omega⟩, sdl_last k (by rw [HXL.out]; omega), HXK.out, HSA.out]
        clear HSO HXK
        go_wp2
        go_roundw
        case rel => exact ⟨k + 1, _, by omega, by go_num, HB1, HS2.out, HO1⟩
        case measure => simp [intOf]; omega
    · have hkm : ¬ (k : Int) < (m : Int) := by omega
      obtain rfl : k = m := by omega
      go_wp2
      go_end0
      exact ⟨rfl, U, hbr, HS.out, hoff⟩
end Go.Proofs.YtogdpgfccbohnaaDoor

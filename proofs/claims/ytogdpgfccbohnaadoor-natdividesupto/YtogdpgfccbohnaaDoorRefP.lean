import Derived.Test.YtogdpgfccbohnaaDoorRefG
namespace Go.Proofs.YtogdpgfccbohnaaDoor
open Go.RowKit

/-- The upper half limbs, from k on, in their places. -/
theorem vH_top (xs : List Int) (k : Nat) : vH xs (k + 1) = vH xs k + lm xs k * pwH k := rfl
theorem part_step {X Q rest d T P x t q : Int} (h : T = Q * d + rest * (P * 4294967296)) (ht : t = rest * 4294967296 + x) (hq : t = q * d + X) : T + x * P = (Q + q * P) * d + X * P := by
  have e1 : rest * (P * 4294967296) + x * P = t * P := by rw [ht, Int.add_mul, Int.mul_comm P, Int.mul_assoc]
  have e2 : t * P = q * P * d + X * P := by rw [hq, Int.add_mul, Int.mul_right_comm]
  rw [Int.add_mul]
  omega

set_option maxRecDepth 100000 in
set_option maxHeartbeats 1000000 in
/-- Half limbs divided by one half limb. -/
theorem rpartV {a : Option Addr} {na ca : Nat} {x d : Int} {S : Nat} (w : World) (ha : HNum w a na ca x S) (hd0 : 0 < d) (hd1 : d < 4294967296) (hS : S ≤ 100000000) :
    Calls Tryd.prog 56 #[.slice a na ca, .int .u64 d] w fun e w' => ∃ c n cc, e = .returned (.tuple #[.slice c n cc, .int .u64 (x % d)]) ∧ HNum w' c n cc (x / d) S ∧ Below w.heap.size w w' := by
  obtain ⟨xs, a1, a2, hra, hx, a5, a6, _⟩ := ha
  have Hna : Hid (na = xs.length) := a1
  have HX5 : Hid (valH xs = x) := a5
  clear a1 a5
  go_enter Tryd.func56, Tryd.ntmps56
  go_wp2_with (at_make; refine wpList_makeH _ rfl _ _ rfl _ _ na rfl rfl (by omega) (by omega) (by omega) ?_)
  intro wm hbm hbelm
  obtain ⟨G, hG⟩ : ∃ G, G = w.heap.size := ⟨_, rfl⟩
  have HG : Hid (G = w.heap.size) := hG
  rw [← hG] at hbm hbelm
  rw [← hG]
  clear hG
  go_wp2
  go_loopw [7, 8] (fun s t wr => ∃ (k : Nat) (U : List Int) (r : Int), k ≤ na ∧ t = .int .i64 ((k : Int) - 1) ∧ s = .int .u64 r ∧ Blk wr G U ∧ U.length = na ∧ AllH U ∧ (∀ j, j < k → lm U j = 0) ∧ 0 ≤ r ∧ r < d ∧ valH xs - vH xs k = vH U na * d + r * pwH k ∧ Below G w wr) (fun _ t _ => ((intOf t) + 1).toNat)
  case atStart => exact ⟨na, _, 0, Nat.le_refl _, rfl, rfl, hbm, by simp, AllH.replicate _, fun j _ => lm_replicate _ _, by omega, by omega, by rw [vH_long (us := xs) (by have := Hna.out; omega), vH_congr (us := List.replicate na 0) (vs := []) (fun j _ => by rw [lm_replicate, lm_ge (by simp)]), vH_long (us := []) (by simp)]; simp [vH, valH], hbelm⟩
  case round =>
    clear hbm hbelm
    obtain ⟨k, U, r, hk, rfl, rfl, hbr, hU, hUh, hz, hr0, hr1, hV, hbel⟩ := hrel
    have HU : Hid (U.length = na) := hU
    have HUh : Hid (AllH U) := hUh
    have HV : Hid (valH xs - vH xs k = vH U na * d + r * pwH k) := hV
    have HZ : Hid (∀ j, j < k → lm U j = 0) := hz
    clear hU hUh hV hz
    by_cases hk0 : k = 0
    · subst hk0
      have hle : tlen U ≤ U.length := tl_le _ _
      have HE : Hid (x = valH U * d + r) := by
        show _ = _
        have e := HV.out
        have e2 : vH U na = valH U := by unfold valH; rw [HU.out]
        rw [e2, HX5.out] at e
        simp [vH, pwH] at e
        omega
      have hUn := valH_nn HUh.out
      have E1 : Hid (x / d = valH U) := by
        show _ = _
        rw [HE.out, Int.add_comm, Int.add_mul_ediv_right _ _ (by omega), Int.ediv_eq_zero_of_lt hr0 hr1]; omega
      have E2 : Hid (r = x % d) := by
        show _ = _
        rw [HE.out, Int.add_comm, Int.add_mul_emod_self_right, Int.emod_eq_of_lt hr0 hr1]
      have hre : Reads wr (some ⟨G, 0, none⟩) U := by have := hbr.reads U.length; rwa [List.take_length] at this
      have HN := HNum.of_trim (S := S) (cap := na) hre (by rw [HU.out] at hle; exact hle) HUh.out (by rw [HU.out] at hle; omega)
      have e3 := E2.out
      clear hbr hra HV HE E2
      subst e3
      go_wp2_with fail
      refine (rcut_any (some ⟨G, 0, none⟩) na na U wr HU.out.symm (Nat.le_refl _) (by omega) hre).mono ?_
      rintro e w2 ⟨rfl, rfl⟩
      rw [← E1.out] at HN
      rw [HG.out] at hbel
      clear hre
      go_wp2
      go_ret2
      exact ⟨_, _, _, rfl, HN, hbel⟩
    · obtain ⟨j, rfl⟩ : ∃ j, k = j + 1 := ⟨k - 1, by omega⟩
      have hj : j < na := by omega
      obtain ⟨x0, x1⟩ := hx.at j
      obtain ⟨b1, o1, rfl, hc1⟩ := hra.at (by have := Hna.out; omega)
      have h1 := hc1 j (by have := Hna.out; omega)
      have hb1' : b1 < G := by rw [HG.out]; simpa using World.block_lt_of_cell? _ _ h1
      have hcx : wr.cell? ⟨b1, o1 + j, none⟩ = some (.int .u64 (lm xs j)) := by rw [hbel.cell (p := ⟨b1, o1 + j, none⟩) (by exact hb1')]; exact h1
      have hcu := hbr.cell (i := j) (by rw [HU.out]; exact hj)
      have hfu := hbr.frozen j
      have hjn : (j : Int) < (na : Int) := by omega
      clear hra hc1 h1
      obtain ⟨t, ht⟩ : ∃ t, t = r * 4294967296 + lm xs j := ⟨_, rfl⟩
      have HT : Hid (t = r * 4294967296 + lm xs j) := ht
      have ht0 : 0 ≤ t := by omega
      have ht1 : t < d * 4294967296 := by omega
      have q0 := Int.ediv_nonneg ht0 (by omega : 0 ≤ d)
      have q1 : t / d < 4294967296 := Int.ediv_lt_of_lt_mul hd0 (by rw [Int.mul_comm]; exact ht1)
      have m0 := Int.emod_nonneg t (by omega : d ≠ 0)
      have m1 := Int.emod_lt_of_pos t hd0
      have HQ : Hid (t = t / d * d + t % d) := by show _ = _; rw [Int.mul_comm]; exact (Int.mul_ediv_add_emod t d).symm
      have T0 : IntKind.u64.wrap (r * 4294967296 + lm xs j) = t := by rw [← ht, IntKind.wrap_u64]; omega
      have T1 : IntKind.u64.wrap (t.tdiv d) = t / d := by rw [Int.tdiv_eq_ediv_of_nonneg ht0, IntKind.wrap_u64]; omega
      have T2 : t.tmod d = t % d := Int.tmod_eq_emod_of_nonneg ht0
      have hdz : (d == 0) = false := beq_eq_false_iff_ne.2 (by omega)
      clear ht
      have hB2 := hbr.set j (t / d)
      have HL2 := hbel.setCell (p := ⟨G, j, none⟩) (Nat.le_refl _) (.int .u64 (t / d))
      have HU2 : Hid ((U.set j (t / d)).length = na) := by show _ = _; rw [List.length_set, HU.out]
      have HA2 : Hid (AllH (U.set j (t / d))) := HUh.out.set _ _ ⟨q0, q1⟩
      have HZ2 : Hid (∀ i, i < j → lm (U.set j (t / d)) i = 0) := fun i hi => by rw [lm_set, if_neg (by omega)]; exact HZ.out i (by omega)
      have HV2 : Hid (valH xs - vH xs j = vH (U.set j (t / d)) na * d + t % d * pwH j) := by
        show _ = _
        rw [vH_set _ hj (by rw [HU.out]; exact hj), HZ.out j (by omega), Int.sub_zero]
        have e := HV.out
        rw [pwH_succ] at e
        have e2 := part_step e HT.out HQ.out
        rw [← e2, vH_top]
        omega
      clear hbr hbel
      generalize t / d = q at *
      generalize t % d = m at *
      go_wp2
      go_roundw
      case rel => exact ⟨j, _, m, by omega, by go_num, rfl, hB2, HU2.out, HA2.out, HZ2.out, m0, m1, HV2.out, HL2⟩
      case measure => simp [intOf]
end Go.Proofs.YtogdpgfccbohnaaDoor

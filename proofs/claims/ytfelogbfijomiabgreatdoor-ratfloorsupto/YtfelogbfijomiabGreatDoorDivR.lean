import Derived.Test.YtfelogbfijomiabGreatDoorDivP
namespace Go.Proofs.YtfelogbfijomiabGreatDoor
open Go.RowKit

theorem Blk.near {w w' : World} {g k : Nat} {us : List Int} (h : Blk w k us) (ho : Near g w w') (hk : k ≠ g) : Blk w' k us := by
  unfold Blk; rw [ho.block k h.lt hk]; exact h

theorem shUp (a : Option Addr) (na ca : Nat) (xs : List Int) (s : Nat) (w : World) (hna : na = xs.length) (hma : na ≤ 100000000000) (hs : s < 64) (hr : Reads w a xs) (hx : AllW xs) :
    Calls Tryz.prog 124 #[.slice a na ca, .int .i64 s] w fun e w' => ∃ g U, e = .returned (.slice (some ⟨g, 0, none⟩) (na + 1) (na + 1)) ∧ w.heap.size ≤ g ∧ Blk w' g U ∧ U.length = na + 1 ∧ AllW U ∧ val U = val xs * 2 ^ s ∧ Below w.heap.size w w' := by
  refine (shiftUp_any a na ca xs s 0 s w hna hma (by omega) (by omega) (by omega) hr hx).mono ?_
  rintro e w' ⟨U, rfl, h1, h2, h3, h4, h5⟩
  exact ⟨_, U, by rw [Nat.zero_add], Nat.le_refl _, h1, by omega, h3, h4, h5⟩

theorem got_of_norm {w : World} {g B S : Nat} {xs : List Int} (h : Blk w g (trimL xs)) (hx : AllW xs) (hB : B ≤ g) (hS : xs.length ≤ S) (hm : xs.length ≤ 1000000000000) : Got w B (.slice (some ⟨g, 0, none⟩) (tlen xs) (tlen xs)) (val xs) S := by
  have hl : tlen xs ≤ xs.length := tl_le _ _
  have h1 := h.row (trimL xs).length (by rw [length_trimL]; unfold maxLen; omega)
  rw [List.take_length] at h1
  have h2 := h1.own hB
  rw [length_trimL] at h2
  exact ⟨trimL xs, h2, NF.trimL hx, val_trimL xs, by rw [length_trimL]; omega⟩
theorem div_fin2 {x y d Q p : Int} (h : x * d = Q * (y * d) + p) (h0 : 0 ≤ p) (h1 : p < y * d) (hd : 0 < d) (hy : 0 < y) : Q = x / y ∧ p / d = x % y := by
  have e : p = (x - Q * y) * d := by rw [Int.sub_mul, Int.mul_assoc]; omega
  have e1 : p / d = x - Q * y := by rw [e, Int.mul_ediv_cancel _ (by omega)]
  have m0 : 0 ≤ x - Q * y := by
    by_cases h : 0 ≤ x - Q * y
    · exact h
    · have := Int.mul_neg_of_neg_of_pos (by omega : x - Q * y < 0) hd; omega
  have m1 : x - Q * y < y := Int.lt_of_mul_lt_mul_right (a := d) (by omega) (by omega)
  have := (Int.ediv_emod_unique hy).2 ⟨(by rw [Int.mul_comm y]; omega : (x - Q * y) + y * Q = x), m0, m1⟩
  exact ⟨this.1.symm, by rw [e1]; exact this.2.symm⟩
theorem SDown.val2 {us U : List Int} {m : Nat} {P Q : Int} (h : SDown us 0 m P Q m U) (hm : m = us.length) (hu : AllW us) (hPQ : P * Q = 18446744073709551616) (hP : 0 < P) {n : Nat} (hQ : Q = 2 ^ (64 - n)) : AllW U ∧ Go.Proofs.YtfelogbfijomiabGreatDoor.val U = Go.Proofs.YtfelogbfijomiabGreatDoor.val us / P := by
  obtain ⟨h1, h2, h3⟩ := h
  subst hm
  have e : (us.drop 0).take us.length = us := by simp
  rw [e] at h3
  have h4 : ∀ j, j < us.length → lm U j = sdl us P Q j := fun j hj => by have := h3 j hj; rwa [Nat.zero_add] at this
  refine ⟨?_, sdl_val hPQ hP h1 h4⟩
  intro x hx
  obtain ⟨j, hj, e⟩ := List.getElem_of_mem hx
  have e2 : lm U j = x := by unfold lm; rw [List.getD_eq_getElem?_getD, List.getElem?_eq_getElem hj, e]; rfl
  rw [← e2, h4 j (by omega)]
  exact (sdl_or hu hPQ hP hQ j).1
theorem val_ge2 {ys : List Int} {m : Nat} (hy : AllW ys) (hl : ys.length = m + 2) (ht : 0 < lm ys (m + 1)) : pw (m + 1) ≤ val ys := by
  have e1 : val ys = vS ys (m + 1) + lm ys (m + 1) * pw (m + 1) := by unfold val; rw [hl]; rfl
  have h1 := (vS_nn hy (m + 1)).1
  have h2 := Int.mul_le_mul_of_nonneg_right (a := 1) (b := lm ys (m + 1)) (c := pw (m + 1)) (by omega) (Int.le_of_lt (pw_pos _))
  omega
theorem shl_fits {ys : List Int} {m : Nat} {P Q : Int} (hy : AllW ys) (hl : ys.length = m + 2) (hP : 0 < P) (hPQ : P * Q = 18446744073709551616) (ht : lm ys (m + 1) * P < 18446744073709551616) : val ys * P < pw (m + 2) := by
  have e1 : val ys = vS ys (m + 1) + lm ys (m + 1) * pw (m + 1) := by unfold val; rw [hl]; rfl
  have h1 := (vS_nn hy (m + 1)).2
  have hp := pw_pos (m + 1)
  have h2 : lm ys (m + 1) < Q := Int.lt_of_mul_lt_mul_right (a := P) (by rw [Int.mul_comm Q, hPQ]; exact ht) (by omega)
  have h3 : (lm ys (m + 1) + 1) * P ≤ Q * P := Int.mul_le_mul_of_nonneg_right (by omega) (by omega)
  rw [Int.mul_comm Q, hPQ] at h3
  have h4 : val ys < (lm ys (m + 1) + 1) * pw (m + 1) := by rw [Int.add_mul, Int.one_mul]; omega
  have h5 := Int.mul_lt_mul_of_pos_right h4 hP
  have h6 : (lm ys (m + 1) + 1) * pw (m + 1) * P = (lm ys (m + 1) + 1) * P * pw (m + 1) := Int.mul_right_comm _ _ _
  have h7 := Int.mul_le_mul_of_nonneg_right h3 (Int.le_of_lt hp)
  rw [show m + 2 = (m + 1) + 1 by omega, pw_succ, Int.mul_comm (pw (m + 1))]
  omega
set_option maxRecDepth 100000 in
set_option maxHeartbeats 1000000 in
theorem divide_ex (a : Option Addr) (na ca : Nat) (xs : List Int) (b : Option Addr) (nb cb m : Nat) (ys : List Int) (w : World) (h1 : na = xs.length) (h3 : Reads w a xs) (h4 : AllW xs) (hna : na ≤ 100000000) (enb : nb = m + 2) (k1 : ys.length = m + 2) (k3 : Reads w b ys) (k4 : AllW ys) (htop : 0 < lm ys (m + 1)) (hle : nb ≤ na) :
    Calls Tryz.prog 104 #[.slice a na ca, .slice b nb cb] w fun e w' => ∃ c n cc c' n' cc', e = .returned (.tuple #[.slice c n cc, .slice c' n' cc']) ∧ Got w' w.heap.size (.slice c n cc) (val xs / val ys) na ∧ Got w' w.heap.size (.slice c' n' cc') (val xs % val ys) na ∧ (∀ g, (Value.slice c n cc).ownBlock = some g → (Value.slice c' n' cc').ownBlock ≠ some g) ∧ Below w.heap.size w w' ∧ n' = cc' := by
  obtain ⟨b1, o1, rfl, hcb⟩ := k3.at (by omega)
  have hct := hcb (m + 1) (by omega)
  obtain ⟨t0, t1⟩ := k4.at (m + 1)
  obtain ⟨n1, hn1⟩ : ∃ n1, n1 = m + 1 := ⟨_, rfl⟩
  rw [← hn1] at hct htop t0 t1
  have E1 : (nb : Int) - 1 = (n1 : Int) := by omega
  have j1 : (n1 : Int) < (nb : Int) := by omega
  have hn12 : n1 ≤ 200000000 := by omega
  have W1 := wrap_id n1 (by omega)
  have hnb2 : nb ≤ 100000000 := by omega
  have H1 : Hid (na = xs.length) := h1
  have ENB : Hid (nb = m + 2) := enb
  have EN1 : Hid (n1 = m + 1) := hn1
  have K1 : Hid (ys.length = m + 2) := k1
  clear h1 enb hn1 k1 hcb
  go_enter Tryz.func104, Tryz.ntmps104
  go_wp2_with fail
  refine (lead_any (lm ys n1) _ htop t1).mono ?_
  rintro e w1 ⟨s, rfl, hs64, hs1, hs2, rfl⟩
  have HS1 : Hid (9223372036854775808 ≤ lm ys n1 * 2 ^ s) := hs1
  have HS2 : Hid (lm ys n1 * 2 ^ s < 18446744073709551616) := hs2
  clear hct hs1 hs2
  have hnbI : (nb : Int) ≤ (nb : Int) + 1 := by omega
  go_wp2_with fail
  go_region_held3 (fun w' => True)
    (trivial)
    ((first
      | (go_at_call 124; go_fit (shUp a na ca xs s _ H1.out (by omega) hs64 (h3.below (belN (Below.refl _ _) 1)) h4); rintro e wA ⟨ga, UA, rfl, hga, hBA, hLA, hWA, hVA, hbA⟩)
      | (go_at_call 124; go_fit (shUp (some ⟨b1, o1, none⟩) nb cb ys s _ (by rw [K1.out]; exact ENB.out) (by omega) hs64 (k3.below (bel_tr (belN (Below.refl _ _) 1) hbA)) k4); rintro e wB ⟨gb, UB, rfl, hgb, hBB, hLB, hWB, hVB, hbB⟩)))
  have HT : Below w.heap.size w wB := bel_tr (bel_tr (belN (Below.refl w.heap.size w) 1) hbA) hbB
  have hga' : w.heap.size ≤ ga := hga
  have hgaA := hBA.lt
  have hBA2 := hBA.below hbB hBA.lt
  have hgbB := hBB.lt
  have hsA : w.heap.size ≤ wA.heap.size := by have := hbA.size; simpa using this
  obtain ⟨P, hP⟩ : ∃ P : Int, 2 ^ s = P := ⟨_, rfl⟩
  have hP0 : 0 < P := by rw [← hP]; exact Int.pow_pos (by decide)
  have HPE : Hid ((2 : Int) ^ s = P) := hP
  rw [hP] at hVA hVB
  have HS1' : Hid (9223372036854775808 ≤ lm ys (m + 1) * P) := by have := HS1.out; rw [hP, EN1.out] at this; exact this
  have HYB : Hid (val ys * P < pw (m + 2)) := by
    have h1 := HS2.out
    rw [hP, EN1.out] at h1
    refine shl_fits k4 K1.out (Q := 2 ^ (64 - s)) hP0 ?_ h1
    rw [← hP, ← Int.pow_add, show s + (64 - s) = 64 by omega]; rfl
  have HZV : Hid (val (UB.take nb) = val ys * P) := by show _ = _; rw [val_take hWB (by omega) (by rw [hVB, ENB.out]; exact HYB.out), hVB]
  have HZL : Hid ((UB.take nb).length = m + 2) := by show _ = _; rw [List.length_take, hLB, ← ENB.out]; omega
  have hZW : AllW (UB.take nb) := hWB.take nb
  have HZT := top_ge k4 hZW K1.out HZL.out hP0 HS1'.out HZV.out
  have hyv0 : 0 < val ys := by
    have h1 := val_ge2 k4 K1.out (by rw [← EN1.out]; exact htop)
    have := pw_pos (m + 1)
    omega
  have HD0 : Hid (0 < val ys * P) := Int.mul_pos hyv0 hP0
  have HHI : Hid (val ys * P < pw (m + 2)) := HYB.out
  have HX0 : Hid (val xs * P < val ys * P * pw (na - nb + 1)) := by
    show _ < _
    have h1 := val_lt h4
    have h2 := val_ge2 k4 K1.out (by rw [← EN1.out]; exact htop)
    have h3 : pw (m + 1) * pw (na - nb + 1) ≤ val ys * pw (na - nb + 1) := Int.mul_le_mul_of_nonneg_right h2 (Int.le_of_lt (pw_pos _))
    rw [← pw_add, show m + 1 + (na - nb + 1) = xs.length by rw [← H1.out]; have := ENB.out; omega] at h3
    rw [Int.mul_right_comm]
    exact Int.mul_lt_mul_of_pos_right (by omega) hP0
  obtain ⟨c, hc⟩ : ∃ c, c = na - nb + 1 := ⟨_, rfl⟩
  have HC : Hid (c = na - nb + 1) := hc
  have EC : (na : Int) - (nb : Int) + 1 = (c : Int) := by omega
  have hcb : c ≤ 100000001 := by omega
  have hcn : c + nb = na + 1 := by omega
  have HCN : Hid (c + nb = na + 1) := hcn
  rw [← hc] at HX0
  have HLA : Hid (UA.length = na + 1) := hLA
  have HLB : Hid (UB.length = nb + 1) := hLB
  have HVA : Hid (val UA = val xs * P) := hVA
  have hdisj : ga < gb := by omega
  clear hP hc hcn hBA hbA hbB hga hLA hLB hVA hVB h3 h4 k3 k4 t0 t1 htop E1 j1 W1 HS1 HS2
  go_wp2_with (at_make; refine wpList_makeB _ rfl _ _ rfl _ _ c rfl rfl (by omega) (by omega) (by omega) ?_)
  intro wm hbm hbelm
  have hBA3 := hBA2.below hbelm hBA2.lt
  have hBB3 := hBB.below hbelm hBB.lt
  have HT3 := bel_tr HT hbelm
  obtain ⟨G, hG⟩ : ∃ G, G = wB.heap.size := ⟨_, rfl⟩
  rw [← hG] at hbm
  rw [← hG]
  have hGb : gb < G := by omega
  have hGw : w.heap.size ≤ G := by have := HT.size; omega
  clear hG hBA2 hBB hbelm HT hgaA hgbB hsA hgb
  go_wp2
  go_loopw [10] (fun t wr => ∃ (k : Nat) (R Uq : List Int), k ≤ c ∧ t = .int .i64 ((k : Int) - 1) ∧ Blk wr ga R ∧ R.length = na + 1 ∧ AllW R ∧ Blk wr G Uq ∧ Uq.length = c ∧ AllW Uq ∧ (∀ j, j < k → lm Uq j = 0) ∧ Blk wr gb UB ∧ val xs * P = vS Uq c * (val ys * P) + val R ∧ val R < val ys * P * pw k ∧ Below w.heap.size w wr) (fun t _ => ((intOf t) + 1).toNat)
  case atStart => exact ⟨c, UA, _, Nat.le_refl _, rfl, hBA3, HLA.out, hWA, hbm, by simp, fun x hx => by rw [List.eq_of_mem_replicate hx]; unfold Word; omega, fun j _ => lm_replicate _ _, hBB3, by rw [vS_zeros, HVA.out]; omega, by rw [HVA.out]; exact HX0.out, HT3⟩
  case round =>
    clear hbm hBA3 hBB3 HT3
    obtain ⟨k, R, Uq, hk, rfl, hR, hRl, hRw, hQ, hQl, hQw, hQz, hB, hV, hlt, hbel⟩ := hrel
    have HRl : Hid (R.length = na + 1) := hRl
    have HRw : Hid (AllW R) := hRw
    have HQl : Hid (Uq.length = c) := hQl
    have HQw : Hid (AllW Uq) := hQw
    have HQz : Hid (∀ j, j < k → lm Uq j = 0) := hQz
    have HV : Hid (val xs * P = vS Uq c * (val ys * P) + val R) := hV
    have HLT : Hid (val R < val ys * P * pw k) := hlt
    clear hRl hRw hQl hQw hQz hV hlt
    by_cases hk0 : k = 0
    · subst hk0
      have HFIN : Hid (val Uq = val xs / val ys ∧ val R / P = val xs % val ys) := by
        have e := HV.out
        have e2 : vS Uq c = val Uq := by unfold val; rw [HQl.out]
        rw [e2] at e
        have h2 := HLT.out
        rw [pw_zero, Int.mul_one] at h2
        exact div_fin2 e (val_nn HRw.out) h2 hP0 hyv0
      have hSD := shiftDown_any ga 0 (na + 1) (na + 1) s R wr hR HRw.out (by rw [HRl.out]; omega) (by rw [HRl.out]; omega) (Nat.le_refl _) hs64 P (2 ^ (64 - s)) HPE.out.symm rfl
      have HPQ : Hid (P * 2 ^ (64 - s) = 18446744073709551616) := by show _ = _; rw [← HPE.out, ← Int.pow_add, show s + (64 - s) = 64 by omega]; rfl
      clear hR hB
      go_wp2_with fail
      refine hSD.mono ?_
      rintro e w2 ⟨rfl, U2, hU2, hS2, hO2⟩
      clear hSD
      have hL2 := hS2.1
      obtain ⟨hW2, hV2⟩ := hS2.val2 HRl.out.symm HRw.out HPQ.out hP0 rfl
      rw [HFIN.out.2] at hV2
      have HV2 : Hid (val U2 = val xs % val ys) := hV2
      have HL2 : Hid (U2.length = na + 1) := hL2.trans HRl.out
      have hQ2 := hQ.off hO2 (by omega)
      have hbel2 := hbel.trans (hO2.below hga')
      have hqr : Reads w2 (some ⟨G, 0, none⟩) Uq := by have := hQ2.reads Uq.length; rwa [List.take_length] at this
      have hrr : Reads w2 (some ⟨ga, 0, none⟩) (U2.take nb) := hU2.reads nb
      have HTL : Hid (nb = (U2.take nb).length) := by show _ = _; rw [List.length_take, HL2.out]; omega
      have HVT : Hid (val (U2.take nb) = val xs % val ys) := by
        show _ = _
        rw [val_take hW2 (by rw [HL2.out]; omega) ?_, HV2.out]
        rw [HV2.out, ENB.out]
        have h1 := Int.emod_lt_of_pos (val xs) hyv0
        have h2 := Int.mul_le_mul_of_nonneg_left (a := 1) (b := P) (c := val ys) (by omega) (Int.le_of_lt hyv0)
        rw [Int.mul_one] at h2
        have h3 := HHI.out
        omega
      have hWT : AllW (U2.take nb) := hW2.take nb
      have HGQ := got_of_blk (B := w.heap.size) hQ2 HQw.out hGw c HQl.out.symm (S := na) (by rw [HQl.out]; have := HC.out; have := ENB.out; omega) (by rw [HQl.out]; omega)
      rw [HFIN.out.1] at HGQ
      have hnI : (nb : Int) ≤ (na : Int) + 1 := by omega
      have hgl2 := hbel2.size
      have hGl := hQ2.lt
      clear hS2 hO2 hQ hbel hV2 hL2 HFIN HV HLT hU2
      go_wp2_with fail
      go_region_held3 (fun w' => True)
        (trivial)
        ((first
          | (go_at_call 96; go_fit (trim_any (some ⟨G, 0, none⟩) c c Uq _ HQl.out.symm (Nat.le_refl _) (by omega) (hqr.below (belN (Below.refl _ _) 1))); rintro e wz ⟨rfl, rfl⟩)
          | (go_at_call 100; go_fit (norm_any (some ⟨ga, 0, none⟩) nb (na + 1) (U2.take nb) _ HTL.out (by omega) (by omega) (hrr.below (belN (Below.refl _ _) 1))); rintro e wC ⟨gr, rfl, hgr, hBr, hbC⟩)))
      have HB2 : Below w.heap.size w wC := bel_tr (bel_tr hbel2 (belN (Below.refl _ _) 1)) hbC
      have hgr' : w2.heap.size ≤ gr := hgr
      have G1 := (HGQ.below (bel_tr (belN (Below.refl _ _) 1) hbC))
      have G2 := got_of_norm (B := w.heap.size) (S := na) hBr hWT (by omega) (by rw [← HTL.out]; omega) (by rw [← HTL.out]; omega)
      rw [HVT.out] at G2
      clear HGQ hBr hbC hbel2
      go_wp2
      go_ret2
      exact ⟨_, _, _, _, _, _, rfl, G1, G2, fun g hg e => by simp [Value.ownBlock] at hg e; omega, HB2, rfl⟩
    · obtain ⟨j, rfl⟩ : ∃ j, k = j + 1 := ⟨k - 1, by omega⟩
      have hjc : j < c := by omega
      have hjI : (j : Int) < (c : Int) := by omega
      obtain ⟨hi, hhi⟩ : ∃ hi, hi = j + nb + 1 := ⟨_, rfl⟩
      have EH : (j : Int) + (nb : Int) + 1 = (hi : Int) := by omega
      have hhi1 : (j : Int) ≤ (hi : Int) := by omega
      have hhi2 : (hi : Int) ≤ (na : Int) + 1 := by have := HCN.out; omega
      have hhi3 : hi ≤ na + 1 := by omega
      have hjna : j ≤ na + 1 := by omega
      have ELA : Hid (hi - j = m + 3) := by show _ = _; have := ENB.out; omega
      have HFJ : Hid (j + (m + 3) ≤ R.length) := by show _ ≤ _; rw [HRl.out]; have := ELA.out; omega
      have HSG := sg_lt (m := m) HRw.out HLT.out HFJ.out
      have hrz : ∀ i, i < m + 2 → wr.cell? ⟨gb, 0 + i, none⟩ = some (.int .u64 (lm (UB.take nb) i)) := fun i hi => by
        rw [lm_take (by have := ENB.out; omega), Nat.zero_add]
        exact hB.cell (by rw [HLB.out]; have := ENB.out; omega)
      have HTM := takeMost_any ga j m (hi - j) (na + 1 - j) R gb 0 nb (nb + 1) (UB.take nb) wr ELA.out ENB.out hR (by have := HFJ.out; omega) (by rw [HRl.out]; omega) HRw.out HZL.out hrz (by omega) hZW HZT (by rw [HZV.out]; exact HSG)
      clear hrz hhi
      go_wp2_with fail
      refine HTM.mono ?_
      rintro e w2 ⟨t, rfl, ht, U, hU, hUl, hUw, hUf, hUs, hN⟩
      clear HTM
      rw [HZV.out] at ht hUs
      have hst := div_step (m := m) HRw.out HHI.out HD0.out hUl HLT.out hUf hUs HFJ.out
      have ht0 : 0 ≤ t := by rw [ht]; exact Int.ediv_nonneg (sg_nn HRw.out j (m + 3)).1 (Int.le_of_lt HD0.out)
      have ht1 : t < 18446744073709551616 := by rw [ht]; exact Int.ediv_lt_of_lt_mul HD0.out (by rw [Int.mul_comm]; exact HSG)
      rw [← ht] at hst
      have hQ2 := hQ.near hN (by omega)
      have hB2 := hB.near hN (by omega)
      have hbel2 := hbel.trans (hN.below (B := w.heap.size) hga' (by have := hbel.size; omega))
      have hcq := hQ2.cell (i := j) (by rw [HQl.out]; exact hjc)
      rw [HQz.out j (by omega)] at hcq
      have hfq := hQ2.frozen j
      have hQ3 := hQ2.set j t
      have hO3 := (Off.refl G w2).set j (.int .u64 t)
      have hU3 := hU.off hO3 (by omega)
      have hB3 := hB2.off hO3 (by omega)
      have hbel3 := hbel2.trans (hO3.below hGw)
      have HL3 : Hid ((Uq.set j t).length = c) := by show _ = _; rw [List.length_set, HQl.out]
      have HW3 : Hid (AllW (Uq.set j t)) := HQw.out.set _ _ ⟨ht0, ht1⟩
      have HZ3 : Hid (∀ i, i < j → lm (Uq.set j t) i = 0) := fun i hi => by rw [lm_set, if_neg (by omega)]; exact HQz.out i (by omega)
      have HUL : Hid (U.length = na + 1) := hUl.trans HRl.out
      have HV3 : Hid (val xs * P = vS (Uq.set j t) c * (val ys * P) + val U) := by
        show _ = _
        rw [vS_set _ hjc (by rw [HQl.out]; exact hjc), HQz.out j (by omega), Int.sub_zero, Int.add_mul, HV.out, hst.1]
        omega
      have HLT3 : Hid (val U < val ys * P * pw j) := hst.2
      clear ht hUs hst hUl hUf hN hR hQ hB hbel hQ2 hB2 hbel2 hO3 hU HSG
      go_wp2
      go_roundw
      case rel => exact ⟨j, U, _, by omega, by go_num, hU3, HUL.out, hUw, hQ3, HL3.out, HW3.out, HZ3.out, hB3, HV3.out, HLT3.out, hbel3⟩
      case measure => simp [intOf]
end Go.Proofs.YtfelogbfijomiabGreatDoor

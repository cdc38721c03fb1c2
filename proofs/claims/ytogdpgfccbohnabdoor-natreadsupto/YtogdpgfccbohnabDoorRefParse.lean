import Derived.Test.YtogdpgfccbohnabDoorStr
import Derived.Test.YtogdpgfccbohnabDoorRefE
namespace Go.Proofs.YtogdpgfccbohnabDoor
open Go.RowKit

theorem dig_ten {F c P A x p : Int} (h : F + c * P = A) (hp : p = x * 10 + c) : F + p % 4294967296 * P + p / 4294967296 * (P * 4294967296) = A + x * 10 * P := by
  rw [Int.add_assoc, mod_mulH, hp, Int.add_mul]; omega
theorem vH_upd {U : List Int} {k : Nat} (z : Int) (h : k < U.length) : vH (U.set k z) (k + 1) = vH U k + z * pwH k := by
  show vH (U.set k z) k + lm (U.set k z) k * pwH k = _
  rw [vH_set_ge (Nat.le_refl _), lm_set, if_pos ⟨rfl, h⟩]

set_option maxRecDepth 100000 in
set_option maxHeartbeats 4000000 in
/-- The document's reading: of digits, up to a place where there is none, or to the end. -/
theorem rparseG (s : ByteArray) (w : World) (hs0 : 0 < s.size) (hs : s.size ≤ 100000000) :
    Calls Tryd.prog 28 #[.string s] w fun e w' => (Digs s s.size → ∃ c n cc, e = .returned (.tuple #[.slice c n cc, .bool true]) ∧ Got w' w.heap.size (.slice c n cc) (rdF s 0 s.size) s.size) ∧ (¬ Digs s s.size → e = .returned (.tuple #[.slice none 0 0, .bool false])) ∧ Below w.heap.size w w' := by
  have hs1 : ((s.size : Int) == 0) = false := beq_eq_false_iff_ne.2 (by omega)
  go_enter Tryd.func28, Tryd.ntmps28
  go_wp2
  go_loopw [4, 5] (fun v t wr => ∃ (i : Nat) (F : List Int), i ≤ s.size ∧ t = .int .i64 i ∧ Digs s i ∧ OwnV wr w.heap.size v F ∧ F.length ≤ i ∧ AllH F ∧ valH F = rdF s 0 i ∧ Below w.heap.size w wr) (fun _ t _ => s.size - (intOf t).toNat)
  case atStart => exact ⟨0, [], by omega, rfl, fun i hi => by omega, OwnV.nil _ _, Nat.le_refl _, AllH.nil, rfl, Below.refl _ _⟩
  case round =>
    obtain ⟨i, F, hi, rfl, hdg, hown, hF, hFh, hV, hbel⟩ := hrel
    have HFh : Hid (AllH F) := hFh
    have HV : Hid (valH F = rdF s 0 i) := hV
    clear hV hFh
    by_cases hlt : i < s.size
    · have hil : (i : Int) < (s.size : Int) := by omega
      have hby := byt_get hlt
      obtain ⟨y0, y1⟩ := byt_bd s i
      by_cases hdi : 48 ≤ byt s i ∧ byt s i ≤ 57
      · obtain ⟨d0, d1⟩ := hdi
        have HN : Hid (rdF s 0 (i + 1) = rdF s 0 i * 10 + (byt s i - 48)) := by show _ = _; simp only [rdF, Nat.zero_add]
        have HDG : Hid (Digs s (i + 1)) := fun j hj => by
          rcases Nat.lt_or_ge j i with h | h
          · exact hdg j h
          · rw [show j = i by omega]; exact ⟨d0, d1⟩
        clear hdg
        generalize byt s i = B at *
        have hLI : F.length ≤ s.size := by omega
        obtain ⟨L, hL⟩ : ∃ L, L = F.length := ⟨_, rfl⟩
        have HL : Hid (F.length = L) := hL.symm
        rw [← hL] at hF hLI
        clear hL
        have HBL : Hid (Below w.heap.size w wr) := hbel
        obtain ⟨D, hD⟩ : ∃ D, D = B - 48 := ⟨_, rfl⟩
        have dd0 : 0 ≤ D := by omega
        have dd1 : D ≤ 9 := by omega
        rw [← hD] at HN
        go_wp2
        go_loopw [4, 6, 7] (fun v s t wr => ∃ (k : Nat) (U : List Int) (c : Int), k ≤ L + 1 ∧ t = .int .i64 k ∧ s = .int .u64 c ∧ OwnV wr w.heap.size v U ∧ (U.length = L ∧ k ≤ L ∨ U.length = L + 1 ∧ k = L + 1 ∧ c = 0) ∧ AllH U ∧ 0 ≤ c ∧ c ≤ 9 ∧ (∀ j, k ≤ j → lm U j = lm F j) ∧ vH U k + c * pwH k = vH F k * 10 + D ∧ Below w.heap.size w wr) (fun _ _ t _ => L + 1 - (intOf t).toNat)
        case atStart => exact ⟨0, F, D, by omega, rfl, by rw [hD], hown, .inl ⟨HL.out, by omega⟩, HFh.out, dd0, dd1, fun _ _ => rfl, by simp [vH, pwH], HBL.out⟩
        case round =>
          clear hown hbel HBL hD
          obtain ⟨k, U, c, hk, rfl, rfl, hown, hUL, hUh, hc0, hc1, hfar, hVU, hbel⟩ := hrel
          have HUh : Hid (AllH U) := hUh
          have HVU : Hid (vH U k + c * pwH k = vH F k * 10 + D) := hVU
          have HFAR : Hid (∀ j, k ≤ j → lm U j = lm F j) := hfar
          have HUL : Hid (U.length = L ∧ k ≤ L ∨ U.length = L + 1 ∧ k = L + 1 ∧ c = 0) := hUL
          have hsz := hbel.size
          obtain ⟨M, hM⟩ : ∃ M, M = U.length := ⟨_, rfl⟩
          have HM : Hid (U.length = M) := hM.symm
          have hMM : M = L ∧ k ≤ L ∨ M = L + 1 ∧ k = L + 1 ∧ c = 0 := by rw [hM]; exact hUL
          obtain ⟨va, vc, rfl⟩ := own_form hown HM.out
          clear hUh hVU hfar hUL hM
          by_cases hlt2 : k < M
          · have hkl : (k : Int) < (M : Int) := by omega
            obtain ⟨x0, x1⟩ := HUh.out.at k
            obtain ⟨g, rfl, hr⟩ := own_some hown (by omega)
            have hBg : w.heap.size ≤ g := (hown.lt g rfl).1
            have hcg := hr.cell (i := k) (by rw [HM.out]; exact hlt2)
            have hfg := hr.frozen k
            have HX : Hid (lm U k = lm F k) := HFAR.out k (Nat.le_refl _)
            have D1 : Hid (vH (U.set k ((lm U k * 10 + c) % 4294967296)) (k + 1) + (lm U k * 10 + c) / 4294967296 * pwH (k + 1) = vH F (k + 1) * 10 + D) := by
              show _ = _
              rw [vH_upd _ (by rw [HM.out]; exact hlt2), pwH_succ, dig_ten HVU.out rfl]
              show _ = (vH F k + lm F k * pwH k) * 10 + D
              rw [HX.out, Int.add_mul, Int.mul_right_comm]; omega
            have hHB := (hr.set k ((lm U k * 10 + c) % 4294967296)).own hBg
            rw [List.length_set, HM.out] at hHB
            have HB : Hid (OwnV _ w.heap.size _ (U.set k ((lm U k * 10 + c) % 4294967296))) := hHB
            have HO := hbel.setCell (p := ⟨g, k, none⟩) hBg (.int .u64 ((lm U k * 10 + c) % 4294967296))
            have HA2 : Hid (AllH (U.set k ((lm U k * 10 + c) % 4294967296))) := HUh.out.set _ _ (by omega)
            have HF2 : Hid (∀ j, k + 1 ≤ j → lm (U.set k ((lm U k * 10 + c) % 4294967296)) j = lm F j) := fun j hj => by rw [lm_set, if_neg (by omega)]; exact HFAR.out j (by omega)
            have HL2 : Hid ((U.set k ((lm U k * 10 + c) % 4294967296)).length = M) := by show _ = _; rw [List.length_set, HM.out]
            clear hHB hr hown hbel
            generalize lm U k = X at *
            have T1 : (X * 10 + c).tmod 4294967296 = (X * 10 + c) % 4294967296 := Int.tmod_eq_emod_of_nonneg (by omega)
            have T2 : IntKind.u64.wrap ((X * 10 + c).tdiv 4294967296) = (X * 10 + c) / 4294967296 := by rw [Int.tdiv_eq_ediv_of_nonneg (by omega), IntKind.wrap_u64]; omega
            have hne : ((k : Int) == (M : Int)) = false := beq_eq_false_iff_ne.2 (by omega)
            go_wp2
            go_roundw
            case rel => exact ⟨k + 1, _, (X * 10 + c) / 4294967296, by omega, by go_num, rfl, HB.out, .inl ⟨by rw [HL2.out]; omega, by omega⟩, HA2.out, by omega, by omega, HF2.out, D1.out, HO⟩
            case measure => simp [intOf]; omega
          · have hkl : ¬ (k : Int) < (M : Int) := by omega
            by_cases hcc : 0 < c
            · obtain rfl : k = M := by omega
              have HKL : Hid (k = L) := by show _ = _; omega
              have hcz : ¬ (k = L + 1 ∧ c = 0) := by omega
              clear hMM
              have hrow : ∀ q, (Value.slice va k vc).ownBlock = some q → w.heap.size ≤ q := fun q hq => (hown.lt q hq).1
              go_wp2_with (at_builtin; refine wpList_append1 22 Tryd.underlying22 _ rfl _ _ rfl w.heap.size (.slice va k vc) U k HM rfl (hown.alloc _) wr.heap.size _ 0 rfl (cell_new1 rfl) (by omega) (by simp; omega) (wr.heap.size + 1) (by simp) ?_)
              intro g cap1 w1 hown1 hgrow _ _
              have hbel1 : Below w.heap.size w w1 := hbel.trans (((Below.refl _ _).alloc (by omega) _).trans (grown_below hgrow (by simp; omega) hrow))
              clear hgrow hown hbel
              obtain ⟨g', e, hr⟩ := own_some hown1 (by omega)
              obtain rfl : g = g' := by cases e; rfl
              have hBg : w.heap.size ≤ g := (hown1.lt g rfl).1
              have hcg := hr.cell (i := k) (by simp [HM.out])
              have e0 : lm (U ++ [0]) k = 0 := by rw [lm_append_right (by rw [HM.out]; exact Nat.le_refl _), HM.out, Nat.sub_self]; rfl
              rw [e0] at hcg
              have hfg := hr.frozen k
              have D1 : Hid (vH ((U ++ [0]).set k c) (k + 1) + 0 * pwH (k + 1) = vH F (k + 1) * 10 + D) := by
                show _ = _
                rw [vH_upd _ (by simp [HM.out]), vH_congr (us := U ++ [0]) (vs := U) (n := k) (fun i hi => lm_append_left (by rw [HM.out]; exact hi))]
                show _ = (vH F k + lm F k * pwH k) * 10 + D
                rw [lm_ge (us := F) (by rw [HL.out, HKL.out]; exact Nat.le_refl _)]
                have := HVU.out
                omega
              have hHB := (hr.set k c).own hBg
              have HLS : Hid (((U ++ [0]).set k c).length = k + 1) := by show _ = _; simp [HM.out]
              rw [HLS.out] at hHB
              have HB : Hid (OwnV _ w.heap.size _ ((U ++ [0]).set k c)) := hHB
              have HO := hbel1.setCell (p := ⟨g, k, none⟩) hBg (.int .u64 c)
              have HA2 : Hid (AllH ((U ++ [0]).set k c)) := (allH_app HUh.out (by omega) (by omega)).set _ _ (by omega)
              have HF2 : Hid (∀ j, k + 1 ≤ j → lm ((U ++ [0]).set k c) j = lm F j) := fun j hj => by
                rw [lm_ge (by rw [HLS.out]; exact hj), lm_ge (us := F) (by rw [HL.out]; have := HKL.out; omega)]
              clear hHB hr hown1 hbel1 e e0
              have T1 : c.tmod 4294967296 = c := by rw [Int.tmod_eq_emod_of_nonneg (by omega)]; omega
              have T2 : IntKind.u64.wrap (c.tdiv 4294967296) = 0 := by rw [Int.tdiv_eq_ediv_of_nonneg (by omega), IntKind.wrap_u64]; omega
              have T3 : c.tdiv 4294967296 = 0 := by rw [Int.tdiv_eq_ediv_of_nonneg (by omega)]; omega
              go_wp2
              go_roundw
              case rel => exact ⟨k + 1, _, 0, by have := HKL.out; omega, by go_num, rfl, HB.out, .inr ⟨by rw [HLS.out, HKL.out], by rw [HKL.out], rfl⟩, HA2.out, by omega, by omega, HF2.out, D1.out, HO⟩
              case measure => have := HKL.out; simp [intOf]; omega
            · obtain rfl : c = 0 := by omega
              have HE : Hid (valH U = rdF s 0 (i + 1)) := by
                show _ = _
                have e := HVU.out
                rw [vH_long (us := U) (by rw [HM.out]; omega), vH_long (us := F) (by rw [HL.out]; omega), HV.out] at e
                rw [HN.out]; omega
              go_wp2
              go_roundw
              case rel => exact ⟨i + 1, U, by omega, by go_num, HDG.out, hown, by rw [HM.out]; omega, HUh.out, HE.out, hbel⟩
              case measure => simp [intOf]; omega
      · have hnd : ¬ Digs s s.size := fun h => hdi (h i hlt)
        have hdd : byt s i < 48 ∨ (48 ≤ byt s i ∧ 57 < byt s i) := by omega
        generalize byt s i = B at *
        rcases hdd with h | ⟨h, h'⟩
        · go_wp2
          go_ret2
          exact ⟨fun h2 => absurd h2 hnd, fun _ => rfl, hbel⟩
        · go_wp2
          go_ret2
          exact ⟨fun h2 => absurd h2 hnd, fun _ => rfl, hbel⟩
    · have hil : ¬ (i : Int) < (s.size : Int) := by omega
      obtain rfl : i = s.size := by omega
      obtain ⟨c', n', cc', rfl⟩ : ∃ c' n' cc', u4 = .slice c' n' cc' := by obtain ⟨a, c, e⟩ := hown.slice; exact ⟨_, _, _, e⟩
      obtain ⟨h1, h2, h3⟩ := hown.reads
      have h1' : n' ≤ s.size := by omega
      have H1 : Hid (n' = F.length) := h1
      clear h1
      go_wp2_with fail
      refine (numberL F wr H1.out h2 (by omega) h3 HFh.out s.size h1').mono ?_
      rintro e w2 ⟨c5, n5, k5, rfl, H5, hb2⟩
      have HB2 := bel_tr hbel hb2
      replace H5 := H5.mono (B' := w.heap.size) (by have := hbel.size; omega)
      rw [HV.out] at H5
      clear hb2 hbel hown
      go_wp2
      go_ret2
      exact ⟨fun _ => ⟨c5, n5, k5, rfl, H5⟩, fun h => absurd hdg h, HB2⟩
end Go.Proofs.YtogdpgfccbohnabDoor

import Derived.Test.YtfelogbfijomiaaDoorRefC
namespace Go.Proofs.YtfelogbfijomiaaDoor
open Go.RowKit

theorem mod_mulH (s T : Int) : (s % 4294967296) * T + s / 4294967296 * (T * 4294967296) = s * T := by
  have h : s = s % 4294967296 + s / 4294967296 * 4294967296 := by omega
  have e : s / 4294967296 * (T * 4294967296) = s / 4294967296 * 4294967296 * T := by rw [Int.mul_comm T, Int.mul_assoc]
  rw [e, ← Int.add_mul, ← h]
theorem dig_add {A B F x y c P : Int} (h : F + c * P = A + B) : F + (x + y + c) % 4294967296 * P + (x + y + c) / 4294967296 * (P * 4294967296) = A + x * P + (B + y * P) := by
  rw [Int.add_assoc, mod_mulH, Int.add_mul, Int.add_mul]; omega

set_option maxHeartbeats 4000000 in
/-- The document's sum. -/
theorem raddV {a0 b0 : Option Addr} {na0 nb0 ca0 cb0 : Nat} {x y : Int} {S : Nat} (w0 : World) (ha : Num w0 a0 na0 ca0 x S) (hb : Num w0 b0 nb0 cb0 y S) (hS : S ≤ 100000000) :
    Calls Tryd.prog 78 #[.slice a0 na0 ca0, .slice b0 nb0 cb0] w0 fun e w' => ∃ c n cc, e = .returned (.slice c n cc) ∧ Got w' w0.heap.size (.slice c n cc) (x + y) (2 * S + 1) ∧ Below w0.heap.size w0 w' := by
  go_enter Tryd.func78, Tryd.ntmps78
  go_wp2_with fail
  refine (halvesV _ ha (by omega)).mono ?_
  rintro e w1 ⟨a, na, ca, rfl, H1, hb1⟩
  replace hb := hb.below hb1
  clear ha
  go_wp2_with fail
  refine (halvesV _ hb (by omega)).mono ?_
  rintro e w ⟨b, nb, cb, rfl, H2, hb2⟩
  replace H1 := H1.below hb2
  have HB := bel_tr hb1 hb2
  clear hb hb1 hb2
  obtain ⟨xs, a1, a2, hra, hx, a5, a6, _⟩ := H1
  obtain ⟨ys, b1, b2, hrb, hy, b5, b6, _⟩ := H2
  have Hna : Hid (na = xs.length) := a1
  have Hnb : Hid (nb = ys.length) := b1
  have HX5 : Hid (valH xs = x) := a5
  have HY5 : Hid (valH ys = y) := b5
  clear a1 b1 a5 b5
  obtain ⟨M, hM1, hM2, hM3⟩ : ∃ M : Nat, na ≤ M ∧ nb ≤ M ∧ (M = na ∨ M = nb) := by
    rcases Nat.lt_or_ge na nb with h | h
    · exact ⟨nb, by omega, by omega, .inr rfl⟩
    · exact ⟨na, by omega, by omega, .inl rfl⟩
  have hMS : M ≤ 2 * S := by omega
  clear hM3
  go_wp2
  go_loopw [7, 8, 9] (fun v s i wr => ∃ (k : Nat) (F : List Int) (c : Int), k ≤ M + 1 ∧ i = .int .i64 k ∧ s = .int .u64 c ∧ OwnV wr w.heap.size v F ∧ F.length = k ∧ AllH F ∧ 0 ≤ c ∧ c ≤ 1 ∧ (k = M + 1 → c = 0) ∧ vH F k + c * pwH k = vH xs k + vH ys k ∧ Below w.heap.size w wr) (fun _ _ i _ => M + 1 - (intOf i).toNat)
  case atStart => exact ⟨0, [], 0, by omega, rfl, rfl, OwnV.nil _ _, rfl, AllH.nil, by omega, by omega, fun _ => rfl, by simp [vH], Below.refl _ _⟩
  case round =>
    obtain ⟨k, F, c, hk, rfl, rfl, hown, hF, hFh, hc0, hc1, hcM, hV, hbel⟩ := hrel
    have HF : Hid (F.length = k) := hF
    have HFh : Hid (AllH F) := hFh
    have HV : Hid (vH F k + c * pwH k = vH xs k + vH ys k) := hV
    clear hF hV hFh
    obtain ⟨x0, x1⟩ := hx.at k
    obtain ⟨y0, y1⟩ := hy.at k
    have hsz := hbel.size
    have hrow : ∀ q, u7.ownBlock = some q → w.heap.size ≤ q := fun q hq => (hown.lt q hq).1
    have hz : M ≤ k → lm xs k = 0 ∧ lm ys k = 0 := fun h => ⟨lm_ge (by have := Hna.out; omega), lm_ge (by have := Hnb.out; omega)⟩
    have hdone : k < M ∨ lm xs k + lm ys k + c < 4294967296 := by
      rcases Nat.lt_or_ge k M with h | h
      · exact .inl h
      · have := hz h; right; omega
    have D0 : Hid (vH (F ++ [(lm xs k + lm ys k + c) % 4294967296]) (k + 1) + (lm xs k + lm ys k + c) / 4294967296 * pwH (k + 1) = vH xs (k + 1) + vH ys (k + 1)) := by
      show _ = _
      rw [vH_app _ HF.out, pwH_succ]; exact dig_add HV.out
    clear hz
    by_cases hlt : k < na
    · have hkl : (k : Int) < (na : Int) := by omega
      go_wp2_with fail
      refine (at_any a na ca xs k wr Hna.out (by omega) (hra.below hbel)).mono ?_
      rintro e w1 ⟨rfl, rfl⟩
      go_wp2_with fail
      refine (at_any b nb cb ys k wr Hnb.out (by omega) (hrb.below hbel)).mono ?_
      rintro e w1 ⟨rfl, rfl⟩
      clear hra hrb
      generalize lm xs k = X at *
      generalize lm ys k = Y at *
      have T1 : (X + Y + c).tmod 4294967296 = (X + Y + c) % 4294967296 := Int.tmod_eq_emod_of_nonneg (by omega)
      have T2 : IntKind.u64.wrap ((X + Y + c).tdiv 4294967296) = (X + Y + c) / 4294967296 := by rw [Int.tdiv_eq_ediv_of_nonneg (by omega), IntKind.wrap_u64]; omega
      go_wp2_with (at_builtin; refine wpList_append1 22 Tryd.underlying22 _ rfl _ _ rfl w.heap.size u7 F k HF rfl (hown.alloc _) wr.heap.size _ ((X + Y + c) % 4294967296) rfl (cell_new1 rfl) (by omega) (by simp; omega) (wr.heap.size + 1) (by simp) ?_)
      intro g cap1 w1 hown1 hgrow _ _
      have hbel1 : Below w.heap.size w w1 := hbel.trans (((Below.refl _ _).alloc (by omega) _).trans (grown_below hgrow (by simp; omega) hrow))
      clear hgrow hown
      go_wp2
      go_roundw
      case rel => exact ⟨k + 1, _, (X + Y + c) / 4294967296, by omega, by go_num, rfl, hown1, by simp [HF.out], allH_app HFh.out (by omega) (by omega), by omega, by omega, by omega, D0.out, hbel1⟩
      case measure => simp [intOf]; omega
    · have hkl : ¬ (k : Int) < (na : Int) := by omega
      by_cases hlt2 : k < nb
      · have hkl2 : (k : Int) < (nb : Int) := by omega
        go_wp2_with fail
        refine (at_any a na ca xs k wr Hna.out (by omega) (hra.below hbel)).mono ?_
        rintro e w1 ⟨rfl, rfl⟩
        go_wp2_with fail
        refine (at_any b nb cb ys k wr Hnb.out (by omega) (hrb.below hbel)).mono ?_
        rintro e w1 ⟨rfl, rfl⟩
        clear hra hrb
        generalize lm xs k = X at *
        generalize lm ys k = Y at *
        have T1 : (X + Y + c).tmod 4294967296 = (X + Y + c) % 4294967296 := Int.tmod_eq_emod_of_nonneg (by omega)
        have T2 : IntKind.u64.wrap ((X + Y + c).tdiv 4294967296) = (X + Y + c) / 4294967296 := by rw [Int.tdiv_eq_ediv_of_nonneg (by omega), IntKind.wrap_u64]; omega
        go_wp2_with (at_builtin; refine wpList_append1 22 Tryd.underlying22 _ rfl _ _ rfl w.heap.size u7 F k HF rfl (hown.alloc _) wr.heap.size _ ((X + Y + c) % 4294967296) rfl (cell_new1 rfl) (by omega) (by simp; omega) (wr.heap.size + 1) (by simp) ?_)
        intro g cap1 w1 hown1 hgrow _ _
        have hbel1 : Below w.heap.size w w1 := hbel.trans (((Below.refl _ _).alloc (by omega) _).trans (grown_below hgrow (by simp; omega) hrow))
        clear hgrow hown
        go_wp2
        go_roundw
        case rel => exact ⟨k + 1, _, (X + Y + c) / 4294967296, by omega, by go_num, rfl, hown1, by simp [HF.out], allH_app HFh.out (by omega) (by omega), by omega, by omega, by omega, D0.out, hbel1⟩
        case measure => simp [intOf]; omega
      · have hkl2 : ¬ (k : Int) < (nb : Int) := by omega
        by_cases hcc : 0 < c
        · have hkM : k ≠ M + 1 := fun h => by have := hcM h; omega
          go_wp2_with fail
          refine (at_any a na ca xs k wr Hna.out (by omega) (hra.below hbel)).mono ?_
          rintro e w1 ⟨rfl, rfl⟩
          go_wp2_with fail
          refine (at_any b nb cb ys k wr Hnb.out (by omega) (hrb.below hbel)).mono ?_
          rintro e w1 ⟨rfl, rfl⟩
          clear hra hrb
          generalize lm xs k = X at *
          generalize lm ys k = Y at *
          have T1 : (X + Y + c).tmod 4294967296 = (X + Y + c) % 4294967296 := Int.tmod_eq_emod_of_nonneg (by omega)
          have T2 : IntKind.u64.wrap ((X + Y + c).tdiv 4294967296) = (X + Y + c) / 4294967296 := by rw [Int.tdiv_eq_ediv_of_nonneg (by omega), IntKind.wrap_u64]; omega
          go_wp2_with (at_builtin; refine wpList_append1 22 Tryd.underlying22 _ rfl _ _ rfl w.heap.size u7 F k HF rfl (hown.alloc _) wr.heap.size _ ((X + Y + c) % 4294967296) rfl (cell_new1 rfl) (by omega) (by simp; omega) (wr.heap.size + 1) (by simp) ?_)
          intro g cap1 w1 hown1 hgrow _ _
          have hbel1 : Below w.heap.size w w1 := hbel.trans (((Below.refl _ _).alloc (by omega) _).trans (grown_below hgrow (by simp; omega) hrow))
          clear hgrow hown
          go_wp2
          go_roundw
          case rel => exact ⟨k + 1, _, (X + Y + c) / 4294967296, by omega, by go_num, rfl, hown1, by simp [HF.out], allH_app HFh.out (by omega) (by omega), by omega, by omega, by omega, D0.out, hbel1⟩
          case measure => simp [intOf]; omega
        · obtain rfl : c = 0 := by omega
          have HE : Hid (valH F = x + y) := by
            show _ = _
            have e := HV.out
            rw [vH_long (us := xs) (by have := Hna.out; omega), vH_long (us := ys) (by have := Hnb.out; omega), HX5.out, HY5.out] at e
            unfold valH; rw [HF.out]; omega
          obtain ⟨c', cc', rfl⟩ := own_form hown HF.out
          obtain ⟨h1, h2, h3⟩ := hown.reads
          clear hra hrb hx hy D0 HV h1
          go_wp2_with fail
          refine (numberL F wr HF.out.symm h2 (by omega) h3 HFh.out (2 * S + 1) (by omega)).mono ?_
          rintro e w2 ⟨c5, n5, k5, rfl, H5, hb2⟩
          have HB2 := bel_tr HB (bel_tr hbel hb2)
          replace H5 := H5.mono (B' := w0.heap.size) (by have := HB.size; omega)
          rw [HE.out] at H5
          clear hb2 hbel HB hown
          go_wp2
          go_ret
          exact ⟨c5, n5, k5, rfl, H5, HB2⟩
end Go.Proofs.YtfelogbfijomiaaDoor

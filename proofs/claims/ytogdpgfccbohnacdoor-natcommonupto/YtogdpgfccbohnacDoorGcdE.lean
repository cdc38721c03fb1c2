import Derived.Test.YtogdpgfccbohnacDoorGcdD
namespace Go.Proofs.YtogdpgfccbohnacDoor
open Go.RowKit

def cellI (w : World) (g i : Nat) : Int := match w.cell? ⟨g, i, none⟩ with
  | some (.int _ z) => z
  | _ => 0
def rdv (w : World) (g o : Nat) : Nat → Int
  | 0 => 0
  | k + 1 => rdv w g o k + cellI w g (o + k) * pw k
/-- The number that a slice tells, read off the memory. -/
def wval (w : World) : Value → Nat
  | .slice (some a) n _ => (rdv w a.block a.off n).toNat
  | _ => 0
theorem Seg.wval {w : World} {B g o n cap x S : Nat} (h : Seg w B g o n cap x S) : wval w (.slice (some ⟨g, o, none⟩) n cap) = x := by
  obtain ⟨us, h1, h2, h3, h4, h5, h6, h7, h8⟩ := h
  have e : ∀ k, k ≤ n → rdv w g o k = vS ((us.drop o).take n) k := by
    intro k hk
    induction k with
    | zero => rfl
    | succ k ih =>
      show rdv w g o k + cellI w g (o + k) * pw k = vS _ k + lm _ k * pw k
      rw [ih (by omega), seg_lm (by omega)]
      congr 2
      unfold cellI
      rw [h1.cell (by omega)]
  show (rdv w g o n).toNat = x
  have e2 : vS ((us.drop o).take n) n = val ((us.drop o).take n) := by unfold Go.Proofs.YtogdpgfccbohnacDoor.val; rw [seg_list h3]
  rw [e n (Nat.le_refl _), e2, h8]
  simp
theorem Seg.pos {w : World} {B g o n cap x S : Nat} (h : Seg w B g o n cap x S) (hx : 0 < x) : 0 < n := by
  obtain ⟨us, h1, h2, h3, h4, h5, h6, h7, h8⟩ := h
  rcases Nat.eq_zero_or_pos n with h | h
  · subst h; simp [Go.Proofs.YtogdpgfccbohnacDoor.val, vS] at h8; omega
  · exact h
theorem Seg.ge {w : World} {B g o n cap x S : Nat} (h : Seg w B g o n cap x S) (hx : 0 < x) : pw (n - 1) ≤ (x : Int) := by
  have hn := h.pos hx
  obtain ⟨us, h1, h2, h3, h4, h5, h6, h7, h8⟩ := h
  have := val_ge (seg_w h6 o n) (by rw [h7]; exact hn)
  rw [h7, h8] at this
  exact this
theorem Seg.one {w : World} {B g o cap x S : Nat} (h : Seg w B g o 1 cap x S) : w.cell? ⟨g, o, none⟩ = some (.int .u64 (x : Int)) ∧ x < 18446744073709551616 := by
  obtain ⟨us, h1, h2, h3, h4, h5, h6, h7, h8⟩ := h
  have e : val ((us.drop o).take 1) = lm us o := by
    unfold Go.Proofs.YtogdpgfccbohnacDoor.val
    rw [seg_list h3]
    show (0 : Int) + lm _ 0 * pw 0 = _
    rw [seg_lm (by omega), pw_zero]
    simp
  rw [e] at h8
  have hc := h1.cell (i := o) (by omega)
  rw [h8] at hc
  refine ⟨hc, ?_⟩
  have := (h6.at o).2
  omega
theorem Seg.drewN {w : World} {B g o n cap x S : Nat} (h : Seg w B g o n cap x S) (m : Nat) : Seg (w.drewN m) B g o n cap x S := h.of_block rfl
theorem odd_le {z K M : Nat} (h : z = 2 ^ K * (2 * M + 1)) : 2 * M + 1 ≤ z := by rw [h]; exact Nat.le_mul_of_pos_left _ (Nat.pow_pos (by decide))

set_option maxRecDepth 100000 in
set_option maxHeartbeats 4000000 in
theorem gcdOdd_any {B ga0 oa0 na0 ca0 x gb0 ob0 nb0 cb0 y S : Nat} (w : World) (hA0 : Seg w B ga0 oa0 na0 ca0 x S) (hB0 : Seg w B gb0 ob0 nb0 cb0 y S) (hne0 : ga0 ≠ gb0) (hx : x % 2 = 1) (hy : y % 2 = 1) (hS : S ≤ 9000000) (hT : TabAt 6 Lib.deBruijn64tab w) (hgt : 6 < B) :
    Calls Tryd.prog 46 #[.slice (some ⟨ga0, oa0, none⟩) na0 ca0, .slice (some ⟨gb0, ob0, none⟩) nb0 cb0] w fun e w' => ∃ c n cc, e = .returned (.slice c n cc) ∧ Num w' c n cc (Nat.gcd x y : Nat) (S + 1) ∧ pw (n - 1) ≤ ((Nat.gcd x y : Nat) : Int) ∧ Below B w w' := by
  go_enter Tryd.func46, Tryd.ntmps46
  go_wp2
  go_loopw [0, 1] (fun a b wr => ∃ ga oa na ca p gb ob nb cb q, a = .slice (some ⟨ga, oa, none⟩) na ca ∧ b = .slice (some ⟨gb, ob, none⟩) nb cb ∧ Seg wr B ga oa na ca p S ∧ Seg wr B gb ob nb cb q S ∧ ga ≠ gb ∧ p % 2 = 1 ∧ q % 2 = 1 ∧ Nat.gcd p q = Nat.gcd x y ∧ Below B w wr) (fun a b wr => wval wr a + wval wr b)
  case atStart => exact ⟨ga0, oa0, na0, ca0, x, gb0, ob0, nb0, cb0, y, rfl, rfl, hA0, hB0, hne0, hx, hy, rfl, Below.refl _ _⟩
  case round =>
    clear hA0 hB0 hne0
    obtain ⟨ga, oa, na, ca, p, gb, ob, nb, cb, q, rfl, rfl, hA, hB, hne, hp, hq, hG, hbel⟩ := hrel
    have HG : Hid (Nat.gcd p q = Nat.gcd x y) := hG
    have hna := hA.pos (by omega)
    have hnb := hB.pos (by omega)
    have HWA : Hid (wval wr (.slice (some ⟨ga, oa, none⟩) na ca) = p) := hA.wval
    have HWB : Hid (wval wr (.slice (some ⟨gb, ob, none⟩) nb cb) = q) := hB.wval
    have hTr := tab_below hT hbel hgt
    have hBw : B ≤ wr.heap.size := by have := hA.lt; omega
    have hnaS : na ≤ S := by obtain ⟨us, _, _, h3, _, h5, _⟩ := hA; omega
    have hnbS : nb ≤ S := by obtain ⟨us, _, _, h3, _, h5, _⟩ := hB; omega
    clear hG
    by_cases h1 : 1 < na
    · have h1I : (1 : Int) < (na : Int) := by omega
      go_wp2_with fail
      refine (cmpV _ hA.num hB.num (by omega) (by omega)).mono ?_
      rintro e w1 ⟨c, rfl, hc, m, rfl⟩
      have hA1 := hA.drewN m
      have hB1 := hB.drewN m
      have hbel1 : Below B w (wr.drewN m) := belN hbel m
      clear hA hB hbel
      rcases hc with ⟨rfl, hc⟩ | ⟨rfl, hc⟩ | ⟨rfl, hc⟩
      · go_wp2_with fail
        refine (lessen_any _ hA1 hB1 hne (by omega) (by omega) hS).mono ?_
        rintro e w2 ⟨a', n', c', z, rfl, hz, hg, hS2, hfin, hb2⟩
        have hbel2 := hbel1.trans hb2
        clear hA1 hB1 hb2
        rcases hfin with ⟨h0, h1⟩ | ⟨h0, h1, g', o', e1, h2, h3⟩
        · subst h0 h1
          have HF : Hid (q = Nat.gcd x y) := by show _ = _; rw [← HG.out, ← hg, Nat.gcd_zero_left]
          have hN := hS2.num
          have hge := hS2.ge (by omega)
          rw [HF.out] at hN hge
          have hN1 : Num w2 (some ⟨gb, ob, none⟩) nb cb ((Nat.gcd x y : Nat) : Int) (S + 1) := by
            obtain ⟨xs, i1, i2, i3, i4, i5, i6⟩ := hN
            exact ⟨xs, i1, i2, i3, i4, i5, by omega⟩
          clear hS2 hN hTr
          go_wp2
          go_ret
          exact ⟨_, _, _, rfl, hN1, hge, hbel2⟩
        · subst e1
          have hn0 : ((n' : Int) == 0) = false := beq_eq_false_iff_ne.2 (by omega)
          have hT2 := tab_below hT hbel2 hgt
          have hLO := leaveOdd_any w2 h3 h0 (by omega) hT2
          have hg'B := h3.lt.1
          clear h3
          go_wp2_with fail
          refine hLO.mono ?_
          rintro e w3 ⟨K, M, o3, n3, c3, rfl, hM, hS3, hO3⟩
          have hS4 := hS2.off hO3 (fun e => h2 e.symm)
          have hbel3 := hbel2.trans (hO3.below hg'B)
          have hMl := odd_le hM
          have HGF : Hid (Nat.gcd (2 * M + 1) q = Nat.gcd x y) := by show _ = _; rw [← HG.out, ← hg, hM, gcd_odd hq]
          have HW3 : Hid (wval w3 (.slice (some ⟨g', o3, none⟩) n3 c3) = 2 * M + 1) := hS3.wval
          have HW4 : Hid (wval w3 (.slice (some ⟨gb, ob, none⟩) nb cb) = q) := hS4.wval
          clear hLO hM hO3 hS2 hTr hT2
          go_wp2
          go_roundw
          case rel => exact ⟨g', o3, n3, c3, 2 * M + 1, gb, ob, nb, cb, q, rfl, rfl, hS3, hS4, h2, by omega, hq, HGF.out, hbel3⟩
          case measure => rw [HW3.out, HW4.out, HWA.out, HWB.out]; omega
      · go_wp2_with fail
        refine (lessen_any _ hB1 hA1 (fun e => hne e.symm) (by omega) (by omega) hS).mono ?_
        rintro e w2 ⟨a', n', c', z, rfl, hz, hg, hS2, hfin, hb2⟩
        have hbel2 := hbel1.trans hb2
        clear hA1 hB1 hb2
        rcases hfin with ⟨h0, h1⟩ | ⟨h0, h1, g', o', e1, h2, h3⟩
        · subst h0 h1
          have HF : Hid (p = Nat.gcd x y) := by show _ = _; rw [← HG.out, Nat.gcd_comm p q, ← hg, Nat.gcd_zero_left]
          have hN := hS2.num
          have hge := hS2.ge (by omega)
          rw [HF.out] at hN hge
          have hN1 : Num w2 (some ⟨ga, oa, none⟩) na ca ((Nat.gcd x y : Nat) : Int) (S + 1) := by
            obtain ⟨xs, i1, i2, i3, i4, i5, i6⟩ := hN
            exact ⟨xs, i1, i2, i3, i4, i5, by omega⟩
          clear hS2 hN hTr
          go_wp2
          go_ret
          exact ⟨_, _, _, rfl, hN1, hge, hbel2⟩
        · subst e1
          have hn0 : ((n' : Int) == 0) = false := beq_eq_false_iff_ne.2 (by omega)
          have hT2 := tab_below hT hbel2 hgt
          have hLO := leaveOdd_any w2 h3 h0 (by omega) hT2
          have hg'B := h3.lt.1
          clear h3
          go_wp2_with fail
          refine hLO.mono ?_
          rintro e w3 ⟨K, M, o3, n3, c3, rfl, hM, hS3, hO3⟩
          have hS4 := hS2.off hO3 (fun e => h2 e.symm)
          have hbel3 := hbel2.trans (hO3.below hg'B)
          have hMl := odd_le hM
          have HGF : Hid (Nat.gcd (2 * M + 1) p = Nat.gcd x y) := by show _ = _; rw [← HG.out, Nat.gcd_comm p q, ← hg, hM, gcd_odd hp]
          have HW3 : Hid (wval w3 (.slice (some ⟨g', o3, none⟩) n3 c3) = 2 * M + 1) := hS3.wval
          have HW4 : Hid (wval w3 (.slice (some ⟨ga, oa, none⟩) na ca) = p) := hS4.wval
          clear hLO hM hO3 hS2 hTr hT2
          go_wp2
          go_roundw
          case rel => exact ⟨g', o3, n3, c3, 2 * M + 1, ga, oa, na, ca, p, rfl, rfl, hS3, hS4, h2, by omega, hp, HGF.out, hbel3⟩
          case measure => rw [HW3.out, HW4.out, HWA.out, HWB.out]; omega
      · go_wp2_with fail
        refine (lessen_any _ hA1 hB1 hne (by omega) (by omega) hS).mono ?_
        rintro e w2 ⟨a', n', c', z, rfl, hz, hg, hS2, hfin, hb2⟩
        have hbel2 := hbel1.trans hb2
        clear hA1 hB1 hb2
        rcases hfin with ⟨h0, h1⟩ | ⟨h0, h1, g', o', e1, h2, h3⟩
        · subst h0 h1
          have HF : Hid (q = Nat.gcd x y) := by show _ = _; rw [← HG.out, ← hg, Nat.gcd_zero_left]
          have hN := hS2.num
          have hge := hS2.ge (by omega)
          rw [HF.out] at hN hge
          have hN1 : Num w2 (some ⟨gb, ob, none⟩) nb cb ((Nat.gcd x y : Nat) : Int) (S + 1) := by
            obtain ⟨xs, i1, i2, i3, i4, i5, i6⟩ := hN
            exact ⟨xs, i1, i2, i3, i4, i5, by omega⟩
          clear hS2 hN hTr
          go_wp2
          go_ret
          exact ⟨_, _, _, rfl, hN1, hge, hbel2⟩
        · subst e1
          have hn0 : ((n' : Int) == 0) = false := beq_eq_false_iff_ne.2 (by omega)
          have hT2 := tab_below hT hbel2 hgt
          have hLO := leaveOdd_any w2 h3 h0 (by omega) hT2
          have hg'B := h3.lt.1
          clear h3
          go_wp2_with fail
          refine hLO.mono ?_
          rintro e w3 ⟨K, M, o3, n3, c3, rfl, hM, hS3, hO3⟩
          have hS4 := hS2.off hO3 (fun e => h2 e.symm)
          have hbel3 := hbel2.trans (hO3.below hg'B)
          have hMl := odd_le hM
          have HGF : Hid (Nat.gcd (2 * M + 1) q = Nat.gcd x y) := by show _ = _; rw [← HG.out, ← hg, hM, gcd_odd hq]
          have HW3 : Hid (wval w3 (.slice (some ⟨g', o3, none⟩) n3 c3) = 2 * M + 1) := hS3.wval
          have HW4 : Hid (wval w3 (.slice (some ⟨gb, ob, none⟩) nb cb) = q) := hS4.wval
          clear hLO hM hO3 hS2 hTr hT2
          go_wp2
          go_roundw
          case rel => exact ⟨g', o3, n3, c3, 2 * M + 1, gb, ob, nb, cb, q, rfl, rfl, hS3, hS4, h2, by omega, hq, HGF.out, hbel3⟩
          case measure => rw [HW3.out, HW4.out, HWA.out, HWB.out]; omega
    · have h1I : ¬ (1 : Int) < (na : Int) := by omega
      by_cases h2 : 1 < nb
      · have h2I : (1 : Int) < (nb : Int) := by omega
        go_wp2_with fail
        refine (cmpV _ hA.num hB.num (by omega) (by omega)).mono ?_
        rintro e w1 ⟨c, rfl, hc, m, rfl⟩
        have hA1 := hA.drewN m
        have hB1 := hB.drewN m
        have hbel1 : Below B w (wr.drewN m) := belN hbel m
        clear hA hB hbel
        rcases hc with ⟨rfl, hc⟩ | ⟨rfl, hc⟩ | ⟨rfl, hc⟩
        · go_wp2_with fail
          refine (lessen_any _ hA1 hB1 hne (by omega) (by omega) hS).mono ?_
          rintro e w2 ⟨a', n', c', z, rfl, hz, hg, hS2, hfin, hb2⟩
          have hbel2 := hbel1.trans hb2
          clear hA1 hB1 hb2
          rcases hfin with ⟨h0, h1⟩ | ⟨h0, h1, g', o', e1, h2, h3⟩
          · subst h0 h1
            have HF : Hid (q = Nat.gcd x y) := by show _ = _; rw [← HG.out, ← hg, Nat.gcd_zero_left]
            have hN := hS2.num
            have hge := hS2.ge (by omega)
            rw [HF.out] at hN hge
            have hN1 : Num w2 (some ⟨gb, ob, none⟩) nb cb ((Nat.gcd x y : Nat) : Int) (S + 1) := by
              obtain ⟨xs, i1, i2, i3, i4, i5, i6⟩ := hN
              exact ⟨xs, i1, i2, i3, i4, i5, by omega⟩
            clear hS2 hN hTr
            go_wp2
            go_ret
            exact ⟨_, _, _, rfl, hN1, hge, hbel2⟩
          · subst e1
            have hn0 : ((n' : Int) == 0) = false := beq_eq_false_iff_ne.2 (by omega)
            have hT2 := tab_below hT hbel2 hgt
            have hLO := leaveOdd_any w2 h3 h0 (by omega) hT2
            have hg'B := h3.lt.1
            clear h3
            go_wp2_with fail
            refine hLO.mono ?_
            rintro e w3 ⟨K, M, o3, n3, c3, rfl, hM, hS3, hO3⟩
            have hS4 := hS2.off hO3 (fun e => h2 e.symm)
            have hbel3 := hbel2.trans (hO3.below hg'B)
            have hMl := odd_le hM
            have HGF : Hid (Nat.gcd (2 * M + 1) q = Nat.gcd x y) := by show _ = _; rw [← HG.out, ← hg, hM, gcd_odd hq]
            have HW3 : Hid (wval w3 (.slice (some ⟨g', o3, none⟩) n3 c3) = 2 * M + 1) := hS3.wval
            have HW4 : Hid (wval w3 (.slice (some ⟨gb, ob, none⟩) nb cb) = q) := hS4.wval
            clear hLO hM hO3 hS2 hTr hT2
            go_wp2
            go_roundw
            case rel => exact ⟨g', o3, n3, c3, 2 * M + 1, gb, ob, nb, cb, q, rfl, rfl, hS3, hS4, h2, by omega, hq, HGF.out, hbel3⟩
            case measure => rw [HW3.out, HW4.out, HWA.out, HWB.out]; omega
        · go_wp2_with fail
          refine (lessen_any _ hB1 hA1 (fun e => hne e.symm) (by omega) (by omega) hS).mono ?_
          rintro e w2 ⟨a', n', c', z, rfl, hz, hg, hS2, hfin, hb2⟩
          have hbel2 := hbel1.trans hb2
          clear hA1 hB1 hb2
          rcases hfin with ⟨h0, h1⟩ | ⟨h0, h1, g', o', e1, h2, h3⟩
          · subst h0 h1
            have HF : Hid (p = Nat.gcd x y) := by show _ = _; rw [← HG.out, Nat.gcd_comm p q, ← hg, Nat.gcd_zero_left]
            have hN := hS2.num
            have hge := hS2.ge (by omega)
            rw [HF.out] at hN hge
            have hN1 : Num w2 (some ⟨ga, oa, none⟩) na ca ((Nat.gcd x y : Nat) : Int) (S + 1) := by
              obtain ⟨xs, i1, i2, i3, i4, i5, i6⟩ := hN
              exact ⟨xs, i1, i2, i3, i4, i5, by omega⟩
            clear hS2 hN hTr
            go_wp2
            go_ret
            exact ⟨_, _, _, rfl, hN1, hge, hbel2⟩
          · subst e1
            have hn0 : ((n' : Int) == 0) = false := beq_eq_false_iff_ne.2 (by omega)
            have hT2 := tab_below hT hbel2 hgt
            have hLO := leaveOdd_any w2 h3 h0 (by omega) hT2
            have hg'B := h3.lt.1
            clear h3
            go_wp2_with fail
            refine hLO.mono ?_
            rintro e w3 ⟨K, M, o3, n3, c3, rfl, hM, hS3, hO3⟩
            have hS4 := hS2.off hO3 (fun e => h2 e.symm)
            have hbel3 := hbel2.trans (hO3.below hg'B)
            have hMl := odd_le hM
            have HGF : Hid (Nat.gcd (2 * M + 1) p = Nat.gcd x y) := by show _ = _; rw [← HG.out, Nat.gcd_comm p q, ← hg, hM, gcd_odd hp]
            have HW3 : Hid (wval w3 (.slice (some ⟨g', o3, none⟩) n3 c3) = 2 * M + 1) := hS3.wval
            have HW4 : Hid (wval w3 (.slice (some ⟨ga, oa, none⟩) na ca) = p) := hS4.wval
            clear hLO hM hO3 hS2 hTr hT2
            go_wp2
            go_roundw
            case rel => exact ⟨g', o3, n3, c3, 2 * M + 1, ga, oa, na, ca, p, rfl, rfl, hS3, hS4, h2, by omega, hp, HGF.out, hbel3⟩
            case measure => rw [HW3.out, HW4.out, HWA.out, HWB.out]; omega
        · go_wp2_with fail
          refine (lessen_any _ hA1 hB1 hne (by omega) (by omega) hS).mono ?_
          rintro e w2 ⟨a', n', c', z, rfl, hz, hg, hS2, hfin, hb2⟩
          have hbel2 := hbel1.trans hb2
          clear hA1 hB1 hb2
          rcases hfin with ⟨h0, h1⟩ | ⟨h0, h1, g', o', e1, h2, h3⟩
          · subst h0 h1
            have HF : Hid (q = Nat.gcd x y) := by show _ = _; rw [← HG.out, ← hg, Nat.gcd_zero_left]
            have hN := hS2.num
            have hge := hS2.ge (by omega)
            rw [HF.out] at hN hge
            have hN1 : Num w2 (some ⟨gb, ob, none⟩) nb cb ((Nat.gcd x y : Nat) : Int) (S + 1) := by
              obtain ⟨xs, i1, i2, i3, i4, i5, i6⟩ := hN
              exact ⟨xs, i1, i2, i3, i4, i5, by omega⟩
            clear hS2 hN hTr
            go_wp2
            go_ret
            exact ⟨_, _, _, rfl, hN1, hge, hbel2⟩
          · subst e1
            have hn0 : ((n' : Int) == 0) = false := beq_eq_false_iff_ne.2 (by omega)
            have hT2 := tab_below hT hbel2 hgt
            have hLO := leaveOdd_any w2 h3 h0 (by omega) hT2
            have hg'B := h3.lt.1
            clear h3
            go_wp2_with fail
            refine hLO.mono ?_
            rintro e w3 ⟨K, M, o3, n3, c3, rfl, hM, hS3, hO3⟩
            have hS4 := hS2.off hO3 (fun e => h2 e.symm)
            have hbel3 := hbel2.trans (hO3.below hg'B)
            have hMl := odd_le hM
            have HGF : Hid (Nat.gcd (2 * M + 1) q = Nat.gcd x y) := by show _ = _; rw [← HG.out, ← hg, hM, gcd_odd hq]
            have HW3 : Hid (wval w3 (.slice (some ⟨g', o3, none⟩) n3 c3) = 2 * M + 1) := hS3.wval
            have HW4 : Hid (wval w3 (.slice (some ⟨gb, ob, none⟩) nb cb) = q) := hS4.wval
            clear hLO hM hO3 hS2 hTr hT2
            go_wp2
            go_roundw
            case rel => exact ⟨g', o3, n3, c3, 2 * M + 1, gb, ob, nb, cb, q, rfl, rfl, hS3, hS4, h2, by omega, hq, HGF.out, hbel3⟩
            case measure => rw [HW3.out, HW4.out, HWA.out, HWB.out]; omega
      · have h2I : ¬ (1 : Int) < (nb : Int) := by omega
        obtain rfl : na = 1 := by omega
        obtain rfl : nb = 1 := by omega
        obtain ⟨ca1, hx1⟩ := hA.one
        obtain ⟨cb1, hy1⟩ := hB.one
        have hgw : ∀ wz, TabAt 6 Lib.deBruijn64tab wz → Calls Tryd.prog 54 #[.int .u64 (p : Int), .int .u64 (q : Int)] wz fun e w' => e = .returned (.int .u64 (Nat.gcd x y : Nat)) ∧ wz = w' := fun wz hz => by
          have := gcdWords_any p q wz hp hq hx1 hy1 hz
          rw [HG.out] at this
          exact this
        have hGb : Nat.gcd x y ≤ p := by rw [← HG.out]; exact Nat.gcd_le_left q (by omega)
        have hGw : ((Nat.gcd x y : Nat) : Int) < 18446744073709551616 := by omega
        have hG0 : (0 : Int) ≤ ((Nat.gcd x y : Nat) : Int) := Int.natCast_nonneg _
        clear hA hB
        go_wp2_with fail
        go_region_held3 (fun w' => w'.cell? ⟨ga, oa, none⟩ = some (.int .u64 (p : Int)) ∧ w'.cell? ⟨gb, ob, none⟩ = some (.int .u64 (q : Int)))
          (first | (go_keep; done) | (refine ⟨?_, ?_⟩ <;> exact keepB hb2 (by go_keep)))
          ((first
            | (go_at_call 54; go_fit (hgw wr.drew (fun j hj => hTr j hj)); rintro e wz ⟨rfl, rfl⟩)
            | (go_at_call 17; go_fit (ofG _ _ hG0 hGw); rintro e w2 ⟨c2, n2, d2, rfl, G2, hb2⟩)))
        have hn2 : n2 ≤ 1 := by obtain ⟨xs, i1, _, _, i4⟩ := G2; have := i1.reads.1; omega
        have hG1 : 0 < Nat.gcd x y := Nat.gcd_pos_of_pos_left y (by omega)
        have HGE : Hid (pw (n2 - 1) ≤ ((Nat.gcd x y : Nat) : Int)) := by show _ ≤ _; rw [show n2 - 1 = 0 by omega, pw_zero]; omega
        have hN := G2.num
        have hN1 : Num w2 c2 n2 d2 ((Nat.gcd x y : Nat) : Int) (S + 1) := by
          obtain ⟨xs, i1, i2, i3, i4, i5, i6⟩ := hN
          exact ⟨xs, i1, i2, i3, i4, i5, by omega⟩
        have hbel2 := (belN hbel 1).trans (hb2.mono hBw)
        clear hgw G2 hN hb2 hTr ca1 cb1
        go_wp2
        go_ret
        exact ⟨_, _, _, rfl, hN1, HGE.out, hbel2⟩
end Go.Proofs.YtogdpgfccbohnacDoor

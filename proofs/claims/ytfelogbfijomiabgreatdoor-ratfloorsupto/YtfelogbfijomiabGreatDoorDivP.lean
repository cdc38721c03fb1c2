import Derived.Test.YtfelogbfijomiabGreatDoorDivM
import Derived.Test.YtfelogbfijomiabGreatDoorGotP
import Derived.Test.YtfelogbfijomiabGreatDoorGotN
namespace Go.Proofs.YtfelogbfijomiabGreatDoor
open Go.RowKit

theorem wrap_id (n : Nat) (h : n ≤ 200000000000) : IntKind.i64.wrap (n : Int) = (n : Int) := by rw [IntKind.wrap_i64]; omega

theorem take_fin0 {V D t X P : Int} (hD : 0 < D) (hn : V / D ≤ t ∧ t ≤ V / D + 1) (hX0 : 0 ≤ X) (hE : X - 0 * P = V - D * t) : t = V / D ∧ X = V % D := by
  have e := Int.mul_ediv_add_emod V D
  have m1 := Int.emod_lt_of_pos V hD
  generalize V / D = q at *
  generalize V % D = m at *
  have h : t = q := by
    rcases (by omega : t = q ∨ t = q + 1) with h | h
    · exact h
    · subst h
      rw [Int.mul_add] at hE
      omega
  subst h
  exact ⟨rfl, by omega⟩
theorem take_fin1 {V D t X P Y c : Int} (hD : 0 < D) (hn : V / D ≤ t ∧ t ≤ V / D + 1) (hV0 : 0 ≤ V) (hX1 : X < P) (hE : X - 1 * P = V - D * t) (hY1 : Y < P) (c0 : 0 ≤ c) (c1 : c ≤ 1) (hY : Y + c * P = X + D) : 1 ≤ t ∧ t - 1 = V / D ∧ Y = V % D := by
  have e := Int.mul_ediv_add_emod V D
  have m0 := Int.emod_nonneg V (by omega : D ≠ 0)
  have q0 := Int.ediv_nonneg hV0 (by omega : 0 ≤ D)
  have m2 : V % D ≤ V := by
    have := Int.mul_nonneg (by omega : 0 ≤ D) q0
    omega
  generalize V / D = q at *
  generalize V % D = m at *
  have h : t = q + 1 := by
    rcases (by omega : t = q ∨ t = q + 1) with h | h
    · subst h; omega
    · exact h
  subst h
  rw [Int.mul_add, Int.mul_one] at hE
  rcases (by omega : c = 0 ∨ c = 1) with h | h
  · subst h; omega
  · subst h; exact ⟨by omega, by omega, by omega⟩

set_option maxRecDepth 100000 in
set_option maxHeartbeats 1000000 in
theorem takeMost_any (g o m la ca : Nat) (us : List Int) (b1 o1 nB cb : Nat) (ys : List Int) (w : World) (ela : la = m + 3) (enB : nB = m + 2) (hb : Blk w g us) (hfit : o + (m + 2) + 1 ≤ us.length) (hm : us.length ≤ 100000000000) (hu : AllW us)
    (hnb : ys.length = m + 2) (hr : ∀ i, i < m + 2 → w.cell? ⟨b1, o1 + i, none⟩ = some (.int .u64 (lm ys i))) (haw : b1 ≠ g) (hy : AllW ys) (htop : 9223372036854775808 ≤ lm ys (m + 1)) (hlt : sg us o (m + 3) < val ys * 18446744073709551616) :
    Calls Tryz.prog 132 #[.slice (some ⟨g, o, none⟩) la ca, .slice (some ⟨b1, o1, none⟩) nB cb] w fun e w' => ∃ t, e = .returned (.int .u64 t) ∧ t = sg us o (m + 3) / val ys ∧ ∃ U, Blk w' g U ∧ U.length = us.length ∧ AllW U ∧ (∀ i, i < o ∨ o + (m + 3) ≤ i → lm U i = lm us i) ∧ sg U o (m + 3) = sg us o (m + 3) % val ys ∧ Near g w w' := by
  obtain ⟨hD0, hAB, hnear⟩ := take_math o m us ys hu hnb hy htop hlt
  obtain ⟨A00, A01⟩ := hu.at (o + (m + 2))
  obtain ⟨A10, A11⟩ := hu.at (o + (m + 1))
  obtain ⟨A20, A21⟩ := hu.at (o + m)
  obtain ⟨_, B01⟩ := hy.at (m + 1)
  obtain ⟨B10, B11⟩ := hy.at m
  have B00 : 0 < lm ys (m + 1) := by omega
  have ca2 := hb.cell (i := o + (m + 2)) (by omega)
  have ca1 := hb.cell (i := o + (m + 1)) (by omega)
  have ca0 := hb.cell (i := o + m) (by omega)
  have cb1 := hr (m + 1) (by omega)
  have cb0 := hr m (by omega)
  obtain ⟨n1, hn1⟩ : ∃ n1, n1 = m + 1 := ⟨_, rfl⟩
  have E1 : (nB : Int) - 1 = (n1 : Int) := by omega
  have E2 : (nB : Int) - 2 = (m : Int) := by omega
  have i2 : (nB : Int) < (la : Int) := by omega
  have i1 : (n1 : Int) < (la : Int) := by omega
  have i0 : (m : Int) < (la : Int) := by omega
  have j1 : (n1 : Int) < (nB : Int) := by omega
  have j0 : (m : Int) < (nB : Int) := by omega
  have hnB2 : nB ≤ 200000000000 := by omega
  have hn12 : n1 ≤ 200000000000 := by omega
  have hm2 : m ≤ 100000000000 := by omega
  rw [← enB] at ca2 hAB hnear A00 A01
  rw [← hn1] at ca1 cb1 hAB hnear A10 A11 B00 B01
  have ELA : Hid (la = m + 3) := ela
  have ENB : Hid (nB = m + 2) := enB
  have HR : Hid (∀ i, i < m + 2 → w.cell? ⟨b1, o1 + i, none⟩ = some (.int .u64 (lm ys i))) := hr
  have HB : Hid (Blk w g us) := hb
  have HU : Hid (AllW us) := hu
  have HY : Hid (AllW ys) := hy
  have HN : Hid (ys.length = m + 2) := hnb
  have HLT : Hid (0 < val ys) := hD0
  have HFIT : Hid (o + (m + 2) + 1 ≤ us.length) := hfit
  have HM : Hid (us.length ≤ 100000000000) := hm
  clear ela enB hn1 hr hb hu hy hnb hlt htop hD0 hfit hm
  obtain ⟨A0, hA0⟩ : ∃ x, lm us (o + nB) = x := ⟨_, rfl⟩
  obtain ⟨A1, hA1⟩ : ∃ x, lm us (o + n1) = x := ⟨_, rfl⟩
  obtain ⟨A2, hA2⟩ : ∃ x, lm us (o + m) = x := ⟨_, rfl⟩
  obtain ⟨B0, hB0⟩ : ∃ x, lm ys n1 = x := ⟨_, rfl⟩
  obtain ⟨B1, hB1⟩ : ∃ x, lm ys m = x := ⟨_, rfl⟩
  rw [hA0] at ca2 A00 A01 hAB hnear
  rw [hA1] at ca1 A10 A11 hnear
  rw [hA2] at ca0 A20 A21 hnear
  rw [hB0] at cb1 B00 B01 hAB hnear
  rw [hB1] at cb0 B10 B11 hnear
  have HA0 : Hid (lm us (o + nB) = A0) := hA0
  have HNEAR : Hid (∀ t, TryOk (A0 * 18446744073709551616 + A1) A2 B0 B1 t → sg us o (m + 3) / val ys ≤ t ∧ t ≤ sg us o (m + 3) / val ys + 1) := hnear
  have W1 := wrap_id n1 hn12
  have W2 := wrap_id m (Nat.le_trans hm2 (by decide))
  have z1 : (0 : Int) ≤ (n1 : Int) := Int.natCast_nonneg _
  have z0 : (0 : Int) ≤ (m : Int) := Int.natCast_nonneg _
  clear hA0 hA1 hA2 hB0 hB1 hnear
  go_enter Tryz.func132, Tryz.ntmps132
  go_wp2_with fail
  go_region_held3 (fun w' => w'.cell? ⟨g, o + nB, none⟩ = some (.int .u64 A0) ∧ w'.cell? ⟨g, o + n1, none⟩ = some (.int .u64 A1) ∧ w'.cell? ⟨g, o + m, none⟩ = some (.int .u64 A2) ∧ w'.cell? ⟨b1, o1 + n1, none⟩ = some (.int .u64 B0) ∧ w'.cell? ⟨b1, o1 + m, none⟩ = some (.int .u64 B1))
    (first | (go_keep; done) | (refine ⟨?_, ?_, ?_, ?_, ?_⟩ <;> first | exact keepB hbr (by go_keep)))
    ((first
      | (go_at_call 152; go_fit (tryLimb_le A0 A1 A2 B0 B1 _ A00 ⟨A10, A11⟩ ⟨A20, A21⟩ B00 B01 ⟨B10, B11⟩ hAB); rintro e w1 ⟨t, rfl, HTRY, hbr⟩)))
  have hbA : Below w.heap.size w w1 := bel_tr (belN (Below.refl w.heap.size w) 1) hbr
  have hnear := HNEAR.out t HTRY
  obtain ⟨t0, t1, _, _⟩ := HTRY
  have HTN : Hid (sg us o (m + 3) / val ys ≤ t ∧ t ≤ sg us o (m + 3) / val ys + 1) := hnear
  have hbl := HB.out.below hbA HB.out.lt
  have hrl : Reads w1 (some ⟨b1, o1, none⟩) ys := (show Reads w (some ⟨b1, o1, none⟩) ys from .inr ⟨b1, o1, rfl, fun i hi => HR.out i (by rw [HN.out] at hi; exact hi)⟩).below hbA
  have HN1 := near_of (g := g) hbA
  clear ca2 ca1 ca0 cb1 cb0 hbr hbA hnear
  obtain ⟨U, hU⟩ : ∃ U, (tkR us o ys t ys.length).1 = U := ⟨_, rfl⟩
  obtain ⟨C, hC⟩ : ∃ C, (tkR us o ys t ys.length).2 = C := ⟨_, rfl⟩
  obtain ⟨u1, u2, c0, c1⟩ := tkR_ok o HU.out HY.out ⟨t0, t1⟩ ys.length
  have hUf : lm U (o + nB) = A0 := by rw [← hU, tkR_far o t _ (o + nB) (.inr (by rw [HN.out, ENB.out]; exact Nat.le_refl _))]; exact HA0.out
  have HTK : ∀ w', Blk w' g us → Reads w' (some ⟨b1, o1, none⟩) ys → Calls Tryz.prog 153 #[.slice (some ⟨g, o, none⟩) la ca, .slice (some ⟨b1, o1, none⟩) nB cb, .int .u64 t] w' fun e w2 => e = .returned (.int .u64 C) ∧ (w2.cell? ⟨g, o + nB, none⟩ = some (.int .u64 A0) ∧ w2.frozen? ⟨g, o + nB, none⟩ = false) ∧ Blk w2 g U ∧ Off g w' w2 := by
    intro w' h1 h2
    refine (takeTimes_any g o la ca us (some ⟨b1, o1, none⟩) nB cb ys t w' h1 (by have := HFIT.out; have := ELA.out; omega) (by have := HM.out; omega) HU.out (by rw [HN.out]; exact ENB.out) (by have := ENB.out; have := ELA.out; omega) h2 (fun _ q hq => by cases hq; exact haw) HY.out ⟨t0, t1⟩).mono ?_
    rintro e w2 ⟨rfl, h3, h4⟩
    rw [hU] at h3
    refine ⟨by rw [hC], ⟨?_, h3.frozen _⟩, h3, h4⟩
    have := h3.cell (i := o + nB) (by rw [← hU, u2]; have := HFIT.out; have := ENB.out; omega)
    rw [hUf] at this
    exact this
  rw [hU] at u1 u2
  rw [hC] at c0 c1
  have HS : ∀ w' : World, (callFunc 128 #[.int .u64 A0, .int .u64 C, .int .u64 0]).run Tryz.prog w' = .ok (.value (.tuple #[.int .u64 ((A0 - C) % 18446744073709551616), .int .u64 (bor A0 C)])) w' := fun w' => sub64_0 A0 C A00 c0 c1 w'
  have ca2 := hbl.cell (i := o + nB) (by have := HFIT.out; have := ENB.out; omega)
  rw [HA0.out] at ca2
  have cf2 := hbl.frozen (o + nB)
  have HUU : Hid ((tkR us o ys t ys.length).1 = U) := hU
  have HCC : Hid ((tkR us o ys t ys.length).2 = C) := hC
  have HUW : Hid (AllW U) := u1
  have HUL : Hid (U.length = us.length) := u2
  have HBL : Hid (Blk w1 g us) := hbl
  have HRL : Hid (Reads w1 (some ⟨b1, o1, none⟩) ys) := hrl
  obtain ⟨U3, hU3⟩ : ∃ U3, U.set (o + nB) ((A0 - C) % 18446744073709551616) = U3 := ⟨_, rfl⟩
  have HU3 : Hid (U.set (o + nB) ((A0 - C) % 18446744073709551616) = U3) := hU3
  have htk := tk_sg (us := us) (ys := ys) (o := o) (n := nB) (l := t) HU.out HY.out ⟨t0, t1⟩ (by rw [HN.out]; exact ENB.out.symm) (by have := HFIT.out; have := ENB.out; omega)
  have eyl : ys.length = nB := by rw [HN.out]; exact ENB.out.symm
  rw [eyl] at hU hC
  rw [hU, hC, HA0.out, hU3, show nB + 1 = m + 3 by rw [ENB.out]] at htk
  obtain ⟨htW, htE⟩ := htk
  have HW3 : Hid (AllW U3) := htW
  have HL3 : Hid (U3.length = us.length) := by show _ = _; rw [← hU3, List.length_set, HUL.out]
  have HF3 : Hid (∀ i, i < o ∨ o + (m + 3) ≤ i → lm U3 i = lm us i) := fun i hi => by
    rw [← hU3, lm_set, if_neg (by rw [ENB.out]; omega), ← hU, tkR_far o t nB i (by rw [ENB.out]; omega)]
  have HE3 : Hid (sg U3 o (m + 3) - bor A0 C * pw (m + 3) = sg us o (m + 3) - val ys * t) := htE
  have hbor := bor_01 A0 C
  clear hU hC u1 u2 hUf hbl hrl hU3 htW htE eyl HUU HCC
  go_wp2_with fail
  go_region_with (first
    | (go_at_call 153; go_fit (HTK _ HBL.out.drew (HRL.out.below (belN (Below.refl _ _) 1))); rintro e w2 ⟨rfl, ⟨hk1, hk2⟩, hB2, hO2⟩))
  · have hO1 : Off g w1 w2 := (Off.refl g w1).drew.trans hO2
    have hB3 := hB2.set (o + nB) ((A0 - C) % 18446744073709551616)
    rw [HU3.out] at hB3
    have HN3 := HN1.trans (hO1.set (o + nB) (.int .u64 ((A0 - C) % 18446744073709551616))).near
    have hR3 := HRL.out.near (hO1.set (o + nB) (.int .u64 ((A0 - C) % 18446744073709551616))).near (fun _ q hq => by cases hq; exact haw)
    clear hk1 hk2 hB2 hO2 hO1 ca2 cf2 HS HTK
    obtain ⟨W3, hW3⟩ : ∃ W3, w2.setCell ⟨g, o + nB, none⟩ (.int .u64 ((A0 - C) % 18446744073709551616)) = W3 := ⟨_, rfl⟩
    rw [hW3] at hB3 HN3 hR3
    rw [hW3]
    clear hW3
    obtain ⟨be, hbe⟩ : ∃ be, bor A0 C = be := ⟨_, rfl⟩
    have HE4 : Hid (sg U3 o (m + 3) - be * pw (m + 3) = sg us o (m + 3) - val ys * t) := hbe ▸ HE3.out
    rw [hbe] at hbor
    rw [hbe]
    clear hbe HE3
    rcases (by omega : be = 0 ∨ be = 1) with h | h
    · subst h
      have hf : Hid (t = sg us o (m + 3) / val ys ∧ sg U3 o (m + 3) = sg us o (m + 3) % val ys) := take_fin0 HLT.out HTN.out (sg_nn HW3.out o (m + 3)).1 HE4.out
      go_wp2
      go_ret
      exact ⟨t, rfl, hf.out.1, U3, hB3, HL3.out, HW3.out, HF3.out, hf.out.2, HN3⟩
    · subst h
      obtain ⟨aW, c, c0', c1', aE⟩ := addF_sg (us := U3) (ys := ys) (o := o) (n := m + 3) HW3.out HY.out (by rw [HL3.out]; have := HFIT.out; omega) (by rw [HN.out]; omega)
      have hf := take_fin1 HLT.out HTN.out (sg_nn HU.out o (m + 3)).1 (sg_nn HW3.out o (m + 3)).2 HE4.out (sg_nn aW o (m + 3)).2 c0' c1' aE
      obtain ⟨hf1, hf2, hf3⟩ := hf
      have HF1 : Hid (t - 1 = sg us o (m + 3) / val ys) := hf2
      have HF2 : Hid (sg (addF U3 o (m + 3) ys) o (m + 3) = sg us o (m + 3) % val ys) := hf3
      have HAW : Hid (AllW (addF U3 o (m + 3) ys)) := aW
      have HAF : Hid (∀ i, i < o ∨ o + (m + 3) ≤ i → lm (addF U3 o (m + 3) ys) i = lm us i) := fun i hi => by rw [addF_far U3 o (m + 3) ys (by rw [HN.out]; omega) i hi]; exact HF3.out i hi
      have HAL : Hid ((addF U3 o (m + 3) ys).length = us.length) := by show _ = _; rw [length_addF, HL3.out]
      clear hf2 hf3 aW aE c0' c1'
      go_wp2_with fail
      refine (addTo_any g o la ca U3 (some ⟨b1, o1, none⟩) nB cb ys W3 hB3 (by rw [HL3.out, ELA.out]; have := HFIT.out; omega) (by rw [HL3.out]; have := HM.out; omega) HW3.out (by rw [HN.out]; exact ENB.out) (by rw [ENB.out, ELA.out]; omega) hR3 (fun _ q hq => by cases hq; exact haw) HY.out).mono ?_
      rintro e w4 ⟨rfl, hB4, hO4⟩
      rw [ELA.out] at hB4
      have HN4 := HN3.trans hO4.near
      clear hB3 HN3 hO4 hR3
      go_wp2
      go_ret
      exact ⟨t - 1, rfl, HF1.out, _, hB4, HAL.out, HAW.out, HAF.out, HF2.out, HN4⟩
  · have hO1 : Off g w1 w2 := (Off.refl g w1).drew.trans hO2
    have hB3 := hB2.set (o + nB) ((A0 - C) % 18446744073709551616)
    rw [HU3.out] at hB3
    have HN3 := HN1.trans (hO1.set (o + nB) (.int .u64 ((A0 - C) % 18446744073709551616))).near
    have hR3 := HRL.out.near (hO1.set (o + nB) (.int .u64 ((A0 - C) % 18446744073709551616))).near (fun _ q hq => by cases hq; exact haw)
    clear hk1 hk2 hB2 hO2 hO1 ca2 cf2 HS HTK
    obtain ⟨W3, hW3⟩ : ∃ W3, w2.setCell ⟨g, o + nB, none⟩ (.int .u64 ((A0 - C) % 18446744073709551616)) = W3 := ⟨_, rfl⟩
    rw [hW3] at hB3 HN3 hR3
    rw [hW3]
    clear hW3
    obtain ⟨be, hbe⟩ : ∃ be, bor A0 C = be := ⟨_, rfl⟩
    have HE4 : Hid (sg U3 o (m + 3) - be * pw (m + 3) = sg us o (m + 3) - val ys * t) := hbe ▸ HE3.out
    rw [hbe] at hbor
    rw [hbe]
    clear hbe HE3
    rcases (by omega : be = 0 ∨ be = 1) with h | h
    · subst h
      have hf : Hid (t = sg us o (m + 3) / val ys ∧ sg U3 o (m + 3) = sg us o (m + 3) % val ys) := take_fin0 HLT.out HTN.out (sg_nn HW3.out o (m + 3)).1 HE4.out
      go_wp2
      go_ret
      exact ⟨t, rfl, hf.out.1, U3, hB3, HL3.out, HW3.out, HF3.out, hf.out.2, HN3⟩
    · subst h
      obtain ⟨aW, c, c0', c1', aE⟩ := addF_sg (us := U3) (ys := ys) (o := o) (n := m + 3) HW3.out HY.out (by rw [HL3.out]; have := HFIT.out; omega) (by rw [HN.out]; omega)
      have hf := take_fin1 HLT.out HTN.out (sg_nn HU.out o (m + 3)).1 (sg_nn HW3.out o (m + 3)).2 HE4.out (sg_nn aW o (m + 3)).2 c0' c1' aE
      obtain ⟨hf1, hf2, hf3⟩ := hf
      have HF1 : Hid (t - 1 = sg us o (m + 3) / val ys) := hf2
      have HF2 : Hid (sg (addF U3 o (m + 3) ys) o (m + 3) = sg us o (m + 3) % val ys) := hf3
      have HAW : Hid (AllW (addF U3 o (m + 3) ys)) := aW
      have HAF : Hid (∀ i, i < o ∨ o + (m + 3) ≤ i → lm (addF U3 o (m + 3) ys) i = lm us i) := fun i hi => by rw [addF_far U3 o (m + 3) ys (by rw [HN.out]; omega) i hi]; exact HF3.out i hi
      have HAL : Hid ((addF U3 o (m + 3) ys).length = us.length) := by show _ = _; rw [length_addF, HL3.out]
      clear hf2 hf3 aW aE c0' c1'
      go_wp2_with fail
      refine (addTo_any g o la ca U3 (some ⟨b1, o1, none⟩) nB cb ys W3 hB3 (by rw [HL3.out, ELA.out]; have := HFIT.out; omega) (by rw [HL3.out]; have := HM.out; omega) HW3.out (by rw [HN.out]; exact ENB.out) (by rw [ENB.out, ELA.out]; omega) hR3 (fun _ q hq => by cases hq; exact haw) HY.out).mono ?_
      rintro e w4 ⟨rfl, hB4, hO4⟩
      rw [ELA.out] at hB4
      have HN4 := HN3.trans hO4.near
      clear hB3 HN3 hO4 hR3
      go_wp2
      go_ret
      exact ⟨t - 1, rfl, HF1.out, _, hB4, HAL.out, HAW.out, HAF.out, HF2.out, HN4⟩

set_option maxHeartbeats 400000 in
/-- How many bits of nought a word has ahead. -/
theorem lead_any (x : Int) (w : World) (h0 : 0 < x) (h1 : x < 18446744073709551616) :
    Calls Tryz.prog 131 #[.int .u64 x] w fun e w' => ∃ s : Nat, e = .returned (.int .i64 s) ∧ s < 64 ∧ 9223372036854775808 ≤ x * 2 ^ s ∧ x * 2 ^ s < 18446744073709551616 ∧ w = w' := by
  obtain ⟨X, rfl⟩ := Int.eq_ofNat_of_zero_le (by omega : 0 ≤ x)
  obtain ⟨b1, b2, b3, b4⟩ := bitLen_spec X (by omega) (by omega)
  have hc := len64_any (X : Int) w (by omega) h1
  rw [Int.toNat_natCast] at hc
  generalize Lib.bitLen X = L at *
  obtain ⟨s, hs⟩ : ∃ s : Nat, s = 64 - L := ⟨_, rfl⟩
  have E : (64 : Int) - (L : Int) = (s : Int) := by omega
  have e1 : (2 : Nat) ^ (L - 1) * 2 ^ s = 9223372036854775808 := by rw [← Nat.pow_add, show L - 1 + s = 63 by omega]
  have e2 : (2 : Nat) ^ L * 2 ^ s = 18446744073709551616 := by rw [← Nat.pow_add, show L + s = 64 by omega]
  have f1 := Nat.mul_le_mul_right (2 ^ s) b3
  have f2 := Nat.mul_lt_mul_of_pos_right b1 (Nat.pow_pos (n := s) (by decide : 0 < 2))
  have HA : Hid (9223372036854775808 ≤ (X : Int) * 2 ^ s) := by
    have : (2 : Int) ^ s = ((2 ^ s : Nat) : Int) := by rw [Int.natCast_pow]; rfl
    show _ ≤ _
    rw [this, ← Int.natCast_mul]; omega
  have HB : Hid ((X : Int) * 2 ^ s < 18446744073709551616) := by
    have : (2 : Int) ^ s = ((2 ^ s : Nat) : Int) := by rw [Int.natCast_pow]; rfl
    show _ < _
    rw [this, ← Int.natCast_mul]; omega
  have hs64 : s < 64 := by omega
  clear e1 e2 f1 f2 b1 b3 hs
  go_enter Tryz.func131, Tryz.ntmps131
  go_wp2_with fail
  refine hc.mono ?_
  rintro e w1 ⟨rfl, rfl⟩
  go_wp2
  go_ret
  exact ⟨s, rfl, hs64, HA.out, HB.out, rfl⟩

/-! ### the long division's mathematics -/
theorem top_ge {ys zs : List Int} {m : Nat} {P : Int} (hy : AllW ys) (hz : AllW zs) (hyl : ys.length = m + 2) (hzl : zs.length = m + 2) (hP : 0 < P) (ht : 9223372036854775808 ≤ lm ys (m + 1) * P) (hv : val zs = val ys * P) : 9223372036854775808 ≤ lm zs (m + 1) := by
  have e1 : val ys = vS ys (m + 1) + lm ys (m + 1) * pw (m + 1) := by unfold val; rw [hyl]; rfl
  have e2 : val zs = vS zs (m + 1) + lm zs (m + 1) * pw (m + 1) := by unfold val; rw [hzl]; rfl
  have h1 := (vS_nn hy (m + 1)).1
  have h2 := (vS_nn hz (m + 1)).2
  have hp := pw_pos (m + 1)
  have h3 : lm ys (m + 1) * P * pw (m + 1) ≤ val zs := by
    rw [hv, e1, Int.add_mul, Int.mul_right_comm]
    have := Int.mul_nonneg h1 (Int.le_of_lt hP)
    omega
  have h4 : 9223372036854775808 * pw (m + 1) ≤ lm ys (m + 1) * P * pw (m + 1) := Int.mul_le_mul_of_nonneg_right ht (by omega)
  have h5 : 9223372036854775808 * pw (m + 1) < (lm zs (m + 1) + 1) * pw (m + 1) := by rw [Int.add_mul (lm zs (m + 1)), Int.one_mul]; omega
  have := Int.lt_of_mul_lt_mul_right h5 (by omega)
  omega
/-- A list whose value is small: the limbs from there on are noughts. -/
theorem lm_small {us : List Int} (hu : AllW us) {k : Nat} (h : val us < pw k) {i : Nat} (hi : k ≤ i) : lm us i = 0 := by
  rcases Nat.lt_or_ge i us.length with hl | hl
  · have h1 := val_lt_tlen hu
    have h2 : tlen us ≤ k := by
      rcases Nat.lt_or_ge k (tlen us) with g | g
      · have := val_ge hu (by omega)
        have := pw_mono (a := k) (b := tlen us - 1) (by omega)
        omega
      · exact g
    exact (tl_spec us us.length).1 i (by unfold tlen at h2; omega) hl
  · exact lm_ge hl
theorem val_take {us : List Int} (hu : AllW us) {k : Nat} (hk : k ≤ us.length) (h : val us < pw k) : val (us.take k) = val us := by
  have e : vS us k = val us := by
    rw [← vS_long (us := us) (n := us.length) (Nat.le_refl _)]
    exact (vS_tail hk (fun i h1 _ => lm_small hu h h1)).symm
  rw [← e]
  unfold val
  rw [List.length_take, Nat.min_eq_left hk]
  exact vS_congr fun i hi => lm_take hi
/-- One limb of the quotient. -/
theorem div_step {us U : List Int} {m j : Nat} {D : Int} (hu : AllW us) (hD : D < pw (m + 2)) (hD0 : 0 < D) (hl : U.length = us.length) (hlt : val us < D * pw (j + 1)) (hfar : ∀ i, i < j ∨ j + (m + 3) ≤ i → lm U i = lm us i) (hsg : sg U j (m + 3) = sg us j (m + 3) % D) (hfit : j + (m + 3) ≤ us.length) :
    val us = sg us j (m + 3) / D * pw j * D + val U ∧ val U < D * pw j := by
  have hz : ∀ i, j + (m + 3) ≤ i → lm us i = 0 := fun i hi => by
    refine lm_small hu (k := j + (m + 3)) ?_ hi
    have h1 : D * pw (j + 1) < pw (m + 2) * pw (j + 1) := Int.mul_lt_mul_of_pos_right hD (pw_pos _)
    rw [← pw_add] at h1
    have h2 := pw_mono (a := m + 2 + (j + 1)) (b := j + (m + 3)) (by omega)
    omega
  have e1 : val us = vS us j + pw j * sg us j (m + 3) := by
    rw [← sg_split, ← vS_long (us := us) (n := us.length) (Nat.le_refl _)]
    exact vS_tail hfit (fun i h1 _ => hz i h1)
  have e2 : val U = vS us j + pw j * sg U j (m + 3) := by
    have e3 : vS U j = vS us j := vS_congr fun i hi => hfar i (.inl hi)
    rw [← e3, ← sg_split, ← vS_long (us := U) (n := U.length) (Nat.le_refl _)]
    exact vS_tail (by omega) (fun i h1 _ => by rw [hfar i (.inr h1)]; exact hz i h1)
  have hd := Int.mul_ediv_add_emod (sg us j (m + 3)) D
  have hm := Int.emod_lt_of_pos (sg us j (m + 3)) hD0
  have hn := vS_nn hu j
  have hp := pw_pos j
  rw [hsg] at e2
  generalize sg us j (m + 3) / D = q at *
  generalize sg us j (m + 3) % D = r at *
  constructor
  · rw [e1, e2, ← hd, Int.mul_add]
    have : pw j * (D * q) = q * pw j * D := by ac_rfl
    omega
  · rw [e2]
    have h1 : pw j * (r + 1) ≤ pw j * D := Int.mul_le_mul_of_nonneg_left (by omega) (by omega)
    rw [Int.mul_add, Int.mul_one] at h1
    rw [Int.mul_comm D]
    omega
theorem allW_drop2 {xs : List Int} (hx : AllW xs) (q : Nat) : AllW (xs.drop q) := fun x h => hx x (List.mem_of_mem_drop h)
theorem sg_lt {us : List Int} {m j : Nat} {D : Int} (hu : AllW us) (hlt : val us < D * pw (j + 1)) (hfit : j + (m + 3) ≤ us.length) : sg us j (m + 3) < D * 18446744073709551616 := by
  have h1 : vS us (j + (m + 3)) ≤ val us := by
    have e := vS_split2 us (j + (m + 3)) (us.length - (j + (m + 3)))
    rw [show j + (m + 3) + (us.length - (j + (m + 3))) = us.length by omega] at e
    have e3 : vS us us.length = val us := rfl
    have h2 := (vS_nn (allW_drop2 hu (j + (m + 3))) (us.length - (j + (m + 3)))).1
    have h3 := Int.mul_nonneg (Int.le_of_lt (pw_pos (j + (m + 3)))) h2
    omega
  rw [sg_split] at h1
  have hn := (vS_nn hu j).1
  have hp := pw_pos j
  have h2 : sg us j (m + 3) * pw j < D * 18446744073709551616 * pw j := by
    rw [Int.mul_comm, Int.mul_assoc, Int.mul_comm 18446744073709551616 (pw j), ← pw_succ]
    omega
  exact Int.lt_of_mul_lt_mul_right h2 (by omega)
end Go.Proofs.YtfelogbfijomiabGreatDoor

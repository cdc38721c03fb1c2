import Derived.Test.YtogdpgfccbohnacDoorGcdE
namespace Go.Proofs.YtogdpgfccbohnacDoor
open Go.RowKit

theorem two_unique {a b m n : Nat} (h : 2 ^ a * (2 * m + 1) = 2 ^ b * (2 * n + 1)) : a = b := by
  rcases Nat.lt_trichotomy a b with g | g | g
  · exfalso
    obtain ⟨c, rfl⟩ : ∃ c, b = a + (c + 1) := ⟨b - a - 1, by omega⟩
    rw [Nat.pow_add, Nat.mul_assoc] at h
    have := Nat.eq_of_mul_eq_mul_left (Nat.pow_pos (by decide)) h
    rw [Nat.pow_succ, Nat.mul_comm (2 ^ c) 2, Nat.mul_assoc] at this
    omega
  · exact g
  · exfalso
    obtain ⟨c, rfl⟩ : ∃ c, a = b + (c + 1) := ⟨a - b - 1, by omega⟩
    rw [Nat.pow_add, Nat.mul_assoc] at h
    have := Nat.eq_of_mul_eq_mul_left (Nat.pow_pos (by decide)) h
    rw [Nat.pow_succ, Nat.mul_comm (2 ^ c) 2, Nat.mul_assoc] at this
    omega
/-- A number in memory of one's own that may be worked on in place: nought has no limb. -/
def Mine (w : World) (B : Nat) (a : Option Addr) (n cap x S : Nat) : Prop := x = 0 ∧ n = 0 ∨ 0 < x ∧ ∃ g, a = some ⟨g, 0, none⟩ ∧ Seg w B g 0 n cap x S
theorem Mine.below {w w' : World} {B : Nat} {a : Option Addr} {n cap x S : Nat} (h : Mine w B a n cap x S) (hb : Below w.heap.size w w') : Mine w' B a n cap x S := by
  rcases h with h | ⟨h, g, e, h2⟩
  · exact .inl h
  · exact .inr ⟨h, g, e, h2.below hb⟩

set_option maxRecDepth 100000 in
set_option maxHeartbeats 4000000 in
theorem gcdTwo_any {B : Nat} {ag : Option Addr} {ng cg x : Nat} {a : Option Addr} {na ca y S R : Nat} (w : World) (hg : Mine w B ag ng cg x S) (ha : Num w a na ca y R) (hS : S ≤ 9000000) (hR : R + 2 ≤ S) (hBw : B ≤ w.heap.size) (hT : TabAt 6 Lib.deBruijn64tab w) (hgt : 6 < B) :
    Calls Tryd.prog 36 #[.slice ag ng cg, .slice a na ca] w fun e w' => ∃ c n cc, e = .returned (.slice c n cc) ∧ Mine w' B c n cc (Nat.gcd x y) S ∧ Below B w w' := by
  obtain ⟨ys, a1, a2, a3, a4, a5, a6⟩ := ha
  have Ha : Hid (na = ys.length) := a1
  have hl : tlen ys ≤ ys.length := tl_le _ _
  have HVT : Hid (val (trimL ys) = (y : Int)) := by show _ = _; rw [val_trimL]; exact a5
  have HTT : Hid (tlen (trimL ys) = tlen ys) := tlen_trimL ys
  have HTL : Hid ((trimL ys).length = tlen ys) := length_trimL ys
  have hW := a4.trim
  have HZ : Hid (tlen ys = 0 ↔ (y : Int) = 0) := by rw [← a5]; exact tlen_zero a4
  have hlR : tlen ys ≤ R := by omega
  have hylt : (y : Int) < pw R := by rw [← a5]; exact Int.lt_of_lt_of_le (val_lt_tlen a4) (pw_mono hlR)
  go_enter Tryd.func36, Tryd.ntmps36
  clear a1 a5 hl
  go_wp2_with fail
  refine (norm_any a na ca ys w Ha.out a2 (by omega) a3).mono ?_
  rintro e w1 ⟨g1, rfl, hg1, hB1, hb1⟩
  clear a2 a3 a4 a6 Ha
  generalize trimL ys = zs at *
  generalize tlen ys = tn at *
  have hg1' := hg.below hb1
  have hT1 := tab_below hT (hb1.mono hBw) hgt
  have hbel1 : Below B w w1 := hb1.mono hBw
  have hBg : B ≤ g1 := by omega
  have hM1 : 0 < y → Seg w1 B g1 0 tn tn y S := fun hy => by
    refine ⟨zs, hB1, hBg, by rw [HTL.out]; omega, Nat.le_refl _, by rw [HTL.out]; omega, hW, ?_, ?_⟩
    · rw [List.drop_zero, ← HTL.out, List.take_length]; rw [HTL.out]; exact HTT.out
    · rw [List.drop_zero, ← HTL.out, List.take_length]; exact HVT.out
  have hdis : ∀ g0, B ≤ g0 → g0 < w.heap.size → g0 ≠ g1 := fun g0 _ h => by omega
  have hold := hg
  clear hg hB1 hb1 hT
  rcases Nat.eq_zero_or_pos x with h0 | h0
  · have hn0 : ng = 0 := by rcases hold with ⟨_, h⟩ | ⟨h, _⟩; exact h; omega
    subst h0 hn0
    have hFIN : Mine w1 B (some ⟨g1, 0, none⟩) tn tn (Nat.gcd 0 y) S := by
      rw [Nat.gcd_zero_left]
      rcases Nat.eq_zero_or_pos y with h | h
      · exact .inl ⟨h, HZ.out.2 (by omega)⟩
      · exact .inr ⟨h, g1, rfl, hM1 h⟩
    clear hold hg1' hM1
    go_wp2
    go_ret
    exact ⟨_, _, _, rfl, hFIN, hbel1⟩
  · obtain ⟨g0, rfl, hsg0⟩ : ∃ g0, ag = some ⟨g0, 0, none⟩ ∧ Seg w B g0 0 ng cg x S := by
      rcases hold with ⟨h, _⟩ | ⟨_, h⟩
      · omega
      · exact h
    have hgl := hsg0.lt
    have hne : g0 ≠ g1 := hdis g0 hgl.1 hgl.2
    have hsg1 : Seg w1 B g0 0 ng cg x S := by
      rcases hg1' with ⟨h, _⟩ | ⟨_, g, e, h⟩
      · omega
      · cases e; exact h
    have hng := hsg1.pos h0
    have hng' : ((ng : Int) == 0) = false := beq_eq_false_iff_ne.2 (by omega)
    clear hold hg1' hdis hsg0
    rcases Nat.eq_zero_or_pos y with hy | hy
    · have htn : tn = 0 := HZ.out.2 (by omega)
      subst htn
      have hFIN : Mine w1 B (some ⟨g0, 0, none⟩) ng cg (Nat.gcd x y) S := by
        rw [hy, Nat.gcd_zero_right]
        exact .inr ⟨h0, g0, rfl, hsg1⟩
      clear hM1 hsg1
      go_wp2
      go_ret
      exact ⟨_, _, _, rfl, hFIN, hbel1⟩
    · have hseg2 := hM1 hy
      have htn := hseg2.pos hy
      have htn' : ((tn : Int) == 0) = false := beq_eq_false_iff_ne.2 (by omega)
      have hc1 := fun wz (h : Seg wz B g0 0 ng cg x S) (ht : TabAt 6 Lib.deBruijn64tab wz) => countTwos_any wz h h0 (by omega) ht
      have hc2 := fun wz (h : Seg wz B g1 0 tn tn y S) (ht : TabAt 6 Lib.deBruijn64tab wz) => countTwos_any wz h hy (by omega) ht
      clear hM1
      go_wp2_with fail
      refine (hc1 w1 hsg1 hT1).mono ?_
      rintro e wz ⟨K1, M1, rfl, hK1, hKb1, rfl⟩
      go_wp2_with fail
      refine (hc2 w1 hseg2 hT1).mono ?_
      rintro e wz ⟨K2, M2, rfl, hK2, hKb2, rfl⟩
      obtain ⟨T, hTm⟩ : ∃ T, min K1 K2 = T := ⟨_, rfl⟩
      have MI : min (K1 : Int) (K2 : Int) = (T : Int) := by omega
      have hTb : T ≤ 6400000000 := by omega
      have HK1 : Hid (x = 2 ^ K1 * (2 * M1 + 1)) := hK1
      have HK2 : Hid (y = 2 ^ K2 * (2 * M2 + 1)) := hK2
      have HTM : Hid (min K1 K2 = T) := hTm
      have hl1 := leaveOdd_any w1 hsg1 h0 (by omega) hT1
      clear hc1 hc2 hK1 hK2 hTm hsg1
      go_wp2_with fail
      refine hl1.mono ?_
      rintro e w2 ⟨K3, M3, o3, n3, c3, rfl, hK3, hS3, hO3⟩
      have hbel2 := hbel1.trans (hO3.below hgl.1)
      have hsg2 := hseg2.off hO3 (fun e => hne e.symm)
      have hT2 := tab_below hT1 (hO3.below hgl.1) hgt
      have HK3 : Hid (x = 2 ^ K3 * (2 * M3 + 1)) := hK3
      have hl2 := leaveOdd_any w2 hsg2 hy (by omega) hT2
      clear hl1 hseg2 hT1 hbel1 hO3 hK3 hsg2
      go_wp2_with fail
      refine hl2.mono ?_
      rintro e w3 ⟨K4, M4, o4, n4, c4, rfl, hK4, hS4, hO4⟩
      have hbel3 := hbel2.trans (hO4.below hBg)
      have hS5 := hS3.off hO4 hne
      have hT3 := tab_below hT2 (hO4.below hBg) hgt
      have HK4 : Hid (y = 2 ^ K4 * (2 * M4 + 1)) := hK4
      have hgo := gcdOdd_any w3 hS5 hS4 hne (by omega) (by omega) hS hT3 hgt
      clear hl2 hS3 hT2 hbel2 hO4 hK4 hS4 hS5
      go_wp2_with fail
      refine hgo.mono ?_
      rintro e w4 ⟨c5, n5, d5, rfl, hN5, hge, hb4⟩
      have hbel4 := hbel3.trans hb4
      obtain ⟨G, hG⟩ : ∃ G, Nat.gcd (2 * M3 + 1) (2 * M4 + 1) = G := ⟨_, rfl⟩
      rw [hG] at hN5 hge
      have HGX : Hid (Nat.gcd x y = 2 ^ T * G) := by
        show _ = _
        have e1 := two_unique (HK1.out.symm.trans HK3.out)
        have e2 := two_unique (HK2.out.symm.trans HK4.out)
        rw [HK3.out, HK4.out, gcd_twos (by omega) (by omega), hG, ← e1, ← e2, HTM.out]
      obtain ⟨xs, i1, i2, i3, i4, i5, i6⟩ := hN5
      have hgpos : 0 < Nat.gcd x y := Nat.gcd_pos_of_pos_left y h0
      have hgle : Nat.gcd x y ≤ y := Nat.gcd_le_right x hy
      have HLEN : Hid (T / 64 + n5 + 1 ≤ S) := by
        show _ ≤ _
        have e1 : ((Nat.gcd x y : Nat) : Int) = 2 ^ T * (G : Int) := by rw [HGX.out, Int.natCast_mul, Int.natCast_pow]; rfl
        have e2 : pw (T / 64) ≤ (2 : Int) ^ T := by
          rw [pw2]
          obtain ⟨r, hr⟩ := Nat.le.dest (show 64 * (T / 64) ≤ T by omega)
          rw [← hr, Int.pow_add]
          have h1 : (0 : Int) < 2 ^ (64 * (T / 64)) := Int.pow_pos (by decide)
          have h2 : (0 : Int) < 2 ^ r := Int.pow_pos (by decide)
          have h3 := Int.mul_le_mul_of_nonneg_left (a := 1) (b := 2 ^ r) (c := 2 ^ (64 * (T / 64))) (by omega) (by omega)
          rw [Int.mul_one] at h3
          rw [hr]
          exact h3
        have e3 : pw (T / 64) * pw (n5 - 1) ≤ 2 ^ T * (G : Int) := Int.mul_le_mul e2 hge (Int.le_of_lt (pw_pos _)) (Int.le_of_lt (Int.pow_pos (by decide)))
        rw [← pw_add, ← e1] at e3
        rcases Nat.lt_or_ge (T / 64 + (n5 - 1)) R with h | h
        · omega
        · have := pw_mono h
          omega
      have HFV : Hid ((G : Int) * 2 ^ T = ((Nat.gcd x y : Nat) : Int)) := by show _ = _; rw [HGX.out, Int.natCast_mul, Int.natCast_pow, Int.mul_comm]; rfl
      have hsu := shiftUp_any c5 n5 d5 xs T (T / 64) (T % 64) w4 i1 (by omega) (by omega) rfl rfl i3 i4
      rw [i5, HFV.out] at hsu
      have hB4 : B ≤ w4.heap.size := Nat.le_trans hBw hbel4.size
      obtain ⟨q, hq⟩ : ∃ q, T / 64 = q := ⟨_, rfl⟩
      rw [hq] at hsu HLEN
      clear hgo hT3 hbel3 hb4 hge i1 i2 i3 i4 i5 i6 hG HFV hq
      go_wp2_with fail
      refine hsu.mono ?_
      rintro e w5 ⟨U, rfl, hU, hUl, hUw, hUv, hb5⟩
      have hbel5 := hbel4.trans (hb5.mono hB4)
      have hre : Reads w5 (some ⟨w4.heap.size, 0, none⟩) U := by have := hU.reads U.length; rwa [List.take_length] at this
      have hle : tlen U ≤ U.length := tl_le _ _
      have HUL : Hid (U.length = q + n5 + 1) := hUl
      have hFIN : Mine w5 B (some ⟨w4.heap.size, 0, none⟩) (tlen U) (q + n5 + 1) (Nat.gcd x y) S := by
        refine .inr ⟨hgpos, w4.heap.size, rfl, U, hU, hB4, by omega, by omega, by have := HLEN.out; omega, hUw, ?_, ?_⟩
        · rw [List.drop_zero]; exact (show tlen (trimL U) = tlen U from tlen_trimL U)
        · rw [List.drop_zero]; exact (show val (trimL U) = _ by rw [val_trimL]; exact hUv)
      clear hsu hU hUl hUv hUw
      go_wp2_with fail
      refine (trim_any (some ⟨w4.heap.size, 0, none⟩) (q + n5 + 1) (q + n5 + 1) U w5 HUL.out.symm (Nat.le_refl _) (by have := HLEN.out; omega) hre).mono ?_
      rintro e wsame ⟨rfl, rfl⟩
      clear hre
      go_wp2
      go_ret
      exact ⟨_, _, _, rfl, hFIN, hbel5⟩
end Go.Proofs.YtogdpgfccbohnacDoor

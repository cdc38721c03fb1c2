import Derived.Test.YtogdpgfccbohnacDoorGcdB
namespace Go.Proofs.YtogdpgfccbohnacDoor
open Go.RowKit

theorem drop_take_drop (us : List Int) (o n q : Nat) : ((us.drop o).take n).drop q = (us.drop (o + q)).take (n - q) := by
  rw [List.drop_take, List.drop_drop]
theorem val_drop2 {xs : List Int} (hx : AllW xs) {q : Nat} (hq : q ≤ xs.length) : val (xs.drop q) = val xs / pw q := by
  have e := vS_split2 xs q (xs.length - q)
  rw [show q + (xs.length - q) = xs.length by omega] at e
  have e2 : vS (xs.drop q) (xs.length - q) = val (xs.drop q) := by unfold val; rw [List.length_drop]
  rw [e2] at e
  have h := vS_nn hx q
  have hp := pw_pos q
  show _ = vS xs xs.length / pw q
  rw [e, Int.add_mul_ediv_left _ _ (by omega), Int.ediv_eq_zero_of_lt h.1 h.2]
  omega
theorem SDown.seg {us U : List Int} {o m : Nat} {P Q : Int} (h : SDown us o m P Q m U) (hm : o + m ≤ us.length) (hu : AllW us) (hPQ : P * Q = 18446744073709551616) (hP : 0 < P) {n : Nat} (hQ : Q = 2 ^ (64 - n)) : AllW U ∧ U.length = us.length ∧ Go.Proofs.YtogdpgfccbohnacDoor.val ((U.drop o).take m) = Go.Proofs.YtogdpgfccbohnacDoor.val ((us.drop o).take m) / P := by
  obtain ⟨h1, h2, h3⟩ := h
  have hw := seg_w hu o m
  refine ⟨?_, h1, ?_⟩
  · intro x hx
    obtain ⟨j, hj, e⟩ := List.getElem_of_mem hx
    have e2 : lm U j = x := by unfold lm; rw [List.getD_eq_getElem?_getD, List.getElem?_eq_getElem hj, e]; rfl
    rw [← e2]
    rcases (by omega : (j < o ∨ o + m ≤ j) ∨ (o ≤ j ∧ j < o + m)) with g | ⟨g1, g2⟩
    · rw [h2 j g]; exact hu.at j
    · have := h3 (j - o) (by omega)
      rw [show o + (j - o) = j by omega] at this
      rw [this]
      exact (sdl_or hw hPQ hP hQ (j - o)).1
  · refine sdl_val hPQ hP (by rw [seg_list hm, seg_list (by omega)]) fun j hj => ?_
    rw [seg_list hm] at hj
    rw [seg_lm hj, h3 j hj]

set_option maxHeartbeats 1000000 in
/-- Halved, in place, as often as it goes. -/
theorem leaveOdd_any {B g o n cap x S : Nat} (w : World) (h : Seg w B g o n cap x S) (hx : 0 < x) (hS : S ≤ 100000000) (hT : TabAt 6 Lib.deBruijn64tab w) :
    Calls Tryd.prog 47 #[.slice (some ⟨g, o, none⟩) n cap] w fun e w' => ∃ K M o' n' cap', e = .returned (.slice (some ⟨g, o', none⟩) n' cap') ∧ x = 2 ^ K * (2 * M + 1) ∧ Seg w' B g o' n' cap' (2 * M + 1) S ∧ Off g w w' := by
  have hct := countTwos_any w h hx hS hT
  obtain ⟨us, h1, h2, h3, h4, h5, h6, h7, h8⟩ := h
  have hn : n ≤ 100000000 := by omega
  go_enter Tryd.func47, Tryd.ntmps47
  go_wp2_with fail
  refine hct.mono ?_
  rintro e w' ⟨K, M, rfl, hK, hKb, rfl⟩
  obtain ⟨q, hq⟩ : ∃ q, K / 64 = q := ⟨_, rfl⟩
  obtain ⟨s, hs⟩ : ∃ s, K % 64 = s := ⟨_, rfl⟩
  have hs64 : s < 64 := by omega
  have D1 : (K : Int) / 64 = (q : Int) := by omega
  have D2 : (K : Int) % 64 = (s : Int) := by omega
  have D3 : (K : Int).tdiv 64 = (q : Int) := by rw [Int.tdiv_eq_ediv_of_nonneg (by omega), D1]
  have D4 : (K : Int).tmod 64 = (s : Int) := by rw [Int.tmod_eq_emod_of_nonneg (by omega), D2]
  have HK : Hid (x = 2 ^ K * (2 * M + 1)) := hK
  have hxI : (x : Int) = 2 ^ K * ((2 * M + 1 : Nat) : Int) := by rw [hK, Int.natCast_mul, Int.natCast_pow]; rfl
  have hsl := seg_list h3
  have hsw := seg_w h6 o n
  have hPK : (2 : Int) ^ K = pw q * 2 ^ s := by rw [pw2, ← Int.pow_add, show 64 * q + s = K by omega]
  have hqn : q < n := by
    rcases Nat.lt_or_ge q n with h | h
    · exact h
    · exfalso
      have hv := val_lt hsw
      rw [h8, hsl, hxI, hPK] at hv
      have h9 := pw_mono h
      have h10 : (0 : Int) < 2 ^ s := Int.pow_pos (by decide)
      have h11 := Int.mul_le_mul_of_nonneg_left (a := 1) (b := 2 ^ s * ((2 * M + 1 : Nat) : Int)) (c := pw q) (by have := Int.mul_pos h10 (by omega : (0 : Int) < ((2 * M + 1 : Nat) : Int)); omega) (Int.le_of_lt (pw_pos q))
      rw [Int.mul_one, ← Int.mul_assoc] at h11
      omega
  have hqI : (q : Int) ≤ (n : Int) := by omega
  have HVQ : Hid (val ((us.drop (o + q)).take (n - q)) = 2 ^ s * ((2 * M + 1 : Nat) : Int)) := by
    show _ = _
    rw [← drop_take_drop, val_drop2 hsw (by rw [hsl]; omega), h8, hxI, hPK, Int.mul_assoc, Int.mul_ediv_cancel_left _ (by have := pw_pos q; omega)]
  have hSD := shiftDown_any g (o + q) (n - q) (cap - q) s us w h1 h6 (by omega) (by omega) (by omega) hs64 _ _ rfl rfl
  clear hK hxI hPK hsl hsw h7 h8 hq hs hct
  go_wp2_with fail
  refine hSD.mono ?_
  rintro e w2 ⟨rfl, U, hU, hS2, hO⟩
  obtain ⟨u1, u2, u3⟩ := hS2.seg (by omega) h6 (by rw [← Int.pow_add, show s + (64 - s) = 64 by omega]; rfl) (Int.pow_pos (by decide)) rfl
  rw [HVQ.out, Int.mul_ediv_cancel_left _ (by have : (0 : Int) < 2 ^ s := Int.pow_pos (by decide); omega)] at u3
  have hfit : o + q + (n - q) ≤ U.length := by omega
  have hre := seg_reads hU hfit
  have hll := seg_list hfit
  have hle : tlen ((U.drop (o + q)).take (n - q)) ≤ n - q := by have := tl_le ((U.drop (o + q)).take (n - q)) ((U.drop (o + q)).take (n - q)).length; rw [hll] at this; unfold tlen; rw [hll]; exact this
  have HLL : Hid (n - q = ((U.drop (o + q)).take (n - q)).length) := hll.symm
  have HSEG : Hid (Seg w2 B g (o + q) (tlen ((U.drop (o + q)).take (n - q))) (cap - q) (2 * M + 1) S) := by
    have e1 : (U.drop (o + q)).take (tlen ((U.drop (o + q)).take (n - q))) = trimL ((U.drop (o + q)).take (n - q)) := by
      unfold trimL
      rw [List.take_take, Nat.min_eq_left hle]
    refine ⟨U, hU, h2, by omega, by omega, by omega, u1, ?_, ?_⟩
    · rw [e1, tlen_trimL]
    · rw [e1, val_trimL, u3]
  clear hSD hS2 u1 u2 u3 hU hll
  go_wp2_with fail
  refine (trim_any (some ⟨g, o + q, none⟩) (n - q) (cap - q) ((U.drop (o + q)).take (n - q)) w2 HLL.out (by omega) (by omega) hre).mono ?_
  rintro e wsame ⟨rfl, rfl⟩
  clear hre
  go_wp2
  go_ret
  exact ⟨K, M, _, _, _, rfl, HK.out, HSEG.out, hO⟩
end Go.Proofs.YtogdpgfccbohnacDoor

import Derived.Test.YtfelogbfijomiaaDoorValH
import Derived.Test.YtfelogbfijomiaaDoorLow
namespace Go.Proofs.YtfelogbfijomiaaDoor
open Go.RowKit

/-- Two halves a limb. -/
def nbL (c : List Int) : List Int := (List.range ((c.length + 1) / 2)).map fun (k : Nat) => lm c (2 * k) + 4294967296 * lm c (2 * k + 1)
theorem length_nbL (c : List Int) : (nbL c).length = (c.length + 1) / 2 := by simp [nbL]
theorem lm_nbL (c : List Int) (k : Nat) : lm (nbL c) k = lm c (2 * k) + 4294967296 * lm c (2 * k + 1) := by
  by_cases h : k < (c.length + 1) / 2
  · simp [lm, nbL, h]
  · rw [lm_ge (by rw [length_nbL]; omega), lm_ge (us := c) (by omega), lm_ge (us := c) (by omega)]; rfl
theorem allW_nbL {c : List Int} (h : AllH c) : AllW (nbL c) := by
  intro x hx
  simp only [nbL, List.mem_map] at hx
  obtain ⟨k, _, rfl⟩ := hx
  have a := h.at (2 * k)
  have b := h.at (2 * k + 1)
  exact ⟨by omega, by omega⟩
theorem vS_nbL (c : List Int) (n : Nat) : vS (nbL c) n = vH c (2 * n) := by
  induction n with
  | zero => rfl
  | succ n ih =>
    rw [show 2 * (n + 1) = 2 * n + 1 + 1 by omega]
    simp only [vH, vS]
    rw [ih, lm_nbL, pwH_succ, pwH_two, Int.add_mul, Int.mul_comm 4294967296, Int.mul_assoc, Int.mul_comm 4294967296]
    omega
theorem val_nbL (c : List Int) : val (nbL c) = valH c := by
  unfold val
  rw [length_nbL, vS_nbL, vH_long (by omega)]
theorem nf_nbL {c : List Int} (h : AllH c) (ht : tlen c = c.length) : NF (nbL c) := by
  refine ⟨allW_nbL h, ?_⟩
  unfold tlen
  rw [length_nbL]
  refine tl_unique _ _ _ (Nat.le_refl _) (fun i h1 h2 => by omega) (fun hp => ?_)
  have hc : 0 < c.length := by omega
  have hne := (tl_spec c c.length).2 (by have : tl c c.length = c.length := ht; omega)
  have e : tl c c.length = c.length := ht
  rw [e] at hne
  rw [lm_nbL]
  have a := h.at (2 * ((c.length + 1) / 2 - 1))
  have b := h.at (2 * ((c.length + 1) / 2 - 1) + 1)
  have hpar : c.length % 2 = 0 ∨ c.length % 2 = 1 := by omega
  rcases hpar with hk | hk
  · have e2 : 2 * ((c.length + 1) / 2 - 1) + 1 = c.length - 1 := by omega
    rw [e2] at b ⊢
    omega
  · have e2 : 2 * ((c.length + 1) / 2 - 1) = c.length - 1 := by omega
    rw [e2] at a ⊢
    omega
/-- What 'number' makes of half limbs. -/
def numL (hs : List Int) : List Int := nbL (trimL hs)
theorem nf_numL {hs : List Int} (h : AllH hs) : NF (numL hs) ∧ val (numL hs) = valH hs ∧ (numL hs).length ≤ hs.length := by
  have ht : tlen hs ≤ hs.length := tl_le _ _
  refine ⟨nf_nbL h.trim (by rw [tlen_trimL, length_trimL]), ?_, ?_⟩
  · unfold numL; rw [val_nbL, valH_trimL]
  · unfold numL; rw [length_nbL, length_trimL]; omega

set_option maxHeartbeats 1000000 in
theorem number_any (a : Option Addr) (n cap : Nat) (hs : List Int) (w : World) (hn : n = hs.length) (hl : n ≤ cap) (hm : n ≤ 1000000000) (hr : Reads w a hs) (hh : AllH hs) :
    Calls Tryd.prog 82 #[.slice a n cap] w fun e w' => ∃ c cc, e = .returned (.slice c (numL hs).length cc) ∧ OwnV w' w.heap.size (.slice c (numL hs).length cc) (numL hs) ∧ Below w.heap.size w w' := by
  have ht : tlen hs ≤ hs.length := tl_le _ _
  subst hn
  go_enter Tryd.func82, Tryd.ntmps82
  go_wp2_with fail
  refine (rcut_any a _ cap hs _ rfl hl (by omega) hr).mono ?_
  rintro e w1 ⟨rfl, rfl⟩
  have HL : Hid ((trimL hs).length = tlen hs) := length_trimL hs
  have hr2 : Reads w a (trimL hs) := hr.take _
  have hh2 : AllH (trimL hs) := hh.trim
  have HD : Hid (numL hs = nbL (trimL hs)) := rfl
  clear hr hh
  generalize trimL hs = c at *
  generalize tlen hs = t at *
  have HNB : Hid ((nbL c).length = (t + 1) / 2) := by show _ = _; rw [length_nbL, HL.out]
  go_wp2
  go_loopw [4, 5] (fun v s wr => ∃ k : Nat, k ≤ (t + 1) / 2 ∧ s = .int .i64 (2 * (k : Int)) ∧ OwnV wr w.heap.size v ((nbL c).take k) ∧ Below w.heap.size w wr) (fun _ s _ => t + 2 - (intOf s).toNat)
  case atStart => exact ⟨0, Nat.zero_le _, rfl, OwnV.nil _ _, Below.refl _ _⟩
  case round =>
    obtain ⟨k, hk, rfl, hown, hbel⟩ := hrel
    by_cases hlt : 2 * k < t
    · obtain ⟨b1, o1, rfl, hc1⟩ := hr2.at (by rw [HL.out]; omega)
      have hl2 : 2 * (k : Int) < (t : Int) := by omega
      have h1 := hc1 (2 * k) (by rw [HL.out]; exact hlt)
      have hb1 := World.block_lt_of_cell? _ _ h1
      have g1 : wr.cell? ⟨b1, o1 + 2 * k, none⟩ = some (.int .u64 (lm c (2 * k))) := by rw [hbel.cell (p := ⟨b1, o1 + 2 * k, none⟩) (by simpa using hb1)]; exact h1
      obtain ⟨x0, x1⟩ := hh2.at (2 * k)
      obtain ⟨y0, y1⟩ := hh2.at (2 * k + 1)
      have HK : Hid (((nbL c).take k).length = k) := by show _ = _; rw [List.length_take, HNB.out]; omega
      have HT : Hid ((nbL c).take k ++ [lm c (2 * k) + 4294967296 * lm c (2 * k + 1)] = (nbL c).take (k + 1)) := by show _ = _; rw [← lm_nbL]; exact take_snoc_lm _ _ (by rw [HNB.out]; omega)
      have hsz := hbel.size
      have hrow : ∀ q, u4.ownBlock = some q → w.heap.size ≤ q := fun q hq => (hown.lt q hq).1
      by_cases hlt2 : 2 * k + 1 < t
      · have hl3 : 2 * (k : Int) + 1 < (t : Int) := by omega
        have h2 := hc1 (2 * k + 1) (by rw [HL.out]; exact hlt2)
        have g2 : wr.cell? ⟨b1, o1 + (2 * k + 1), none⟩ = some (.int .u64 (lm c (2 * k + 1))) := by rw [hbel.cell (p := ⟨b1, o1 + (2 * k + 1), none⟩) (by simpa using hb1)]; exact h2
        clear hc1 h1 h2 hh2
        generalize (nbL c).take k = F at *
        generalize lm c (2 * k) = X at *
        generalize lm c (2 * k + 1) = Z at *
        go_wp2_with (at_builtin; refine wpList_append1 23 Tryd.underlying23 _ rfl _ _ rfl w.heap.size u4 F k HK rfl (hown.alloc _) wr.heap.size _ (X + 4294967296 * Z) rfl (cell_new1 rfl) (by omega) (by simp; omega) (wr.heap.size + 1) (by simp) ?_)
        intro g cap1 w1 hown1 hgrow _ _
        have hbel1 : Below w.heap.size w w1 := hbel.trans (((Below.refl _ _).alloc (by omega) _).trans (grown_below hgrow (by simp; omega) hrow))
        rw [HT.out] at hown1
        clear hgrow hown
        go_wp2
        go_roundw
        case rel => exact ⟨k + 1, by omega, by go_num, hown1, hbel1⟩
        case measure => simp [intOf]; omega
      · have hl3 : ¬ 2 * (k : Int) + 1 < (t : Int) := by omega
        have hz : lm c (2 * k + 1) = 0 := lm_ge (by rw [HL.out]; omega)
        have HT2 : Hid ((nbL c).take k ++ [lm c (2 * k)] = (nbL c).take (k + 1)) := by show _ = _; rw [← HT.out, hz]; simp
        clear hc1 h1 hh2 HT hz y0 y1
        generalize (nbL c).take k = F at *
        generalize lm c (2 * k) = X at *
        go_wp2_with (at_builtin; refine wpList_append1 23 Tryd.underlying23 _ rfl _ _ rfl w.heap.size u4 F k HK rfl (hown.alloc _) wr.heap.size _ X rfl (cell_new1 rfl) (by omega) (by simp; omega) (wr.heap.size + 1) (by simp) ?_)
        intro g cap1 w1 hown1 hgrow _ _
        have hbel1 : Below w.heap.size w w1 := hbel.trans (((Below.refl _ _).alloc (by omega) _).trans (grown_below hgrow (by simp; omega) hrow))
        rw [HT2.out] at hown1
        clear hgrow hown
        go_wp2
        go_roundw
        case rel => exact ⟨k + 1, by omega, by go_num, hown1, hbel1⟩
        case measure => simp [intOf]; omega
    · obtain rfl : k = (t + 1) / 2 := by omega
      rw [← HNB.out, List.take_length, ← HD.out] at hown
      obtain ⟨c', cc, rfl⟩ := hown.slice
      go_wp2
      go_ret
      exact ⟨c', cc, rfl, hown, hbel⟩
end Go.Proofs.YtfelogbfijomiaaDoor

import Derived.Test.YtcakohejaboplaaGreatDoorQAll
namespace Go.Proofs.YtcakohejaboplaaGreatDoor
open Go.RowKit

theorem Got.one {w : World} {B : Nat} {a : Option Addr} {n c : Nat} {x : Int} {S : Nat} (h : Got w B (.slice a n c) x S) : (n = 1 → ∃ g v, a = some ⟨g, 0, none⟩ ∧ w.cell? ⟨g, 0, none⟩ = some (.int .u64 v) ∧ v = x) ∧ (x = 1 → n = 1) := by
  obtain ⟨xs, h1, h2, h3, h4⟩ := h
  rcases h1.row with ⟨e1, e2⟩ | ⟨g, c', e1, hB, hr⟩
  · subst e2
    simp only [Value.slice.injEq] at e1
    obtain ⟨rfl, rfl, rfl⟩ := e1
    refine ⟨fun h => absurd h (by decide), fun h => ?_⟩
    rw [h] at h3
    simp [Go.Proofs.YtcakohejaboplaaGreatDoor.val, vS] at h3
  · simp only [Value.slice.injEq] at e1
    obtain ⟨rfl, e2, rfl⟩ := e1
    refine ⟨fun h => ⟨g, lm xs 0, rfl, hr.cell (by omega), ?_⟩, fun h => ?_⟩
    · rw [← h3]
      have e : xs.length = 1 := by omega
      show lm xs 0 = vS xs xs.length
      rw [e]; simp [vS, pw]
    · have h5 := val_lt_tlen h2.1
      rw [e2]
      have h6 : tlen xs = xs.length := h2.2
      rw [h3, h] at h5
      have h7 := tlen_zero h2.1
      rw [h3, h] at h7
      rcases (by omega : xs.length = 1 ∨ xs.length = 0 ∨ 2 ≤ xs.length) with q | q | q
      · exact q
      · omega
      · exfalso
        obtain ⟨k, hk⟩ : ∃ k, xs.length = k + 1 := ⟨xs.length - 1, by omega⟩
        have hne := (tl_spec xs xs.length).2 (by show 0 < tlen xs; omega)
        have e3 : tl xs xs.length = k + 1 := by show tlen xs = _; omega
        rw [e3, Nat.add_sub_cancel] at hne
        have hv : Go.Proofs.YtcakohejaboplaaGreatDoor.val xs = vS xs k + lm xs k * pw k := by show vS xs xs.length = _; rw [hk]; rfl
        have b1 := (vS_nn h2.1 k).1
        have b2 := (h2.1.at k).1
        have b3 : pw 1 ≤ pw k := pw_mono (by omega)
        have b4 : pw 1 = 18446744073709551616 := by simp [pw]
        have b5 : pw k ≤ lm xs k * pw k := by
          have := Int.mul_le_mul_of_nonneg_right (show 1 ≤ lm xs k by omega) (Int.le_of_lt (pw_pos k))
          omega
        omega
end Go.Proofs.YtcakohejaboplaaGreatDoor

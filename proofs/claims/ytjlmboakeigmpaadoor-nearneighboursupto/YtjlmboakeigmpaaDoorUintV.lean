import Derived.Test.YtjlmboakeigmpaaDoorNumAll
namespace Go.Proofs.YtjlmboakeigmpaaDoor
open Go.RowKit

/-- A number as a word, if it fits. -/
def uw (m : Int) : Int := if m < 18446744073709551616 then m else 0
def uf (m : Int) : Bool := decide (m < 18446744073709551616)
/-- What a number of one limb at the most tells. -/
theorem one_limb {xs : List Int} (hx : AllW xs) : (tlen xs ≤ 1 → (if tlen xs = 1 then lm xs 0 else 0) = val xs ∧ val xs < 18446744073709551616) ∧ (1 < tlen xs → 18446744073709551616 ≤ val xs) := by
  have h1 := vS_trim xs
  have h2 := val_lt_tlen hx
  refine ⟨fun h => ?_, fun h => ?_⟩
  · rcases (by omega : tlen xs = 0 ∨ tlen xs = 1) with e | e
    · rw [e] at h1 h2
      rw [if_neg (by omega), ← h1]
      exact ⟨rfl, by simp [vS]⟩
    · rw [e] at h1 h2
      rw [if_pos e]
      have e1 : pw 1 = 18446744073709551616 := by decide
      rw [e1] at h2
      refine ⟨?_, h2⟩
      rw [← h1]; simp [vS, pw_zero]
  · have h3 := val_ge hx (by omega)
    have h4 := pw_mono (show 1 ≤ tlen xs - 1 by omega)
    have e1 : pw 1 = 18446744073709551616 := by decide
    omega
set_option maxHeartbeats 400000 in
/-- nat.Uint64 -/
theorem uintV {a : Option Addr} {n c : Nat} {m : Int} {S : Nat} (w : World) (h : Num w a n c m S) (hS : S ≤ 1000000000000) :
    Calls Tryd.prog 92 #[.slice a n c] w fun e w' => e = .returned (.tuple #[.int .u64 (uw m), .bool (uf m)]) ∧ w = w' := by
  obtain ⟨xs, hn, hl, hr, hx, rfl, hS'⟩ := h
  have ta : tlen xs ≤ xs.length := tl_le _ _
  obtain ⟨k1, k2⟩ := one_limb hx
  have HU : Hid (uw (val xs) = if tlen xs = 1 then lm xs 0 else 0) := by
    show _ = _
    unfold uw
    rcases Nat.lt_or_ge 1 (tlen xs) with h | h
    · rw [if_neg (by have := k2 h; omega), if_neg (by omega)]
    · rw [if_pos (k1 h).2, (k1 h).1]
  have HF : Hid (uf (val xs) = decide (tlen xs ≤ 1)) := by
    show _ = _
    unfold uf
    rcases Nat.lt_or_ge 1 (tlen xs) with h | h
    · rw [decide_eq_false (by have := k2 h; omega), decide_eq_false (by omega)]
    · rw [decide_eq_true (k1 h).2, decide_eq_true (by omega)]
  subst hn
  clear k1 k2
  go_enter Tryd.func92, Tryd.ntmps92
  go_wp2_with fail
  refine (trim_any a _ c xs _ rfl hl (by omega) hr).mono ?_
  rintro e w1 ⟨rfl, rfl⟩
  generalize tlen xs = m at *
  by_cases h0 : m = 0
  · subst h0
    go_wp2
    go_ret2
    exact ⟨by rw [HU.out, HF.out]; rfl, rfl⟩
  · by_cases h1 : m = 1
    · subst h1
      obtain ⟨b1, o1, rfl, hc1⟩ := hr.at (by omega)
      have cc := hc1 0 (by omega)
      rw [Nat.add_zero] at cc
      clear hc1
      go_wp2
      go_ret2
      exact ⟨by rw [HU.out, HF.out]; rfl, rfl⟩
    · have t0 : ((m : Int) == 0) = false := by simp; omega
      have t1 : ((m : Int) == 1) = false := by simp; omega
      go_wp2
      go_ret2
      refine ⟨?_, rfl⟩
      rw [HU.out, HF.out, if_neg h1]
      have : decide (m ≤ 1) = false := by simp; omega
      rw [this]; rfl
end Go.Proofs.YtjlmboakeigmpaaDoor

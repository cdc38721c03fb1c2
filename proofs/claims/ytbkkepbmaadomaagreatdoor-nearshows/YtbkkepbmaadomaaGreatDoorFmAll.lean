import Derived.Test.YtbkkepbmaadomaaGreatDoorLentAll
import Derived.Test.YtbkkepbmaadomaaGreatDoorRefAll
import Derived.Test.YtbkkepbmaadomaaGreatDoorApAll
namespace Go.Proofs.YtbkkepbmaadomaaGreatDoor
open Go.RowKit

end Go.Proofs.YtbkkepbmaadomaaGreatDoor

namespace Go.Proofs.YtbkkepbmaadomaaGreatDoor
open Go.RowKit

theorem tlen_hv {xs : List Int} (hx : AllW xs) (h : 0 < tlen xs) : tlen (hv xs) = if lm xs (tlen xs - 1) < 4294967296 then 2 * tlen xs - 1 else 2 * tlen xs := by
  have hle : tlen xs ≤ xs.length := tl_le _ _
  obtain ⟨h1, h2⟩ := tl_spec xs xs.length
  have hne := h2 h
  have e : tl xs xs.length = tlen xs := rfl
  rw [e] at h1 hne
  have hw := hx.at (tlen xs - 1)
  have hz : ∀ j, tlen xs ≤ j → lm xs j = 0 := fun j hj => by
    by_cases hjl : j < xs.length
    · exact h1 j hj hjl
    · exact lm_ge (by omega)
  have hbig : ∀ i, 2 * tlen xs ≤ i → lm (hv xs) i = 0 := fun i hi => by
    have hp : i % 2 = 0 ∨ i % 2 = 1 := by omega
    rcases hp with hp | hp
    · rw [show i = 2 * (i / 2) by omega, (lm_hv xs (i / 2)).1, hz _ (by omega)]; rfl
    · rw [show i = 2 * (i / 2) + 1 by omega, (lm_hv xs (i / 2)).2, hz _ (by omega)]; rfl
  show tl (hv xs) (hv xs).length = _
  rw [length_hv]
  by_cases hc : lm xs (tlen xs - 1) < 4294967296
  · rw [if_pos hc]
    refine tl_unique _ _ _ (by omega) (fun i a b => ?_) (fun _ => ?_)
    · rcases Nat.lt_or_ge i (2 * tlen xs) with h3 | h3
      · rw [show i = 2 * (tlen xs - 1) + 1 by omega, (lm_hv xs _).2]; omega
      · exact hbig i h3
    · rw [show 2 * tlen xs - 1 - 1 = 2 * (tlen xs - 1) by omega, (lm_hv xs _).1]; omega
  · rw [if_neg hc]
    refine tl_unique _ _ _ (by omega) (fun i a b => hbig i a) (fun _ => ?_)
    rw [show 2 * tlen xs - 1 = 2 * (tlen xs - 1) + 1 by omega, (lm_hv xs _).2]; omega
theorem bits_eq {xs : List Int} (hx : AllW xs) : rbitsL (hv xs) = bitsL xs := by
  have z : tlen (hv xs) = 0 ↔ tlen xs = 0 := by
    rw [tlenH_zero (allH_hv hx), valH_hv, tlen_zero hx]
  unfold rbitsL bitsL
  by_cases h : tlen xs = 0
  · rw [if_pos h, if_pos (z.2 h)]
  · rw [if_neg h, if_neg (fun e => h (z.1 e)), tlen_hv hx (by omega)]
    have hw := hx.at (tlen xs - 1)
    split
    · rename_i hc
      rw [show 2 * tlen xs - 1 - 1 = 2 * (tlen xs - 1) by omega, (lm_hv xs _).1, show lm xs (tlen xs - 1) % 4294967296 = lm xs (tlen xs - 1) by omega]
      omega
    · rename_i hc
      rw [show 2 * tlen xs - 1 = 2 * (tlen xs - 1) + 1 by omega, (lm_hv xs _).2]
      have e := Lib.bitLen_shift32 (lm xs (tlen xs - 1)).toNat (by omega) (by omega)
      have e2 : (lm xs (tlen xs - 1) / 4294967296).toNat = (lm xs (tlen xs - 1)).toNat / 4294967296 := by omega
      rw [e2]; omega

/-! ### results, as Apart takes them -/
theorem Blk.ownv {w : World} {g B : Nat} {us : List Int} (h : Blk w g us) (hB : B ≤ g) (hm : us.length ≤ 1000000000000) (n : Nat) (hn : n ≤ us.length) : OwnV w B (.slice (some ⟨g, 0, none⟩) n us.length) (us.take n) := by
  have := (h.row n (by unfold maxLen; omega)).own hB
  rw [List.length_take, Nat.min_eq_left hn] at this
  exact this
theorem Own.ownv {w : World} {B : Nat} {a : Option Addr} {cap : Nat} {xs : List Int} (h : Own w B a cap xs) (hm : cap ≤ 1000000000000) : OwnV w B (.slice a xs.length cap) xs := by
  rcases h with ⟨rfl, rfl, rfl⟩ | ⟨g, us, rfl, hB, hb, rfl, hl, ht⟩
  · exact OwnV.nil _ _
  · have := hb.ownv hB hm xs.length hl
    rwa [ht] at this
theorem trow_new {w : World} (l : List (Value × List Int)) : TRow (w.alloc (.cells (l.map (·.1)).toArray 31)) w.heap.size l.length (fun i => (l.getD i (.slice none 0 0, [])).1) := by
  refine ⟨_, heap_alloc_new w _, fun i hi => ?_⟩
  simp [hi]
end Go.Proofs.YtbkkepbmaadomaaGreatDoor

import Derived.Test.YtfelogbfijomiabGreatDoorSumAll
import Derived.Shelf.RegionOpenPlain
namespace Go.Proofs.YtfelogbfijomiabGreatDoor
open Go.RowKit Go.Shelf

theorem adr_ne {g i k : Nat} (h : i ≠ k) : (⟨g, i, none⟩ : Addr) ≠ ⟨g, k, none⟩ := by
  intro e
  injection e with _ e2
  exact h e2
/-- Turned round up to a place from both ends. -/
def revF (f : Nat → Int) (L i k : Nat) : Int := if k < i ∨ L ≤ k + i then f (L - 1 - k) else f k
set_option maxHeartbeats 1000000 in
theorem reverse_bytes (g L cap : Nat) (f : Nat → Int) (w : World) (hL : L ≤ 1000000000000000) (hc : ∀ i, i < L → w.cell? ⟨g, i, none⟩ = some (.int .u8 (f i))) (hf : ∀ i, i < L → w.frozen? ⟨g, i, none⟩ = false) :
    Calls Tryz.prog 87 #[.slice (some ⟨g, 0, none⟩) L cap] w fun e w' => (∃ v, e = .returned v) ∧ (∀ i, i < L → w'.cell? ⟨g, i, none⟩ = some (.int .u8 (f (L - 1 - i)))) ∧ Off g w w' := by
  go_enter Tryz.func87, Tryz.ntmps87
  go_wp2
  have mixed : Tryz.prog.follows .mixedOrders = true := by kernel_rfl
  go_loopw [2, 3] (fun s2 s3 wr => ∃ i : Nat, s2 = .int .i64 i ∧ s3 = .int .i64 ((L : Int) - 1 - i) ∧ 2 * i ≤ L ∧ (∀ k, k < L → wr.cell? ⟨g, k, none⟩ = some (.int .u8 (revF f L i k))) ∧ (∀ k, k < L → wr.frozen? ⟨g, k, none⟩ = false) ∧ Off g w wr) (fun i j _ => (intOf j - intOf i + 1).toNat)
  case atStart => exact ⟨0, by go_num, by go_num, by omega, fun k hk => by rw [hc k hk]; simp [revF]; omega, hf, Off.refl _ _⟩
  case round =>
    obtain ⟨i, rfl, rfl, hi, hck, hfk, hoff⟩ := hrel
    by_cases hlt : (i : Int) < (L : Int) - 1 - i
    · obtain ⟨j, hj⟩ : ∃ j : Nat, (L : Int) - 1 - i = j := ⟨L - 1 - i, by omega⟩
      have HJ : Hid ((L : Int) - 1 - i = j) := hj
      have ci := hck i (by omega)
      have cj := hck j (by omega)
      have fi := hfk i (by omega)
      have fj := hfk j (by omega)
      have ei : revF f L i i = f i := by unfold revF; rw [if_neg (by omega)]
      have ej : revF f L i j = f j := by unfold revF; rw [if_neg (by omega)]
      rw [ei] at ci
      rw [ej] at cj
      have hij : (i : Int) < j := by omega
      have hjL : (j : Int) < L := by omega
      have HIJ : Hid (i ≠ j) := by show i ≠ j; omega
      have HC : Hid (∀ k, k < L → wr.cell? ⟨g, k, none⟩ = some (.int .u8 (revF f L i k))) := hck
      have HF : Hid (∀ k, k < L → wr.frozen? ⟨g, k, none⟩ = false) := hfk
      rw [hj]
      clear hck hfk ei ej hc hf hj hlt
      go_wp2_with fail
      go_region
      go_wp2
      refine ⟨⟨i + 1, by go_num, by have := HJ.out; go_num, by have := HJ.out; omega, fun k hk => ?_, fun k hk => ?_, ((hoff.set i _).set j _).drew⟩, by simp [intOf]; omega⟩
      · show ((wr.setCell ⟨g, i, none⟩ (.int .u8 (f j))).setCell ⟨g, j, none⟩ (.int .u8 (f i))).cell? ⟨g, k, none⟩ = _
        have hJ := HJ.out
        by_cases e1 : k = j
        · subst e1
          have cj' : (wr.setCell ⟨g, i, none⟩ (.int .u8 (f k))).cell? ⟨g, k, none⟩ = some (.int .u8 (f k)) := by
            rw [World.cell?_setCell_other _ _ _ _ (adr_ne HIJ.out)]; exact cj
          rw [World.cell?_setCell_same _ _ _ cj']
          unfold revF
          rw [if_pos (by omega), show L - 1 - k = i by omega]
        · rw [World.cell?_setCell_other _ _ _ _ (adr_ne (Ne.symm e1))]
          by_cases e2 : k = i
          · subst e2
            rw [World.cell?_setCell_same _ _ _ ci]
            unfold revF
            rw [if_pos (by omega), show L - 1 - k = j by omega]
          · rw [World.cell?_setCell_other _ _ _ _ (adr_ne (Ne.symm e2)), HC.out k hk]
            unfold revF
            by_cases e3 : k < i ∨ L ≤ k + i
            · rw [if_pos e3, if_pos (by omega)]
            · rw [if_neg e3, if_neg (by omega)]
      · show ((wr.setCell ⟨g, i, none⟩ (.int .u8 (f j))).setCell ⟨g, j, none⟩ (.int .u8 (f i))).frozen? ⟨g, k, none⟩ = _
        rw [World.frozen?_setCell, World.frozen?_setCell]
        exact HF.out k hk
    · go_wp2
      go_end0
      refine ⟨⟨_, rfl⟩, fun k hk => ?_, hoff⟩
      rw [hck k hk]
      unfold revF
      split
      · rfl
      · have : k = L - 1 - k := by omega
        rw [← this]
end Go.Proofs.YtfelogbfijomiabGreatDoor

import Derived.Test.YtkbbdfflodiddabDoorR2C
import Derived.Test.YtkbbdfflodiddabDoorLndA
namespace Go.Proofs.YtkbbdfflodiddabDoor
open Go.RowKit
attribute [local go_sem ↓] Go.wp_at_zero Go.wp_at_succ

set_option maxRecDepth 100000 in
set_option maxHeartbeats 1000000 in
theorem rapartI (g cap n B : Nat) (A : Nat → Option Addr) (N C : Nat → Nat) (x : Nat → List Int) (w : World) (hc : ∀ i, i < n → w.cell? ⟨g, i * 2 + 1, none⟩ = some (.slice (A i) (N i) (C i))) (ho : ∀ j, j < n → OwnV w B (.slice (A j) (N j) (C j)) (x j))
    (dis : ∀ i j, i < n → j < n → i ≠ j → ∀ g, (Value.slice (A i) (N i) (C i)).ownBlock = some g → (Value.slice (A j) (N j) (C j)).ownBlock ≠ some g) (hn : n ≤ 1000) (hn0 : 0 < n) (hx : ∀ j, j < n → (x j).length ≤ 1000000000) (hB : B ≤ w.heap.size) :
    Calls Tryd.prog 15 #[.slice (some ⟨g, 0, none⟩) n cap] w fun e w' => e = .returned (.bool true) ∧ Below B w w' := by
  go_enter Tryd.func15, Tryd.ntmps15
  go_wp2
  go_loopw [3, 4] (fun u s wr => ∃ k : Nat, k ≤ n ∧ s = .int .i64 k ∧ TOwn wr w.heap.size u k (fun i => .slice (A i) (N i) (C i)) ∧ Below w.heap.size w wr) (fun _ s _ => n - (intOf s).toNat)
  case atStart => exact ⟨0, Nat.zero_le _, rfl, TOwn.nil _ _ _, Below.refl _ _⟩
  case round =>
    obtain ⟨k, hk, rfl, hO, hbel⟩ := hrel
    by_cases hlt : k < n
    · have hkI : (k : Int) < (n : Int) := by omega
      have hck := hc k hlt
      have hck1 : wr.cell? ⟨g, k * 2 + 1, none⟩ = some (.slice (A k) (N k) (C k)) := by rw [hbel.cell (World.block_lt_of_cell? _ _ hck)]; exact hck
      have hsz := hbel.size
      have HE : Hid (∀ a n c, A k = a → N k = n → C k = c → (fun j => if j = k then Value.slice a n c else .slice (A j) (N j) (C j)) = fun j => .slice (A j) (N j) (C j)) := by
        rintro a n c rfl rfl rfl
        funext j
        by_cases e : j = k <;> simp [e]
      obtain ⟨a1, ha1⟩ : ∃ a1, A k = a1 := ⟨_, rfl⟩
      obtain ⟨n1, hn1⟩ : ∃ n1, N k = n1 := ⟨_, rfl⟩
      obtain ⟨c1, hc1⟩ : ∃ c1, C k = c1 := ⟨_, rfl⟩
      rw [ha1, hn1, hc1] at hck1
      have HV := HE.out a1 n1 c1 ha1 hn1 hc1
      have HVV : Hid ((fun j => if j = k then Value.slice a1 n1 c1 else .slice (A j) (N j) (C j)) = fun j => .slice (A j) (N j) (C j)) := HV
      have HO : Hid (TOwn wr w.heap.size u3 k (fun i => .slice (A i) (N i) (C i))) := hO
      clear HE HV ha1 hn1 hc1 hck hc hO dis ho hx
      go_wp2_with (at_builtin; refine wpList_appendT _ rfl _ _ rfl w.heap.size u3 k _ rfl (World.ownsRow.alloc HO.out _) wr.heap.size _ (.slice a1 n1 c1) rfl (cell_new1' rfl) rfl (by omega) (by simp; omega) (wr.heap.size + 1) (by simp) ?_)
      intro g2 cap2 w1 hown hgrow hat _
      rw [HVV.out] at hown
      have hbel1 : Below w.heap.size w w1 := hbel.trans (((Below.refl _ _).alloc (by omega) _).trans (grown_below hgrow (by simp; omega) (fun q hq => (World.ownsRow.lt HO.out q hq).1)))
      clear hgrow hat hbel hck1
      go_wp2
      go_roundw
      case rel => exact ⟨k + 1, by omega, by go_num, hown, hbel1⟩
      case measure => simp [intOf]; omega
    · have hkI : ¬ (k : Int) < (n : Int) := by omega
      obtain rfl : k = n := by omega
      obtain ⟨gL, capL, rfl, hTL, hcL⟩ := hO.row hn0
      have hAP := apart_any gL capL k B (fun i => .slice (A i) (N i) (C i)) x wr hTL (fun j hj => (ho j hj).below hbel) dis (by omega) hx (by have := hbel.size; omega)
      go_wp2_with fail
      refine hAP.mono ?_
      rintro e w1 ⟨rfl, hb1⟩
      have hw := (hbel.mono hB).trans hb1
      clear hAP hb1 hbel hTL hcL hO ho hc dis
      go_wp2
      go_ret
      exact ⟨rfl, hw⟩
end Go.Proofs.YtkbbdfflodiddabDoor

import Derived.Test.YtogdpgfccbohnacDoorGcdF
namespace Go.Proofs.YtogdpgfccbohnacDoor
open Go.RowKit

def gcdN (Y : Nat → Nat) : Nat → Nat
  | 0 => 0
  | k + 1 => Nat.gcd (gcdN Y k) (Y k)

set_option maxRecDepth 100000 in
set_option maxHeartbeats 1000000 in
theorem gcdL_any (gl m cap : Nat) (A : Nat → Option Addr) (N C Y : Nat → Nat) (R : Nat) (w : World) (hc : ∀ j, j < m → w.cell? ⟨gl, j, none⟩ = some (.slice (A j) (N j) (C j))) (hn : ∀ j, j < m → Num w (A j) (N j) (C j) (Y j) R) (hm : m ≤ 10000000) (hR : R ≤ 8000000) (hT : TabAt 6 Lib.deBruijn64tab w) (hgt : 6 < w.heap.size) :
    Calls Tryd.prog 18 #[.slice (some ⟨gl, 0, none⟩) m cap] w fun e w' => ∃ c n cc, e = .returned (.slice c n cc) ∧ Mine w' w.heap.size c n cc (gcdN Y m) (R + 2) ∧ Below w.heap.size w w' := by
  have hgw : 6 < w.heap.size := hgt
  go_enter Tryd.func18, Tryd.ntmps18
  go_wp2
  go_loopw [3, 8] (fun v t wr => ∃ (k : Nat) (c : Option Addr) (n cc : Nat), k ≤ m ∧ t = .int .i64 k ∧ v = .slice c n cc ∧ Mine wr w.heap.size c n cc (gcdN Y k) (R + 2) ∧ Below w.heap.size w wr) (fun _ t _ => m - (intOf t).toNat)
  case atStart => exact ⟨0, none, 0, 0, Nat.zero_le _, rfl, rfl, .inl ⟨rfl, rfl⟩, Below.refl _ _⟩
  case round =>
    obtain ⟨k, c, n, cc, hk, rfl, rfl, hM, hbel⟩ := hrel
    by_cases hlt : k < m
    · have hkI : (k : Int) < (m : Int) := by omega
      have hck := hc k hlt
      have hck1 : wr.cell? ⟨gl, k, none⟩ = some (.slice (A k) (N k) (C k)) := by rw [hbel.cell (World.block_lt_of_cell? _ _ hck)]; exact hck
      have hN := (hn k hlt).below hbel
      have hT1 := tab_below hT hbel hgt
      have hgg := gcdTwo_any wr hM hN (by omega) (Nat.le_refl _) hbel.size hT1 hgt
      have HY : Hid (Nat.gcd (gcdN Y k) (Y k) = gcdN Y (k + 1)) := rfl
      rw [HY.out] at hgg
      clear hck hM hN hT1
      go_wp2_with fail
      refine hgg.mono ?_
      rintro e w1 ⟨c1, n1, d1, rfl, hM1, hb1⟩
      have hbel1 := hbel.trans hb1
      clear hgg hb1 hbel hck1
      go_wp2
      go_roundw
      case rel => exact ⟨k + 1, c1, n1, d1, by omega, by go_num, rfl, hM1, hbel1⟩
      case measure => simp [intOf]; omega
    · have hkI : ¬ (k : Int) < (m : Int) := by omega
      obtain rfl : k = m := by omega
      go_wp2
      go_ret
      exact ⟨_, _, _, rfl, hM, hbel⟩
end Go.Proofs.YtogdpgfccbohnacDoor

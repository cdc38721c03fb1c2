import Derived.Test.YtfelogbfijomiabGreatDoorStr
import Derived.Test.YtfelogbfijomiabGreatDoorErrs
namespace Go.Proofs.YtfelogbfijomiabGreatDoor
open Go.RowKit

set_option maxRecDepth 100000 in
set_option maxHeartbeats 1000000 in
theorem allDigits_any (s : ByteArray) (w : World) (hs : s.size ≤ 100000000) :
    Calls Tryz.prog 117 #[.string s] w fun e w' => (Digs s s.size → 0 < s.size → e = .returned (.bool true)) ∧ (¬ (Digs s s.size ∧ 0 < s.size) → e = .returned (.bool false)) ∧ Below w.heap.size w w' := by
  go_enter Tryz.func117, Tryz.ntmps117
  go_wp2
  go_loopw [6] (fun t wr => ∃ i : Nat, i ≤ s.size ∧ t = .int .i64 i ∧ Digs s i ∧ Below w.heap.size w wr) (fun t _ => s.size - (intOf t).toNat)
  case atStart => exact ⟨0, Nat.zero_le _, rfl, fun i hi => by omega, Below.refl _ _⟩
  case round =>
    obtain ⟨i, hi, rfl, hdg, hbel⟩ := hrel
    by_cases hlt : i < s.size
    · have hil : (i : Int) < (s.size : Int) := by omega
      have hby := byt_get hlt
      obtain ⟨y0, y1⟩ := byt_bd s i
      by_cases hdi : 48 ≤ byt s i ∧ byt s i ≤ 57
      · obtain ⟨d0, d1⟩ := hdi
        have HDG : Hid (Digs s (i + 1)) := fun j hj => by
          rcases Nat.lt_or_ge j i with h | h
          · exact hdg j h
          · rw [show j = i by omega]; exact ⟨d0, d1⟩
        clear hdg
        generalize byt s i = B at *
        go_wp2
        go_roundw
        case rel => exact ⟨i + 1, by omega, by go_num, HDG.out, hbel⟩
        case measure => simp [intOf]; omega
      · have hnd : ¬ Digs s s.size := fun h => hdi (h i hlt)
        have hdd : byt s i < 48 ∨ (48 ≤ byt s i ∧ 57 < byt s i) := by omega
        generalize byt s i = B at *
        rcases hdd with h | ⟨h, h'⟩
        · go_wp2
          go_ret
          exact ⟨fun h2 => absurd h2 hnd, fun _ => rfl, hbel⟩
        · go_wp2
          go_ret
          exact ⟨fun h2 => absurd h2 hnd, fun _ => rfl, hbel⟩
    · have hil : ¬ (i : Int) < (s.size : Int) := by omega
      obtain rfl : i = s.size := by omega
      by_cases h0 : 0 < s.size
      · have h0' : (0 : Int) < (s.size : Int) := by omega
        go_wp2
        go_ret
        exact ⟨rfl, hbel⟩
      · have h0' : ¬ (0 : Int) < (s.size : Int) := by omega
        go_wp2
        go_ret
        exact ⟨rfl, hbel⟩

set_option maxRecDepth 100000 in
set_option maxHeartbeats 1000000 in
theorem readPiece_any (s : ByteArray) (w : World) (hs : s.size ≤ 19) (hd : Digs s s.size) :
    Calls Tryz.prog 119 #[.string s] w fun e w' => e = .returned (.int .u64 (rdF s 0 s.size)) ∧ Below w.heap.size w w' := by
  go_enter Tryz.func119, Tryz.ntmps119
  go_wp2
  go_loopw [3, 7] (fun v t wr => ∃ i : Nat, i ≤ s.size ∧ t = .int .i64 i ∧ v = .int .u64 (rdF s 0 i) ∧ Below w.heap.size w wr) (fun _ t _ => s.size - (intOf t).toNat)
  case atStart => exact ⟨0, Nat.zero_le _, rfl, rfl, Below.refl _ _⟩
  case round =>
    obtain ⟨i, hi, rfl, rfl, hbel⟩ := hrel
    by_cases hlt : i < s.size
    · have hil : (i : Int) < (s.size : Int) := by omega
      have hby := byt_get hlt
      obtain ⟨d0, d1⟩ := hd i hlt
      obtain ⟨r0, r1⟩ := rdF_bd (o := 0) hd i (by omega)
      have r2 := p10_mono (a := i) (b := 18) (by omega)
      have r3 : p10 18 = 1000000000000000000 := by decide
      have HN : Hid (rdF s 0 (i + 1) = rdF s 0 i * 10 + (byt s i - 48)) := by show _ = _; simp only [rdF, Nat.zero_add]
      have r4 : rdF s 0 i ≤ 999999999999999999 := by omega
      clear r1 r2 r3 hd
      generalize byt s i = B at *
      generalize rdF s 0 i = V at *
      go_wp2
      go_roundw
      case rel => exact ⟨i + 1, by omega, by go_num, by rw [HN.out], hbel⟩
      case measure => simp [intOf]; omega
    · have hil : ¬ (i : Int) < (s.size : Int) := by omega
      obtain rfl : i = s.size := by omega
      go_wp2
      go_ret
      exact ⟨rfl, hbel⟩
end Go.Proofs.YtfelogbfijomiabGreatDoor

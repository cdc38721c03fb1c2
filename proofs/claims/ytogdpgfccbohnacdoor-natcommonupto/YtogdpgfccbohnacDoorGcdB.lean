import Derived.Test.YtogdpgfccbohnacDoorGcdA
import Derived.Test.YtogdpgfccbohnacDoorDivS
namespace Go.Proofs.YtogdpgfccbohnacDoor
open Go.RowKit

/-- A segment in a block of one's own tells the number x, no limb of nought at its end. -/
def Seg (w : World) (B g o n cap : Nat) (x : Nat) (S : Nat) : Prop := ∃ us, Blk w g us ∧ B ≤ g ∧ o + n ≤ us.length ∧ n ≤ cap ∧ us.length ≤ S ∧ AllW us ∧ tlen ((us.drop o).take n) = n ∧ val ((us.drop o).take n) = (x : Int)
theorem seg_list {us : List Int} {o n : Nat} (h : o + n ≤ us.length) : ((us.drop o).take n).length = n := by simp; omega
theorem seg_w {us : List Int} (hu : AllW us) (o n : Nat) : AllW ((us.drop o).take n) := fun x hx => hu x (List.mem_of_mem_drop (List.mem_of_mem_take hx))
theorem seg_lm {us : List Int} {o n i : Nat} (h : i < n) : lm ((us.drop o).take n) i = lm us (o + i) := by rw [lm_take h, lm_drop]
theorem seg_reads {w : World} {g o n : Nat} {us : List Int} (hb : Blk w g us) (h : o + n ≤ us.length) : Reads w (some ⟨g, o, none⟩) ((us.drop o).take n) :=
  .inr ⟨g, o, rfl, fun i hi => by
    rw [seg_list h] at hi
    rw [seg_lm hi]
    exact hb.cell (by omega)⟩
theorem Seg.num {w : World} {B g o n cap x S : Nat} (h : Seg w B g o n cap x S) : Num w (some ⟨g, o, none⟩) n cap x S := by
  obtain ⟨us, h1, h2, h3, h4, h5, h6, h7, h8⟩ := h
  exact ⟨_, (seg_list h3).symm, h4, seg_reads h1 h3, seg_w h6 o n, h8, by omega⟩
theorem Seg.of_block {w w' : World} {B g o n cap x S : Nat} (h : Seg w B g o n cap x S) (hb : w'.heap[g]? = w.heap[g]?) : Seg w' B g o n cap x S := by
  obtain ⟨us, h1, h2⟩ := h
  exact ⟨us, by unfold Blk; rw [hb]; exact h1, h2⟩
theorem Seg.lt {w : World} {B g o n cap x S : Nat} (h : Seg w B g o n cap x S) : B ≤ g ∧ g < w.heap.size := by
  obtain ⟨us, h1, h2, _⟩ := h; exact ⟨h2, h1.lt⟩
theorem Seg.below {w w' : World} {B g o n cap x S : Nat} (h : Seg w B g o n cap x S) (hb : Below w.heap.size w w') : Seg w' B g o n cap x S := h.of_block (hb.block g h.lt.2)
theorem Seg.off {w w' : World} {B g o n cap x S k : Nat} (h : Seg w B g o n cap x S) (hb : Off k w w') (hk : g ≠ k) : Seg w' B g o n cap x S := h.of_block (hb.block g hk)
/-- What a list whose first limbs are noughts tells. -/
theorem val_zeros {xs : List Int} {j : Nat} (hj : j < xs.length) (hz : ∀ i, i < j → lm xs i = 0) : val xs = pw j * (lm xs j + 18446744073709551616 * val (xs.drop (j + 1))) := by
  have e1 := vS_split2 xs j (1 + (xs.length - (j + 1)))
  rw [show j + (1 + (xs.length - (j + 1))) = xs.length by omega] at e1
  have e2 : vS xs j = 0 := by
    have : vS xs j = vS ([] : List Int) j := vS_congr fun i hi => by rw [hz i hi, lm_ge (by simp)]
    rw [this, vS_long (by simp)]; rfl
  have e3 := vS_split2 (xs.drop j) 1 (xs.length - (j + 1))
  have e4 : vS (xs.drop j) 1 = lm xs j := by simp [vS, lm_drop, pw]
  have e5 : vS ((xs.drop j).drop 1) (xs.length - (j + 1)) = val (xs.drop (j + 1)) := by
    unfold val; rw [List.drop_drop, List.length_drop]
  have e6 : pw 1 = 18446744073709551616 := by simp [pw]
  rw [e4, e5, e6] at e3
  rw [e2, e3] at e1
  show vS xs xs.length = _
  omega
theorem tz_math {x j k m : Nat} {l r : Int} (hk : k < 64) (hl : l = ((2 ^ k * (2 * m + 1) : Nat) : Int)) (hr : 0 ≤ r) (hx : (x : Int) = pw j * (l + 18446744073709551616 * r)) : ∃ M, x = 2 ^ (j * 64 + k) * (2 * M + 1) := by
  obtain ⟨r, rfl⟩ := Int.eq_ofNat_of_zero_le hr
  refine ⟨m + 2 ^ (63 - k) * r, ?_⟩
  have e1 : (18446744073709551616 : Int) = ((2 ^ k * (2 * 2 ^ (63 - k)) : Nat) : Int) := by
    have : 2 ^ k * (2 * 2 ^ (63 - k)) = 2 ^ 64 := by rw [← Nat.pow_succ', ← Nat.pow_add, show k + (63 - k + 1) = 64 by omega]
    rw [this]; rfl
  have e2 : pw j = ((2 ^ (j * 64) : Nat) : Int) := by rw [pw2, Int.natCast_pow, Nat.mul_comm]; rfl
  rw [hl, e1, e2] at hx
  rw [← Int.natCast_mul, ← Int.natCast_add, ← Int.natCast_mul] at hx
  have hx' := Int.ofNat.inj hx
  have e3 : 2 ^ k * (2 * m + 1) + 2 ^ k * (2 * 2 ^ (63 - k)) * r = 2 ^ k * (2 * (m + 2 ^ (63 - k) * r) + 1) := by
    rw [Nat.mul_assoc (2 ^ k), ← Nat.mul_add]
    congr 1
    rw [Nat.mul_add 2 m, Nat.mul_assoc]
    omega
  rw [hx', e3, Nat.pow_add, Nat.mul_assoc]

set_option maxHeartbeats 1000000 in
theorem countTwos_any {B g o n cap x S : Nat} (w : World) (h : Seg w B g o n cap x S) (hx : 0 < x) (hS : S ≤ 100000000) (hT : TabAt 6 Lib.deBruijn64tab w) :
    Calls Tryd.prog 45 #[.slice (some ⟨g, o, none⟩) n cap] w fun e w' => ∃ K M : Nat, e = .returned (.int .i64 K) ∧ x = 2 ^ K * (2 * M + 1) ∧ K ≤ 6400000000 ∧ w = w' := by
  obtain ⟨us, h1, h2, h3, h4, h5, h6, h7, h8⟩ := h
  have hcell : ∀ i, i < n → w.cell? ⟨g, o + i, none⟩ = some (.int .u64 (lm ((us.drop o).take n) i)) := fun i hi => by rw [seg_lm hi]; exact h1.cell (by omega)
  have hl := seg_list h3
  have hw := seg_w h6 o n
  have hn : n ≤ 100000000 := by omega
  obtain ⟨xs, hxs⟩ : ∃ xs, (us.drop o).take n = xs := ⟨_, rfl⟩
  rw [hxs] at h8 hcell hl hw
  have HL : Hid (xs.length = n) := hl
  have HV : Hid (val xs = (x : Int)) := h8
  clear hxs h1 h2 h3 h6 h7 h8 hl
  go_enter Tryd.func45, Tryd.ntmps45
  go_wp2
  go_loopw [3] (fun t wr => w = wr ∧ ∃ j : Nat, t = .int .i64 j ∧ j < n ∧ ∀ i, i < j → lm xs i = 0) (fun t _ => n - (intOf t).toNat)
  case atStart =>
    refine ⟨rfl, 0, rfl, ?_, fun i hi => by omega⟩
    rcases Nat.eq_zero_or_pos n with h | h
    · have : xs = [] := List.eq_nil_of_length_eq_zero (by rw [HL.out]; exact h)
      have hv := HV.out
      rw [this] at hv
      simp [val, vS] at hv
      omega
    · exact h
  case round =>
    obtain ⟨rfl, j, rfl, hj, hz⟩ := hrel
    have HZ : Hid (∀ i, i < j → lm xs i = 0) := hz
    have hjI : (j : Int) < (n : Int) := by omega
    have hcj := hcell j hj
    obtain ⟨l0, l1⟩ := hw.at j
    clear hz hcell
    by_cases hl : lm xs j = 0
    · have hj1 : j + 1 < n := by
        rcases Nat.lt_or_ge (j + 1) n with h | h
        · exact h
        · exfalso
          have e := val_zeros (xs := xs) (j := j) (by rw [HL.out]; exact hj) HZ.out
          rw [hl, List.drop_eq_nil_of_le (by rw [HL.out]; exact h), HV.out] at e
          simp [val, vS] at e
          omega
      have HZ2 : Hid (∀ i, i < j + 1 → lm xs i = 0) := fun i hi => by
        rcases Nat.lt_or_ge i j with h | h
        · exact HZ.out i h
        · rw [show i = j by omega]; exact hl
      rw [hl] at hcj
      clear hl
      go_wp2
      go_roundw
      case rel => exact ⟨trivial, j + 1, by go_num, hj1, HZ2.out⟩
      case measure => simp [intOf]; omega
    · obtain ⟨L, hL⟩ := Int.eq_ofNat_of_zero_le l0
      rw [hL] at hcj hl l1
      have hne : ((L : Int) == 0) = false := beq_eq_false_iff_ne.2 hl
      have htz := tz_any L w (by omega) (by omega) hT
      have HLL : Hid (lm xs j = (L : Int)) := hL
      clear hl hL l0
      go_wp2_with fail
      refine htz.mono ?_
      rintro e w' ⟨k, m, rfl, hk, hm, rfl⟩
      have hr := val_nn (allW_drop2 hw (j + 1))
      have e := val_zeros (xs := xs) (j := j) (by rw [HL.out]; exact hj) HZ.out
      rw [HV.out, HLL.out] at e
      obtain ⟨M, hM⟩ := tz_math hk (by rw [hm]) hr e
      have HM : Hid (x = 2 ^ (j * 64 + k) * (2 * M + 1)) := hM
      have E : (j : Int) * 64 + (k : Int) = ((j * 64 + k : Nat) : Int) := by omega
      have hjk : j * 64 + k ≤ 6400000000 := by omega
      obtain ⟨K, hK⟩ : ∃ K, j * 64 + k = K := ⟨_, rfl⟩
      rw [hK] at E HM hjk
      clear hM hm e hr htz hK
      go_wp2
      go_ret
      exact ⟨K, M, rfl, HM.out, hjk, rfl⟩
end Go.Proofs.YtogdpgfccbohnacDoor

import Derived.Test.YtdfoiklcekhmpaaGreatDoorR4C
namespace Go.Proofs.YtdfoiklcekhmpaaGreatDoor
open Go.RowKit Go.Shelf

set_option maxHeartbeats 4000000 in
theorem pickL (c : Int) (w : World) (h0 : -9223372036854775808 ≤ c) (h1 : c < 9223372036854775808) :
    Calls Tryz.prog 9 #[.int .i64 c, .int .i64 19999] w fun e w' => ∃ r, e = .returned (.int .i64 r) ∧ 0 ≤ r ∧ r < 19999 ∧ Below w.heap.size w w' := by
  by_cases hc : c < 0
  · have e1 : IntKind.i64.wrap (c + 1) = c + 1 := by rw [IntKind.wrap_i64]; omega
    have e2 : IntKind.i64.wrap (-(c + 1)) = -(c + 1) := by rw [IntKind.wrap_i64]; omega
    have e3 : (-(c + 1)).tmod 19999 = (-(c + 1)) % 19999 := Int.tmod_eq_emod_of_nonneg (by omega)
    go_enter Tryz.func9, Tryz.ntmps9
    go_wp2
    go_ret
    exact ⟨_, rfl, Int.emod_nonneg _ (by omega), Int.emod_lt_of_pos _ (by omega), Below.refl _ _⟩
  · have e3 : c.tmod 19999 = c % 19999 := Int.tmod_eq_emod_of_nonneg (by omega)
    go_enter Tryz.func9, Tryz.ntmps9
    go_wp2
    go_ret
    exact ⟨_, rfl, Int.emod_nonneg _ (by omega), Int.emod_lt_of_pos _ (by omega), Below.refl _ _⟩
/-- A byte list that lies there. -/
def ReadsB (w : World) (a : Option Addr) (xs : List Int) : Prop :=
  xs = [] ∨ ∃ b o, a = some ⟨b, o, none⟩ ∧ b < w.heap.size ∧ ∀ i, i < xs.length → w.cell? ⟨b, o + i, none⟩ = some (.int .u8 (xs.getD i 0))
theorem ReadsB.below {w w' : World} {a : Option Addr} {xs : List Int} (h : ReadsB w a xs) (hb : Below w.heap.size w w') : ReadsB w' a xs := by
  rcases h with h | ⟨b, o, h1, h2, h3⟩
  · exact .inl h
  · exact .inr ⟨b, o, h1, Nat.lt_of_lt_of_le h2 hb.size, fun i hi => (hb.cell (p := ⟨b, o + i, none⟩) h2).trans (h3 i hi)⟩
theorem strOfNums_append (a b : List Int) : strOfNums (a ++ b) = strOfNums a ++ strOfNums b := by apply ByteArray.ext; simp [strOfNums, ByteArray.data_append]
/-- The digits that bytes tell. -/
def dgs (xs : List Int) : ByteArray := strOfNums (xs.map fun x => 48 + x % 10)
theorem size_dgs (xs : List Int) : (dgs xs).size = xs.length := by unfold dgs; rw [strOfNums_size, List.length_map]
set_option maxRecDepth 100000 in
set_option maxHeartbeats 4000000 in
theorem digitsL (a : Option Addr) (n cap : Nat) (xs : List Int) (w : World) (hn : n = xs.length) (hc : n ≤ cap) (hm : n ≤ 2000000) (hr : ReadsB w a xs) (hb : ∀ x ∈ xs, 0 ≤ x ∧ x < 256) :
    Calls Tryz.prog 15 #[.slice a n cap] w fun e w' => e = .returned (.string (dgs xs)) ∧ Below w.heap.size w w' := by
  go_enter Tryz.func15, Tryz.ntmps15
  go_wp2
  go_loopw [3, 4] (fun sv t wr => ∃ (i : Nat), i ≤ n ∧ t = .int .i64 i ∧ sv = .string (dgs (xs.take i)) ∧ Below w.heap.size w wr) (fun _ t _ => n - (intOf t).toNat)
  case atStart => exact ⟨0, Nat.zero_le _, rfl, rfl, Below.refl _ _⟩
  case round =>
    obtain ⟨i, hi, rfl, rfl, hbel⟩ := hrel
    by_cases hlt : i < n
    · have hil : (i : Int) < (n : Int) := by omega
      obtain ⟨g, o, rfl, hg, hcl⟩ : ∃ b o, a = some ⟨b, o, none⟩ ∧ b < w.heap.size ∧ ∀ i, i < xs.length → w.cell? ⟨b, o + i, none⟩ = some (.int .u8 (xs.getD i 0)) := by
        rcases hr with h | h
        · subst h; subst hn; exact absurd hlt (Nat.not_lt_zero _)
        · exact h
      have hc1 := (hbel.cell (p := ⟨g, o + i, none⟩) hg).trans (hcl i (by omega))
      obtain ⟨y0, y1⟩ := hb (xs.getD i 0) (by rw [List.getD_eq_getElem?_getD, List.getElem?_eq_getElem (by omega)]; exact List.getElem_mem _)
      have HT : Hid (dgs (xs.take (i + 1)) = dgs (xs.take i) ++ strOfNums [48 + xs.getD i 0 % 10]) := by
        show _ = _
        rw [List.take_add_one, List.getElem?_eq_getElem (by omega), List.getD_eq_getElem?_getD, List.getElem?_eq_getElem (by omega)]
        unfold dgs
        rw [List.map_append]
        exact strOfNums_append _ _
      clear hr hb hcl
      generalize xs.getD i 0 = z at *
      have e1 : z.tmod 10 = z % 10 := Int.tmod_eq_emod_of_nonneg (by omega)
      have hDs : (dgs (xs.take i)).size ≤ 2000000 := by rw [size_dgs, List.length_take]; omega
      generalize dgs (xs.take i) = D at *
      have hcv := run_convert_bytes_arg (P := Tryz.prog) (wr.alloc (.cells #[.int .u8 (48 + z % 10)] 5)) 37 5 Tryz.underlying37 Tryz.underlying5 wr.heap.size 0 1 1 [48 + z % 10] rfl (fun i hi => by
        obtain rfl : i = 0 := by omega
        exact (Boxed.new wr 5 (.int .u8 (48 + z % 10))).cell) 9 Tryz.underlying9
      have hs1 := strOfNums_size [48 + z % 10]
      simp only [List.length_cons, List.length_nil] at hs1
      generalize strOfNums [48 + z % 10] = E at *
      have hbel2 := hbel.alloc hbel.size (.cells #[.int .u8 (48 + z % 10)] 5)
      go_wp2
      go_roundw
      case rel => exact ⟨i + 1, by omega, by go_num, by rw [HT.out], hbel2⟩
      case measure => simp [intOf]; omega
    · have hil : ¬ (i : Int) < (n : Int) := by omega
      have HT : Hid (xs.take i = xs) := by show _ = _; rw [List.take_of_length_le (by omega)]
      go_wp2
      go_ret
      exact ⟨by rw [HT.out]; rfl, hbel⟩
end Go.Proofs.YtdfoiklcekhmpaaGreatDoor

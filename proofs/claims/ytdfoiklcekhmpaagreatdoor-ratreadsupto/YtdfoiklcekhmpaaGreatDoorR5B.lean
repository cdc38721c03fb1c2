import Derived.Test.YtdfoiklcekhmpaaGreatDoorR5A
import Derived.Lib.OthersKept
namespace Go.Proofs.YtdfoiklcekhmpaaGreatDoor
open Go.RowKit Go.Shelf

theorem get_in (s : ByteArray) (k : Nat) (h : k < s.size) : s.get! k = s[k]'h := by
  have := get_at s k h
  rwa [Nat.add_zero] at this
/-- What is no ASCII is decoded from bytes that are none. -/
theorem decode_cont (s : ByteArray) (pos : Nat) (h : pos < s.size) (ha : 128 ≤ (s[pos]'h).toNat) : pos + (Utf8.decode s pos).2 ≤ s.size ∧ ∀ k, k < (Utf8.decode s pos).2 → 128 ≤ (s.get! (pos + k)).toNat := by
  have hn : ¬ (s[pos]'h).toNat < 128 := by omega
  have h0 : s.get! pos = s[pos]'h := get_in s pos h
  simp only [Utf8.decode, get_at s pos h, hn, if_false]
  repeat' split
  all_goals simp_all
  all_goals first
    | omega
    | (refine ⟨by omega, fun k hk => ?_⟩
       rcases (by omega : k = 0 ∨ k = 1 ∨ k = 2 ∨ k = 3) with rfl | rfl | rfl | rfl
       all_goals first | omega | (simp only [Nat.add_zero, h0]; omega))
theorem iruneA (s : ByteArray) (r : Int) (w : World) (h0 : 0 ≤ r) (h1 : r < 128) :
    Calls Tryz.prog 109 #[.string s, .int .i32 r] w fun e w' => e = .returned (.int .i64 (Lib.indexByte s.data.toList r.toNat.toUInt8)) ∧ w' = w := Any.strings_IndexRune_ascii { Tryz.lays153 with } s r w h0 h1
theorem useSet (n : Int) (w : World) : Calls Tryz.prog 110 #[.int .i64 n] w fun e w' => e = .returned (.bool (decide (8 < n))) ∧ w' = w := Any.strings_shouldUseASCIISet { Tryz.lays153 with } n w
theorem noAny_run {l cs : List UInt8} {i d : Nat} (h : Lib.NoAny l cs i) (hd : ∀ k, k < d → ∃ x, l[i + k]? = some x ∧ cs.contains x = false) : Lib.NoAny l cs (i + d) := by
  induction d with
  | zero => exact h
  | succ d ih =>
    obtain ⟨x, h1, h2⟩ := hd d (by omega)
    exact (ih fun k hk => hd k (by omega)).succ h1 h2
theorem below_iterAt {n₀ k : Nat} {w W : World} (h : Below n₀ w W) (hk : n₀ ≤ k) (s : ByteArray) (pos : Nat) : Below n₀ w (W.iterAt k s pos) :=
  ⟨h.os, h.tape, h.output, by simpa [World.iterAt] using h.size, fun j hj => by
    have e : (W.iterAt k s pos).heap[j]? = W.heap[j]? := by
      show (W.heap.setIfInBounds k _)[j]? = _
      rw [Array.getElem?_setIfInBounds_ne (by omega)]
    rw [e]; exact h.block j hj⟩
set_option maxRecDepth 100000 in
set_option maxHeartbeats 8000000 in
/-- strings.IndexAny of two ASCII bytes in a short text of any bytes -/
theorem ianyZ (s cs : ByteArray) (w : World) (h2 : cs.size = 2) (h8 : s.size ≤ 8) (hc : ∀ (i : Nat) (h : i < cs.size), (cs[i]'h).toNat < 128) :
    Calls Tryz.prog 82 #[.string s, .string cs] w fun e w' => e = .returned (.int .i64 (Lib.indexAny s.data.toList cs.data.toList)) ∧ Below w.heap.size w w' := by
  have HC : Hid (∀ (i : Nat) (h : i < cs.size), (cs[i]'h).toNat < 128) := hc
  have HCL : Hid (∀ x : UInt8, 128 ≤ x.toNat → cs.data.toList.contains x = false) := fun x hx => by
    rw [← Bool.not_eq_true, List.contains_iff_mem]
    intro hm
    obtain ⟨j, hj, e⟩ := List.getElem_of_mem hm
    have hj' : j < cs.size := by rw [← sizeL]; exact hj
    have := hc j hj'
    have e2 : cs[j]'hj' = x := by rw [← e]; rfl
    rw [e2] at this
    omega
  clear hc
  have hemp : cs.toList.isEmpty = false := by
    rw [Lib.toList_data]
    cases h : cs.data.toList with
    | nil => have := Lib.size_eq cs; rw [h, List.length_nil] at this; omega
    | cons _ _ => rfl
  have hn1 : ((cs.size : Int) == 1) = false := beq_eq_false_iff_ne.2 (by omega)
  have h8z : decide ((8 : Int) < (s.size : Int)) = false := decide_eq_false (by omega)
  go_enter Tryz.func82, Tryz.ntmps82
  go_wp2_with fail
  refine (useSet _ _).mono ?_
  rintro e w' ⟨rfl, rfl⟩
  rw [h8z]
  clear h8z
  go_wp2_with fail
  go_loopg [9, 10] s.size (fun g _ _ wx => ∃ i : Nat, i + g = s.size ∧ wx.heap[w'.heap.size]? = some (.stringIter s i) ∧ Below w'.heap.size w' wx ∧ Lib.NoAny s.data.toList cs.data.toList i)
  case atStart => exact ⟨0, by omega, World.alloc_heap_new w' _, (Below.refl _ _).alloc (Nat.le_refl _) _, Lib.NoAny.zero _ _⟩
  case round =>
    obtain ⟨i, hig, hk, hbel, hno⟩ := hrel
    have HN : Hid (Lib.NoAny s.data.toList cs.data.toList i) := hno
    have HK : Hid (wr.heap[w'.heap.size]? = some (.stringIter s i)) := hk
    clear hno
    cases gk with
    | zero =>
      obtain rfl : i = s.size := by omega
      have hnx := fun ty => Go.Lib.run_next_end_at (P := Tryz.prog) wr w'.heap.size s s.size ty hk (by omega)
      clear hk
      go_wp2
      go_ret
      exact ⟨by rw [Lib.indexAny_none (by rw [← Lib.size_eq]; exact HN.out)]; rfl, hbel⟩
    | succ g =>
      have hi : i < s.size := by omega
      obtain ⟨x, hx⟩ : ∃ x : UInt8, s[i]'hi = x := ⟨_, rfl⟩
      have hxl : s.data.toList[i]? = some x := by rw [← hx]; exact Lib.data_getElem? s i hi
      have Hx : Hid (s.data.toList[i]? = some x) := hxl
      clear hxl
      by_cases h128 : x.toNat < 128
      · have hnx := fun ty => Go.Lib.run_next_ascii_at (P := Tryz.prog) wr w'.heap.size s i ty hk hi (by rw [hx]; exact h128)
        rw [hx] at hnx
        have hb2 := below_iterAt hbel (Nat.le_refl _) s (i + 1)
        have hk2 := Go.Lib.iterAt_heap wr w'.heap.size s i (i + 1) hk
        have HK2 := (show Hid _ from hk2)
        clear hk hk2
        generalize wr.iterAt w'.heap.size s (i + 1) = wy at *
        have hcon := Lib.contains_iff_indexByte cs.data.toList x
        have hback : ((x.toNat : Int)).toNat.toUInt8 = x := by simp
        cases hin : cs.data.toList.contains x
        · rw [hin] at hcon
          have hlt : ¬ ((0 : Int) ≤ Lib.indexByte cs.data.toList x) := of_decide_eq_false hcon.symm
          clear hcon
          go_wp2_with fail
          refine (iruneA _ _ _ (by omega) (by omega)).mono ?_
          rintro e w2 ⟨rfl, rfl⟩
          rw [hback]
          go_wp2
          go_roundg g
          case measure => omega
          case rel => exact ⟨i + 1, by omega, HK2.out, hb2, HN.out.succ Hx.out hin⟩
        · rw [hin] at hcon
          have hge : (0 : Int) ≤ Lib.indexByte cs.data.toList x := of_decide_eq_true hcon.symm
          clear hcon
          go_wp2_with fail
          refine (iruneA _ _ _ (by omega) (by omega)).mono ?_
          rintro e w2 ⟨rfl, rfl⟩
          rw [hback]
          go_wp2
          go_ret
          exact ⟨by rw [Lib.indexAny_hit HN.out Hx.out hin]; rfl, hb2⟩
      · have h129 : 128 ≤ (s[i]'hi).toNat := by rw [hx]; omega
        have hnx := fun ty => Go.Lib.run_next_any_at (P := Tryz.prog) wr w'.heap.size s i ty hk hi
        obtain ⟨d1, d2⟩ := decode_high s i hi h129
        obtain ⟨d3, d4⟩ := decode_cont s i hi h129
        have hno2 : Hid (Lib.NoAny s.data.toList cs.data.toList (i + (Utf8.decode s i).2)) := noAny_run HN.out fun k hk => by
          have hlt : i + k < s.size := by omega
          have := d4 k hk
          rw [get_in s (i + k) hlt] at this
          exact ⟨_, Lib.data_getElem? s (i + k) hlt, HCL.out _ this⟩
        clear d4
        generalize (Utf8.decode s i).1 = rr at *
        generalize (Utf8.decode s i).2 = d at *
        have hb2 := below_iterAt hbel (Nat.le_refl _) s (i + d)
        have hk2 := Go.Lib.iterAt_heap wr w'.heap.size s i (i + d) hk
        have HK2 := (show Hid _ from hk2)
        have hlt2 : w'.heap.size < (wr.iterAt w'.heap.size s (i + d)).heap.size := (Array.getElem?_eq_some_iff.1 hk2).1
        clear hk hk2
        generalize wr.iterAt w'.heap.size s (i + d) = wy at *
        go_wp2_with fail
        refine (irune2 cs h2 HC.out (rr : Int) _ (by omega)).mono ?_
        rintro e w2 ⟨rfl, hb3⟩
        have hk3 := (hb3.block _ hlt2).trans HK2.out
        have HK3 := (show Hid _ from hk3)
        have hb4 := hb2.trans (hb3.mono (Nat.le_of_lt hlt2))
        clear hk3 hb3
        go_wp2
        go_roundg (s.size - (i + d))
        case measure => omega
        case rel => exact ⟨i + d, by omega, HK3.out, hb4, hno2.out⟩
theorem ianyB (s cs : ByteArray) (w : World) (h2 : cs.size = 2) (hs : s.size < 4294967281) (hc : ∀ (i : Nat) (h : i < cs.size), (cs[i]'h).toNat < 128) :
    Calls Tryz.prog 82 #[.string s, .string cs] w fun e w' => e = .returned (.int .i64 (Lib.indexAny s.data.toList cs.data.toList)) ∧ Below w.heap.size w w' := by
  by_cases h8 : s.size ≤ 8
  · exact ianyZ s cs w h2 h8 hc
  · have hac : ∀ (j : Nat) b, cs.data.toList[j]? = some b → b.toNat < 128 := fun j b hb => by
      obtain ⟨hj, e⟩ := List.getElem?_eq_some_iff.1 hb
      have hj' : j < cs.size := by rw [← sizeL]; exact hj
      have := hc j hj'
      rw [show cs[j]'hj' = b by rw [← e]; rfl] at this
      exact this
    refine (Any.strings_IndexAny_long Tryz.lays153 (zero_of_info (v := .agg (Array.replicate 256 (.bool false))) (n := 256) (by kernel_rfl)).1 (zero_of_info (v := .agg (Array.replicate 256 (.bool false))) (n := 256) (by kernel_rfl)).2 s cs w (by omega) (by omega) hs (by omega) hac).mono fun e w' ⟨h1, h2⟩ => ⟨h1, ?_⟩
    rw [h2]
    exact ((Below.refl _ _).alloc (Nat.le_refl _) _).alloc (by simp) _
end Go.Proofs.YtdfoiklcekhmpaaGreatDoor

import Derived.Test.YtdfoiklcekhmpaaGreatDoorLawAll
import Derived.Test.YtdfoiklcekhmpaaGreatDoorTxtP
namespace Go.Proofs.YtdfoiklcekhmpaaGreatDoor
open Go.RowKit Go.Shelf

theorem ixb_none {l : List UInt8} {c : UInt8} (h : c ∉ l) : Lib.indexByte l c = -1 := by
  induction l with
  | nil => rfl
  | cons b l ih =>
    simp only [List.mem_cons, not_or] at h
    have hb : (b == c) = false := by simpa using fun e => h.1 e.symm
    simp [Lib.indexByte, hb, ih h.2]
theorem ixb_at {l r : List UInt8} {c : UInt8} (h : c ∉ l) : Lib.indexByte (l ++ c :: r) c = (l.length : Int) := by
  induction l with
  | nil => simp [Lib.indexByte]
  | cons b l ih =>
    simp only [List.mem_cons, not_or] at h
    have hb : (b == c) = false := by simpa using fun e => h.1 e.symm
    have h2 := ih h.2
    simp only [List.cons_append, Lib.indexByte, hb, h2, List.length_cons]
    have : ((l.length : Int) == -1) = false := by simp
    simp [this]
theorem str_off {s : ByteArray} {c : UInt8} (h : c ∉ s.data.toList) : ([c] == s.toList) = false := by
  rw [beq_eq_false_iff_ne, ByteArray.toList_eq]
  intro e
  exact h (by rw [← e]; simp)
set_option maxRecDepth 100000 in
set_option maxHeartbeats 4000000 in
theorem idx47 (s : ByteArray) (t : Int) (w : World) (hne : ([47] == s.toList) = false) (ht : Lib.indexByte s.data.toList 47 = t) : Calls Tryz.prog 77 #[.string s, .string ⟨#[47]⟩] w fun e w' => e = .returned (.int .i64 t) ∧ w' = w := by
  have HT : Hid (Lib.indexByte s.data.toList 47 = t) := ht
  clear ht
  go_enter Tryz.func77, Tryz.ntmps77
  go_wp2_with fail
  refine (ibyteS _ _ _).mono ?_
  rintro e w' ⟨rfl, rfl⟩
  rw [show Lib.indexByte s.data.toList (((({ data := #[47] } : ByteArray)[0]'(by decide)).toNat : Int).toNat.toUInt8) = t from HT.out]
  go_wp2
  go_ret
  exact ⟨rfl, rfl⟩
set_option maxRecDepth 100000 in
set_option maxHeartbeats 4000000 in
theorem cutN47 (s : ByteArray) (w : World) (h : (47 : UInt8) ∉ s.data.toList) : Calls Tryz.prog 20 #[.string s, .string ⟨#[47]⟩] w fun e w' => e = .returned (.tuple #[.string s, .string ⟨#[]⟩, .bool false]) ∧ Below w.heap.size w w' := by
  have k : Calls Tryz.prog 48 #[.string s, .string ⟨#[47]⟩] w fun e w' => e = .returned (.tuple #[.string s, .string ⟨#[]⟩, .bool false]) ∧ Below w.heap.size w w' := by
    go_enter Tryz.func48, Tryz.ntmps48
    go_wp2_with fail
    refine (idx47 s (-1) _ (str_off h) (ixb_none h)).mono ?_
    rintro e w' ⟨rfl, rfl⟩
    go_wp2
    go_ret3
    exact ⟨rfl, Below.refl _ _⟩
  go_enter Tryz.func20, Tryz.ntmps20
  go_wp2_with fail
  refine k.mono ?_
  rintro e w' ⟨rfl, hx⟩
  go_wp2
  go_ret3
  exact ⟨rfl, hx⟩
set_option maxRecDepth 100000 in
set_option maxHeartbeats 4000000 in
theorem idx46 (s : ByteArray) (t : Int) (w : World) (hne : ([46] == s.toList) = false) (ht : Lib.indexByte s.data.toList 46 = t) : Calls Tryz.prog 77 #[.string s, .string ⟨#[46]⟩] w fun e w' => e = .returned (.int .i64 t) ∧ w' = w := by
  have HT : Hid (Lib.indexByte s.data.toList 46 = t) := ht
  clear ht
  go_enter Tryz.func77, Tryz.ntmps77
  go_wp2_with fail
  refine (ibyteS _ _ _).mono ?_
  rintro e w' ⟨rfl, rfl⟩
  rw [show Lib.indexByte s.data.toList (((({ data := #[46] } : ByteArray)[0]'(by decide)).toNat : Int).toNat.toUInt8) = t from HT.out]
  go_wp2
  go_ret
  exact ⟨rfl, rfl⟩
set_option maxRecDepth 100000 in
set_option maxHeartbeats 4000000 in
theorem cutN46 (s : ByteArray) (w : World) (h : (46 : UInt8) ∉ s.data.toList) : Calls Tryz.prog 20 #[.string s, .string ⟨#[46]⟩] w fun e w' => e = .returned (.tuple #[.string s, .string ⟨#[]⟩, .bool false]) ∧ Below w.heap.size w w' := by
  have k : Calls Tryz.prog 48 #[.string s, .string ⟨#[46]⟩] w fun e w' => e = .returned (.tuple #[.string s, .string ⟨#[]⟩, .bool false]) ∧ Below w.heap.size w w' := by
    go_enter Tryz.func48, Tryz.ntmps48
    go_wp2_with fail
    refine (idx46 s (-1) _ (str_off h) (ixb_none h)).mono ?_
    rintro e w' ⟨rfl, rfl⟩
    go_wp2
    go_ret3
    exact ⟨rfl, Below.refl _ _⟩
  go_enter Tryz.func20, Tryz.ntmps20
  go_wp2_with fail
  refine k.mono ?_
  rintro e w' ⟨rfl, hx⟩
  go_wp2
  go_ret3
  exact ⟨rfl, hx⟩
set_option maxRecDepth 100000 in
set_option maxHeartbeats 4000000 in
theorem cutY47 (s : ByteArray) (k : Nat) (w : World) (hne : ([47] == s.toList) = false) (hk : Lib.indexByte s.data.toList 47 = (k : Int)) (hs : s.size ≤ 100000000) (hks : k < s.size) : Calls Tryz.prog 20 #[.string s, .string ⟨#[47]⟩] w fun e w' => e = .returned (.tuple #[.string (s.extract 0 k), .string (s.extract (k + 1) s.size), .bool true]) ∧ Below w.heap.size w w' := by
  have kk : Calls Tryz.prog 48 #[.string s, .string ⟨#[47]⟩] w fun e w' => e = .returned (.tuple #[.string (s.extract 0 k), .string (s.extract (k + 1) s.size), .bool true]) ∧ Below w.heap.size w w' := by
    have hk1 : (0 : Int) ≤ (k : Int) := by omega
    have hk2 : (k : Int) ≤ (s.size : Int) := by omega
    have hk3 : (k : Int) + 1 ≤ (s.size : Int) := by omega
    have hw1 : IntKind.i64.wrap ((k : Int) + 1) = (k : Int) + 1 := by rw [IntKind.wrap_i64]; omega
    go_enter Tryz.func48, Tryz.ntmps48
    go_wp2_with fail
    refine (idx47 s k _ hne hk).mono ?_
    rintro e w' ⟨rfl, rfl⟩
    clear hk hne
    go_wp2
    go_region
    go_wp2
    go_ret3
    exact ⟨by simp, (Below.refl _ _).drew⟩
  go_enter Tryz.func20, Tryz.ntmps20
  go_wp2_with fail
  refine kk.mono ?_
  rintro e w' ⟨rfl, hx⟩
  go_wp2
  go_ret3
  exact ⟨rfl, hx⟩
end Go.Proofs.YtdfoiklcekhmpaaGreatDoor

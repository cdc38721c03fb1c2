import Derived.Test.YtdfoiklcekhmpaaGreatDoorR4C
import Derived.Laws.Runes
import Derived.Laws.RangeAny
import Derived.Deep.LoopGhost
import Derived.Scope
namespace Go.Proofs.YtdfoiklcekhmpaaGreatDoor
open Go.RowKit Go.Shelf

set_option maxHeartbeats 4000000 in
theorem validR (r : Int) (w : World) (h0 : 0 ≤ r) : Calls Tryz.prog 131 #[.int .i32 r] w fun e w' => e = .returned (.bool (Utf8.valid r)) ∧ w' = w := by
  by_cases h1 : r < 55296
  · rw [show Utf8.valid r = true by simp [Utf8.valid]; omega]
    go_enter Tryz.func131, Tryz.ntmps131
    go_wp2
    go_ret
    exact ⟨rfl, rfl⟩
  · by_cases h2 : 57343 < r
    · by_cases h3 : r ≤ 1114111
      · rw [show Utf8.valid r = true by simp [Utf8.valid]; omega]
        go_enter Tryz.func131, Tryz.ntmps131
        go_wp2
        go_ret
        exact ⟨rfl, rfl⟩
      · rw [show Utf8.valid r = false by simp [Utf8.valid]; omega]
        go_enter Tryz.func131, Tryz.ntmps131
        go_wp2
        go_ret
        exact ⟨rfl, rfl⟩
    · rw [show Utf8.valid r = false by simp [Utf8.valid]; omega]
      go_enter Tryz.func131, Tryz.ntmps131
      go_wp2
      go_ret
      exact ⟨rfl, rfl⟩
theorem sbyteE {t : ByteArray} (ht : t.size = 0) (c : Int) (w : World) : Calls Tryz.prog 130 #[.string t, .int .u8 c] w fun e w' => e = .returned (.int .i64 (-1)) ∧ w' = w := by
  obtain rfl : t = ⟨#[]⟩ := by
    obtain ⟨⟨l⟩⟩ := t
    cases l with
    | nil => rfl
    | cons x r => exact absurd ht (by show ¬ ((x :: r).length = 0); simp)
  go_enter Tryz.func130, Tryz.ntmps130
  go_wp2_with fail
  refine (ibyteS _ _ _).mono ?_
  rintro e w' ⟨rfl, rfl⟩
  go_wp2
  go_ret
  exact ⟨rfl, rfl⟩
set_option maxRecDepth 100000 in
set_option maxHeartbeats 8000000 in
/-- strings.IndexRune of what is no ASCII in two ASCII bytes -/
theorem irune2 (s : ByteArray) (hs : s.size = 2) (ha : ∀ (i : Nat) (h : i < s.size), (s[i]'h).toNat < 128) (r : Int) (w : World) (r0 : 128 ≤ r) :
    Calls Tryz.prog 109 #[.string s, .int .i32 r] w fun e w' => e = .returned (.int .i64 (-1)) ∧ Below w.heap.size w w' := by
  by_cases hE : r = 65533
  · subst hE
    go_enter Tryz.func109, Tryz.ntmps109
    go_wp2_with fail
    go_loopg [5, 6] 2 (fun g _ _ wx => ∃ i : Nat, i + g = 2 ∧ wx = w.iter s i)
    case atStart => exact ⟨0, by omega, rfl⟩
    case round =>
      obtain ⟨i, hig, rfl⟩ := hrel
      cases gk with
      | zero =>
        obtain rfl : i = 2 := by omega
        have hnx := fun ty => run_next_end (P := Tryz.prog) w s 2 ty (by omega)
        go_wp2
        go_ret
        exact ⟨rfl, (Below.refl _ _).alloc (Nat.le_refl _) _⟩
      | succ g =>
        have hi : i < s.size := by omega
        have hnx := fun ty => run_next_ascii (P := Tryz.prog) w s i ty hi (ha i hi)
        have hx := ha i hi
        generalize (s[i]'hi).toNat = x at *
        have hx2 : ¬ (x : Int) = 65533 := by omega
        go_wp2
        go_roundg g
        case measure => omega
        case rel => exact ⟨i + 1, by omega, rfl⟩
  · go_enter Tryz.func109, Tryz.ntmps109
    go_wp2_with fail
    refine (validR r _ (by omega)).mono ?_
    rintro e w' ⟨rfl, rfl⟩
    cases hv : Utf8.valid r
    · go_wp2
      go_ret
      exact ⟨rfl, Below.refl _ _⟩
    · obtain ⟨e1, e2, e3⟩ := encode_facts r hv r0
      have hcv := fun w => run_convert_int_string (P := Tryz.prog) w 21 9 .i32 r rfl Tryz.underlying9
      generalize Utf8.encode r = E at *
      clear hv
      go_wp2_with fail
      refine wp_scope_straight ?_
      go_wp2_with fail
      by_cases h2 : E.size = 2
      · have f0 := ha 1 (by omega)
        have f1 := e3 (by omega)
        have f2 : 128 ≤ (E[1]'(by omega)).toNat := by
          have : ∀ (k : Nat) (hk : k = 1) (h : k < E.size), 128 ≤ (E[k]'h).toNat → 128 ≤ (E[1]'(by omega)).toNat := fun k hk h hh => by subst hk; exact hh
          exact this _ (by omega) _ f1
        clear ha e1 e2 e3 f1
        have k1 : (1 : Int) < (s.size : Int) := by omega
        have k2 : (1 : Int) < (E.size : Int) := by omega
        have k3 : (E.size : Int) - 1 = 1 := by omega
        have hne : ¬ ((s[1]'(by omega)).toNat : Int) = ((E[1]'(by omega)).toNat : Int) := by omega
        rw [k3]
        go_loopw [9, 10] (fun a b wr => a = .int .i64 1 ∧ b = .int .i64 0 ∧ wr = w') (fun _ _ _ => 0)
        case atStart => exact ⟨rfl, rfl, rfl⟩
        case round =>
          obtain ⟨rfl, rfl, rfl⟩ := hrel
          go_wp2_with fail
          refine wp_scope_straight ?_
          go_wp2_with fail
          go_quiet (fail)
          have hbq : Below wr.heap.size wr (wr.drewN nq) := belN (Below.refl _ _) _
          generalize wr.drewN nq = wq at *
          go_wp2_with fail
          have hw2 : IntKind.i64.wrap 2 = 2 := by decide
          have k6 : (2 : Int) ≤ (s.size : Int) := by omega
          go_quiet ((go_at_call 130; exact Calls.quiet_of_same (sbyteE rfl _ _)))
          go_wp2
          simp +zetaDelta only [Exit.noGoto, Exit.inBlock, Exit.then]
          go_ret
          exact ⟨rfl, belN hbq _⟩
      · have k1 : ¬ ((E.size : Int) - 1 < (s.size : Int)) := by omega
        go_loopw [9, 10] (fun a b wr => a = .int .i64 ((E.size : Int) - 1) ∧ b = .int .i64 0 ∧ wr = w') (fun _ _ _ => 0)
        case atStart => exact ⟨rfl, rfl, rfl⟩
        case round =>
          obtain ⟨rfl, rfl, rfl⟩ := hrel
          go_wp2
          go_ret
          exact ⟨rfl, Below.refl _ _⟩
end Go.Proofs.YtdfoiklcekhmpaaGreatDoor

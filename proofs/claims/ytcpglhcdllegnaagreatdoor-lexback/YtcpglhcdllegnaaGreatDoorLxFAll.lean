import Derived.Test.YtcpglhcdllegnaaGreatDoorLxWAll
namespace Go.Proofs.YtcpglhcdllegnaaGreatDoor
open Go.RowKit

theorem smB_nat (c : UInt8) : ((smB c).toNat : Int) = if 65 ≤ (c.toNat : Int) ∧ (c.toNat : Int) ≤ 90 then (c.toNat : Int) + 32 else (c.toNat : Int) :=
  byte_all (p := fun c => ((smB c).toNat : Int) = if 65 ≤ (c.toNat : Int) ∧ (c.toNat : Int) ≤ 90 then (c.toNat : Int) + 32 else (c.toNat : Int)) (by decide +kernel) c
theorem byte_bd (c : UInt8) : 0 ≤ (c.toNat : Int) ∧ (c.toNat : Int) < 256 := by have := c.toNat_lt; omega
/-- ref5.small -/
theorem smallD (c : UInt8) (w : World) :
    Calls Tryz.prog 69 #[.int .u8 (c.toNat : Int)] w fun e w' => e = .returned (.int .u8 ((smB c).toNat : Int)) ∧ w' = w := by
  have hb := byte_bd c
  rw [smB_nat]
  generalize (c.toNat : Int) = C at *
  by_cases h1 : (65 : Int) ≤ C
  · by_cases h2 : C ≤ 90
    · rw [if_pos ⟨h1, h2⟩]
      have hw : IntKind.u8.wrap (C + 32) = C + 32 := by rw [IntKind.wrap_u8]; omega
      clear hb
      go_enter Tryz.func69, Tryz.ntmps69
      go_wp2
      go_ret
      exact ⟨rfl, rfl⟩
    · rw [if_neg (by omega)]
      clear hb
      go_enter Tryz.func69, Tryz.ntmps69
      go_wp2
      go_ret
      exact ⟨rfl, rfl⟩
  · rw [if_neg (by omega)]
    clear hb
    go_enter Tryz.func69, Tryz.ntmps69
    go_wp2
    go_ret
    exact ⟨rfl, rfl⟩
def mkB : List UInt8 := [33, 34, 35, 36, 37, 38, 40, 41, 44, 46, 59, 63, 64, 95, 39, 96, 123, 125, 126]
theorem nm_abc (c : UInt8) (h : 97 ≤ ((smB c).toNat : Int) ∧ ((smB c).toNat : Int) ≤ 122) : nmB.contains c = true := by
  revert h
  exact byte_all (p := fun c => 97 ≤ ((smB c).toNat : Int) ∧ ((smB c).toNat : Int) ≤ 122 → nmB.contains c = true) (by decide +kernel) c
theorem nm_dig (c : UInt8) (h : 48 ≤ (c.toNat : Int) ∧ (c.toNat : Int) ≤ 57) : nmB.contains c = true := by
  revert h
  exact byte_all (p := fun c => 48 ≤ (c.toNat : Int) ∧ (c.toNat : Int) ≤ 57 → nmB.contains c = true) (by decide +kernel) c
theorem nm_mark (c : UInt8) (h1 : ¬ (97 ≤ ((smB c).toNat : Int) ∧ ((smB c).toNat : Int) ≤ 122)) (h2 : ¬ (48 ≤ (c.toNat : Int) ∧ (c.toNat : Int) ≤ 57)) : nmB.contains c = mkB.contains c := by
  revert h1 h2
  exact byte_all (p := fun c => ¬ (97 ≤ ((smB c).toNat : Int) ∧ ((smB c).toNat : Int) ≤ 122) → ¬ (48 ≤ (c.toNat : Int) ∧ (c.toNat : Int) ≤ 57) → nmB.contains c = mkB.contains c) (by decide +kernel) c
theorem mk_at {c : UInt8} {i : Nat} (hi : i < 19) (h : ((mkB.getD i 0).toNat : Int) = (c.toNat : Int)) : mkB.contains c = true := by
  have e : mkB.getD i 0 = c := UInt8.toNat_inj.1 (by omega)
  have hl : i < mkB.length := hi
  rw [← e, List.getD_eq_getElem?_getD, List.getElem?_eq_getElem hl, Option.getD_some]
  exact List.elem_eq_true_of_mem (List.getElem_mem hl)
theorem mk_no {c : UInt8} (h : ∀ i, i < 19 → ¬ ((mkB.getD i 0).toNat : Int) = (c.toNat : Int)) : mkB.contains c = false := by
  cases e : mkB.contains c with
  | false => rfl
  | true =>
    exfalso
    have hm : c ∈ mkB := by simpa using e
    obtain ⟨i, hi, hc⟩ := List.mem_iff_getElem.1 hm
    refine h i hi ?_
    rw [List.getD_eq_getElem?_getD, List.getElem?_eq_getElem hi, Option.getD_some, hc]
set_option maxRecDepth 100000 in
set_option maxHeartbeats 4000000 in
/-- ref5.nameByte -/
theorem nameByteD (c : UInt8) (w : World) :
    Calls Tryz.prog 57 #[.int .u8 (c.toNat : Int)] w fun e w' => e = .returned (.bool (nmB.contains c)) ∧ w' = w := by
  have HS : ∀ u : World, Calls Tryz.prog 69 #[.int .u8 (c.toNat : Int)] u fun e w' => e = .returned (.int .u8 ((smB c).toNat : Int)) ∧ w' = u := fun u => smallD c u
  have HA := nm_abc c
  have HB := nm_dig c
  have HM := nm_mark c
  have HG := @mk_at c
  have HN := @mk_no c
  generalize ((smB c).toNat : Int) = D at *
  generalize (c.toNat : Int) = C at *
  generalize nmB.contains c = R at *
  generalize mkB.contains c = M at *
  have loopD : ∀ (Q : Nat → Prop), True := fun _ => trivial
  clear loopD
  by_cases hA : 97 ≤ D ∧ D ≤ 122
  · obtain ⟨h1, h2⟩ := hA
    rw [HA ⟨h1, h2⟩]
    clear HA HB HM HG HN
    go_enter Tryz.func57, Tryz.ntmps57
    go_wp2_with fail
    refine (HS _).mono ?_
    rintro e w1 ⟨rfl, rfl⟩
    go_wp2
    go_ret
    exact ⟨rfl, rfl⟩
  · by_cases hB : 48 ≤ C ∧ C ≤ 57
    · obtain ⟨h1, h2⟩ := hB
      rw [HB ⟨h1, h2⟩]
      clear HA HB HM HG HN
      rcases (by omega : ¬ 97 ≤ D ∨ (97 ≤ D ∧ ¬ D ≤ 122)) with h3 | ⟨h3, h4⟩
      all_goals
        go_enter Tryz.func57, Tryz.ntmps57
        go_wp2_with fail
        refine (HS _).mono ?_
        rintro e w1 ⟨rfl, rfl⟩
        go_wp2
        go_ret
        exact ⟨rfl, rfl⟩
    · have hR := HM hA hB
      subst hR
      clear HA HB HM
      have hA' : ¬ 97 ≤ D ∨ (97 ≤ D ∧ ¬ D ≤ 122) := by omega
      have hB' : ¬ 48 ≤ C ∨ (48 ≤ C ∧ ¬ C ≤ 57) := by omega
      clear hA hB
      rcases hA' with h3 | ⟨h3, h4⟩ <;> rcases hB' with h5 | ⟨h5, h6⟩
      all_goals
        go_enter Tryz.func57, Tryz.ntmps57
        go_wp2_with fail
        refine (HS _).mono ?_
        rintro e w1 ⟨rfl, rfl⟩
        go_wp2
        go_loopw [5] (fun t wr => ∃ i : Nat, i ≤ 19 ∧ t = .int .i64 i ∧ (∀ j, j < i → ¬ ((mkB.getD j 0).toNat : Int) = C) ∧ wr = w1) (fun t _ => 19 - (intOf t).toNat)
        case atStart => exact ⟨0, by omega, rfl, fun j hj => absurd hj (Nat.not_lt_zero _), rfl⟩
        case round =>
          obtain ⟨i, hi, rfl, hno, rfl⟩ := hrel
          have HNO : Hid (∀ j, j < i → ¬ ((mkB.getD j 0).toNat : Int) = C) := hno
          clear hno
          by_cases hlt : i < 19
          · have hil : (i : Int) < 19 := by omega
            have hi0 : (0 : Int) ≤ (i : Int) := by omega
            obtain ⟨s, hs⟩ : ∃ s : ByteArray, s = ⟨#[33, 34, 35, 36, 37, 38, 40, 41, 44, 46, 59, 63, 64, 95, 39, 96, 123, 125, 126]⟩ := ⟨_, rfl⟩
            have hsz : s.size = 19 := by rw [hs]; rfl
            have hby : ((s[i]'(by omega)).toNat : Int) = ((mkB.getD i 0).toNat : Int) := by
              rw [getD_get (by omega), hs]; rfl
            have hw1 : IntKind.i64.wrap ((i : Int) + 1) = (i : Int) + 1 := by rw [IntKind.wrap_i64]; omega
            rw [← hs]
            have hszI : (s.size : Int) = 19 := by omega
            have hlt2 : i < s.size := by omega
            by_cases he : ((mkB.getD i 0).toNat : Int) = C
            · have hM := HG hlt he
              generalize ((mkB.getD i 0).toNat : Int) = E at *
              subst he
              subst hM
              clear HG HN HNO hs
              go_wp2
              go_ret
              exact ⟨rfl, rfl⟩
            · have HNO2 : Hid (∀ j, j < i + 1 → ¬ ((mkB.getD j 0).toNat : Int) = C) := fun j hj => by
                rcases (by omega : j < i ∨ j = i) with h | rfl
                · exact HNO.out j h
                · exact he
              generalize ((mkB.getD i 0).toNat : Int) = E at *
              have hb : (E == C) = false := by simpa using he
              clear HG HN HNO hs
              go_wp2
              go_roundw
              case rel => exact ⟨i + 1, by omega, by go_num, HNO2.out, by first | rfl | trivial⟩
              case measure => simp [intOf]; omega
          · have hil : ¬ (i : Int) < 19 := by omega
            obtain rfl : i = 19 := by omega
            have hM := HN HNO.out
            subst hM
            clear HG HN HNO
            go_wp2
            go_ret
            exact ⟨rfl, rfl⟩
end Go.Proofs.YtcpglhcdllegnaaGreatDoor

namespace Go.Proofs.YtcpglhcdllegnaaGreatDoor
open Go.RowKit

set_option maxRecDepth 100000 in
set_option maxHeartbeats 4000000 in
/-- ref5.name -/
theorem nameD (s : ByteArray) (k : Nat) (w : World) (hk : k ≤ s.size) (hs : s.size ≤ 1000000000) :
    Calls Tryz.prog 42 #[.string s, .int .i64 k] w fun e w' => e = .returned (.int .i64 ((k + ldL (s.data.toList.drop k) nmB : Nat) : Int)) ∧ w' = w := by
  obtain ⟨N, hN⟩ : ∃ N, k + ldL (s.data.toList.drop k) nmB = N := ⟨_, rfl⟩
  rw [hN]
  go_enter Tryz.func42, Tryz.ntmps42
  go_wp2
  go_loopw [1] (fun t wr => ∃ i : Nat, i ≤ s.size ∧ t = .int .i64 i ∧ Hid (i + ldL (s.data.toList.drop i) nmB = N) ∧ wr = w) (fun t _ => s.size - (intOf t).toNat)
  case atStart => exact ⟨k, hk, rfl, hN, rfl⟩
  case round =>
    obtain ⟨i, hi, rfl, HN, rfl⟩ := hrel
    clear hN hk
    by_cases hlt : i < s.size
    · have hil : (i : Int) < (s.size : Int) := by omega
      have hi0 : (0 : Int) ≤ (i : Int) := by omega
      have hby := getD_get hlt
      have hd := drop_byte hlt
      have HC := fun u => nameByteD (s.data.toList.getD i 0) u
      have hw1 : IntKind.i64.wrap ((i : Int) + 1) = (i : Int) + 1 := by rw [IntKind.wrap_i64]; omega
      by_cases hc : nmB.contains (s.data.toList.getD i 0) = true
      · have HN2 : Hid (i + 1 + ldL (s.data.toList.drop (i + 1)) nmB = N) := by show _ = _; rw [← HN.out, hd, ldL_pos hc]; omega
        rw [hc] at HC
        clear hd hc HN
        generalize ((s.data.toList.getD i 0).toNat : Int) = C at *
        go_wp2_with fail
        refine (HC _).mono ?_
        rintro e w1 ⟨rfl, rfl⟩
        go_wp2
        go_roundw
        case rel => exact ⟨i + 1, by omega, by go_num, HN2, by first | rfl | trivial⟩
        case measure => simp [intOf]; omega
      · obtain rfl : i = N := by
          have := HN.out
          rw [hd, ldL_neg hc] at this
          exact this
        rw [show nmB.contains (s.data.toList.getD i 0) = false by simpa using hc] at HC
        clear hd hc HN
        generalize ((s.data.toList.getD i 0).toNat : Int) = C at *
        go_wp2_with fail
        refine (HC _).mono ?_
        rintro e w1 ⟨rfl, rfl⟩
        go_wp2
        go_ret
        exact ⟨rfl, rfl⟩
    · have hil : ¬ (i : Int) < (s.size : Int) := by omega
      obtain rfl : i = N := by
        have := HN.out
        rw [drop_none (by omega)] at this
        exact this
      clear HN
      go_wp2
      go_ret
      exact ⟨rfl, rfl⟩
theorem bl_of (c : UInt8) : blB.contains c = decide ((c.toNat : Int) = 32 ∨ (c.toNat : Int) = 9 ∨ (c.toNat : Int) = 10 ∨ (c.toNat : Int) = 13) :=
  byte_all (p := fun c => blB.contains c = decide ((c.toNat : Int) = 32 ∨ (c.toNat : Int) = 9 ∨ (c.toNat : Int) = 10 ∨ (c.toNat : Int) = 13)) (by decide +kernel) c
/-- ref5.blank -/
theorem blankD (c : UInt8) (w : World) :
    Calls Tryz.prog 53 #[.int .u8 (c.toNat : Int)] w fun e w' => e = .returned (.bool (blB.contains c)) ∧ w' = w := by
  rw [bl_of]
  generalize (c.toNat : Int) = C at *
  by_cases h1 : C = 32
  · subst h1
    go_enter Tryz.func53, Tryz.ntmps53
    go_wp2
    go_ret
    exact ⟨rfl, rfl⟩
  · by_cases h2 : C = 9
    · subst h2
      go_enter Tryz.func53, Tryz.ntmps53
      go_wp2
      go_ret
      exact ⟨rfl, rfl⟩
    · by_cases h3 : C = 10
      · subst h3
        go_enter Tryz.func53, Tryz.ntmps53
        go_wp2
        go_ret
        exact ⟨rfl, rfl⟩
      · by_cases h4 : C = 13
        · subst h4
          go_enter Tryz.func53, Tryz.ntmps53
          go_wp2
          go_ret
          exact ⟨rfl, rfl⟩
        · rw [show decide (C = 32 ∨ C = 9 ∨ C = 10 ∨ C = 13) = false from decide_eq_false (by omega)]
          have b1 : (C == 32) = false := by simpa using h1
          have b2 : (C == 9) = false := by simpa using h2
          have b3 : (C == 10) = false := by simpa using h3
          have b4 : (C == 13) = false := by simpa using h4
          go_enter Tryz.func53, Tryz.ntmps53
          go_wp2
          go_ret
          exact ⟨rfl, rfl⟩
theorem gp_bl {b : UInt8} {l : List UInt8} (h : blB.contains b = true) : gp false (b :: l) = gp false l := by
  conv => lhs; unfold gp
  rw [if_pos h]
theorem gp_rem {l : List UInt8} : gp false (92 :: l) = gp true (92 :: l) := rfl
theorem gp_on {b : UInt8} {l : List UInt8} (h : ¬ b = 10) : gp true (b :: l) = gp true l := by
  conv => lhs; unfold gp
  rw [if_neg h]
theorem gp_off {l : List UInt8} : gp true (10 :: l) = gp false (10 :: l) := rfl
theorem nat_eq {c d : UInt8} (h : (c.toNat : Int) = (d.toNat : Int)) : c = d := UInt8.toNat_inj.1 (by omega)
set_option maxRecDepth 100000 in
set_option maxHeartbeats 8000000 in
/-- ref5.Gap -/
theorem GapD (s : ByteArray) (k : Nat) (w : World) (hk : k ≤ s.size) (hs : s.size ≤ 1000000000) :
    Calls Tryz.prog 31 #[.string s, .int .i64 k] w fun e w' => e = .returned (.int .i64 ((k + gpN (s.data.toList.drop k) : Nat) : Int)) ∧ w' = w := by
  obtain ⟨G, hG⟩ : ∃ G, gp false (s.data.toList.drop k) = G := ⟨_, rfl⟩
  have hGl : G.length ≤ s.size - k := by
    have := gp_len false (s.data.toList.drop k)
    rw [hG, List.length_drop, len_list] at this; exact this
  have e0 : k + gpN (s.data.toList.drop k) = s.size - G.length := by
    unfold gpN; rw [hG, List.length_drop, len_list]; omega
  rw [e0]
  obtain ⟨N, hN⟩ : ∃ N, s.size - G.length = N := ⟨_, rfl⟩
  rw [hN]
  have HG : Hid (gp false (s.data.toList.drop k) = G) := hG
  have HL : Hid (s.size - G.length = N ∧ G.length ≤ s.size) := ⟨hN, by omega⟩
  clear hG e0 hN hGl
  go_enter Tryz.func31, Tryz.ntmps31
  go_wp2
  go_loopw [1] (fun t wr => ∃ i : Nat, i ≤ s.size ∧ t = .int .i64 i ∧ Hid (gp false (s.data.toList.drop i) = G) ∧ wr = w) (fun t _ => s.size - (intOf t).toNat)
  case atStart => exact ⟨k, hk, rfl, HG, rfl⟩
  case round =>
    clear HG hk
    obtain ⟨i, hi, rfl, HG, rfl⟩ := hrel
    by_cases hlt : i < s.size
    · have hil : (i : Int) < (s.size : Int) := by omega
      have hi0 : (0 : Int) ≤ (i : Int) := by omega
      have hby := getD_get hlt
      have hd := drop_byte hlt
      have HC := fun u => blankD (s.data.toList.getD i 0) u
      have hw1 : IntKind.i64.wrap ((i : Int) + 1) = (i : Int) + 1 := by rw [IntKind.wrap_i64]; omega
      by_cases hc : blB.contains (s.data.toList.getD i 0) = true
      · have HG2 : Hid (gp false (s.data.toList.drop (i + 1)) = G) := by show _ = _; rw [← HG.out, hd, gp_bl hc]
        rw [hc] at HC
        have h92 : ¬ ((s.data.toList.getD i 0).toNat : Int) = 92 := by
          have := bl_of (s.data.toList.getD i 0)
          rw [hc] at this
          have := of_decide_eq_true this.symm
          omega
        clear hd hc HG HL
        generalize ((s.data.toList.getD i 0).toNat : Int) = C at *
        have b92 : (C == 92) = false := by simpa using h92
        go_wp2_with fail
        refine (HC _).mono ?_
        rintro e w1 ⟨rfl, rfl⟩
        go_wp2
        go_roundw
        case rel => exact ⟨i + 1, by omega, by go_num, HG2, by first | rfl | trivial⟩
        case measure => simp [intOf]; omega
      · rw [show blB.contains (s.data.toList.getD i 0) = false by simpa using hc] at HC
        by_cases h92 : s.data.toList.getD i 0 = 92
        · have HG2 : Hid (gp true (s.data.toList.drop i) = G) := by show _ = _; rw [← HG.out, hd, h92]; rfl
          have hC : ((s.data.toList.getD i 0).toNat : Int) = 92 := by rw [h92]; rfl
          clear hd hc HG h92
          rw [hC] at hby
          rw [hC] at HC
          go_wp2_with fail
          refine (HC _).mono ?_
          rintro e w1 ⟨rfl, rfl⟩
          clear HC
          go_wp2
          go_loopw [1] (fun t wr => ∃ j : Nat, i ≤ j ∧ j ≤ s.size ∧ t = .int .i64 j ∧ Hid (gp true (s.data.toList.drop j) = G) ∧ wr = w1) (fun t _ => s.size - (intOf t).toNat)
          case atStart => exact ⟨i, Nat.le_refl _, by omega, rfl, HG2, rfl⟩
          case round =>
            clear HG2
            obtain ⟨j, hij, hj, rfl, HJ, rfl⟩ := hrel
            by_cases hjl : j < s.size
            · have hjI : (j : Int) < (s.size : Int) := by omega
              have hj0 : (0 : Int) ≤ (j : Int) := by omega
              have hbj := getD_get hjl
              have hdj := drop_byte hjl
              have hwj : IntKind.i64.wrap ((j : Int) + 1) = (j : Int) + 1 := by rw [IntKind.wrap_i64]; omega
              by_cases h10 : s.data.toList.getD j 0 = 10
              · have HG3 : Hid (gp false (s.data.toList.drop j) = G) := by show _ = _; rw [← HJ.out, hdj, h10]; rfl
                have hC : ((s.data.toList.getD j 0).toNat : Int) = 10 := by rw [h10]; rfl
                have hne : i ≠ j := by
                  rintro rfl
                  rw [hbj, hC] at hby; omega
                rw [hC] at hbj
                clear hdj h10 hC hby HJ HL
                go_wp2
                go_roundw
                case rel => exact ⟨j, by omega, rfl, HG3, by first | rfl | trivial⟩
                case measure => simp [intOf]; omega
              · have HG3 : Hid (gp true (s.data.toList.drop (j + 1)) = G) := by show _ = _; rw [← HJ.out, hdj, gp_on h10]
                have hne : ¬ ((s.data.toList.getD j 0).toNat : Int) = 10 := fun h => h10 (nat_eq (d := 10) h)
                clear hdj h10 hby HJ HL
                generalize ((s.data.toList.getD j 0).toNat : Int) = C at *
                have b10 : (C == 10) = false := by simpa using hne
                go_wp2
                go_roundw
                case rel => exact ⟨j + 1, by omega, by omega, by go_num, HG3, by first | rfl | trivial⟩
                case measure => simp [intOf]; omega
            · have hjI : ¬ (j : Int) < (s.size : Int) := by omega
              have HG3 : Hid (gp false (s.data.toList.drop j) = G) := by
                show _ = _
                rw [← HJ.out, drop_none (by omega)]; rfl
              clear hby HJ HL
              go_wp2
              go_roundw
              case rel => exact ⟨j, by omega, rfl, HG3, by first | rfl | trivial⟩
              case measure => simp [intOf]; omega
        · have hNi : i = N := by
            have h1 := HG.out
            rw [hd, gp_stay hc h92] at h1
            have h2 := HL.out
            rw [← h1, List.length_cons, List.length_drop, len_list] at h2
            omega
          have h92' : ¬ ((s.data.toList.getD i 0).toNat : Int) = 92 := fun h => h92 (nat_eq (d := 92) h)
          obtain rfl := hNi
          clear hd hc HG HL h92
          generalize ((s.data.toList.getD i 0).toNat : Int) = C at *
          have b92 : (C == 92) = false := by simpa using h92'
          go_wp2_with fail
          refine (HC _).mono ?_
          rintro e w1 ⟨rfl, rfl⟩
          go_wp2
          go_ret
          exact ⟨rfl, rfl⟩
    · have hil : ¬ (i : Int) < (s.size : Int) := by omega
      have hNi : i = N := by
        have h1 := HG.out
        rw [drop_none (by omega)] at h1
        have h2 := HL.out
        rw [← h1] at h2
        simp [gp] at h2
        omega
      obtain rfl := hNi
      clear HG HL
      go_wp2
      go_ret
      exact ⟨rfl, rfl⟩
end Go.Proofs.YtcpglhcdllegnaaGreatDoor

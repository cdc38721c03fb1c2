import Derived.Test.YtcpglhcdllegnaaGreatDoorLyNAll
import Derived.Test.YtcpglhcdllegnaaGreatDoorLxFAll
import Derived.Test.YtcpglhcdllegnaaGreatDoorLyAAll
import Derived.Test.YtcpglhcdllegnaaGreatDoorLyEAll
import Derived.Test.YtcpglhcdllegnaaGreatDoorLaid3
namespace Go.Proofs.YtcpglhcdllegnaaGreatDoor
open Go.RowKit Go.Shelf

/-- The byte within the line behind these bytes. -/
def cnF : List UInt8 → Int → Int
  | [], c => c
  | b :: l, c => cnF l (if b = 10 then 1 else c + 1)
theorem cnF_app (a b : List UInt8) (c : Int) : cnF (a ++ b) c = cnF b (cnF a c) := by
  induction a generalizing c with
  | nil => rfl
  | cons x a ih => exact ih _
theorem cnF_no (l : List UInt8) (c : Int) (h : (10 : UInt8) ∉ l) : cnF l c = c + (l.length : Nat) := by
  induction l generalizing c with
  | nil => simp [cnF]
  | cons b l ih =>
    rw [cnF, if_neg (fun e => h (by rw [e]; exact List.mem_cons_self ..)), ih _ (fun m => h (List.mem_cons_of_mem _ m)), List.length_cons]
    omega
theorem cnF_bd (l : List UInt8) (c : Int) (h : 0 < c) : 0 < cnF l c ∧ cnF l c ≤ c + (l.length : Nat) := by
  induction l generalizing c with
  | nil => simp [cnF]; omega
  | cons b l ih =>
    rw [cnF, List.length_cons]
    split
    · have := ih 1 (by omega); omega
    · have := ih (c + 1) (by omega); omega
theorem dat_getD (x : ByteArray) (i : Nat) (h : i < x.size) : x.data[i]! = x.data.toList.getD i 0 := by
  have h' : i < x.data.size := h
  rw [getElem!_pos x.data i h', List.getD_eq_getElem?_getD, Array.getElem?_toList, Array.getElem?_eq_getElem h', Option.getD_some]
theorem ovC_cn (x : ByteArray) (c : Int) : ovC x c = cnF x.data.toList c := by
  unfold ovC
  by_cases h : x.data.toList.count 10 = 0
  · rw [if_pos h, cnF_no _ _ (List.count_eq_zero.1 h), len_list]
  · rw [if_neg h]
    rcases Lib.lastIndexByte_spec x 10 with ⟨_, h2⟩ | ⟨i, h1, h2, h3, h4⟩
    · refine absurd (List.count_eq_zero.2 fun hm => ?_) h
      obtain ⟨j, hj, e⟩ := List.mem_iff_getElem.1 hm
      have hj' : j < x.size := by rw [← len_list]; exact hj
      refine h2 j hj' ?_
      rw [dat_getD x j hj', List.getD_eq_getElem?_getD, List.getElem?_eq_getElem hj, e]; rfl
    · have e1 : x.data.toList.getD i 0 = 10 := nat_eq (d := 10) (by rw [← dat_getD x i h1]; exact h3)
      have e2 : x.data.toList = x.data.toList.take i ++ 10 :: x.data.toList.drop (i + 1) := by
        rw [← e1, ← drop_byte h1, List.take_append_drop]
      have e3 : (10 : UInt8) ∉ x.data.toList.drop (i + 1) := fun hm => by
        obtain ⟨j, hj, e⟩ := List.mem_iff_getElem.1 hm
        rw [List.length_drop, len_list] at hj
        rw [List.getElem_drop] at e
        have hj' : i + 1 + j < x.size := by omega
        refine h4 (i + 1 + j) (by omega) hj' ?_
        rw [dat_getD x _ hj', List.getD_eq_getElem?_getD, List.getElem?_eq_getElem (by rw [len_list]; exact hj'), e]; rfl
      rw [h2, e2, cnF_app, cnF, if_pos rfl, cnF_no _ _ e3, List.length_drop, len_list]
      omega
theorem at_inj {l : List UInt8} {i j : Nat} (hij : i < j) (hj : j ≤ l.length) (h1 : (l.take i).count 10 = (l.take j).count 10) : ¬ cnF (l.take i) 1 = cnF (l.take j) 1 := by
  obtain ⟨k, rfl⟩ : ∃ k, j = i + k := ⟨j - i, by omega⟩
  rw [List.take_add] at h1 ⊢
  rw [List.count_append] at h1
  have hn : (10 : UInt8) ∉ (l.drop i).take k := List.count_eq_zero.1 (by omega)
  rw [cnF_app, cnF_no _ _ hn, List.length_take, List.length_drop]
  omega
set_option maxRecDepth 100000 in
set_option maxHeartbeats 4000000 in
/-- law5.at -/
theorem atQ (s : ByteArray) (p : Nat) (line col : Int) (w : World) (hp : p ≤ s.size) (hs : s.size ≤ 100000000) (hl : 1 + (((s.data.toList.take p).count 10 : Nat) : Int) = line) (hc : cnF (s.data.toList.take p) 1 = col) :
    Calls Tryz.prog 23 #[.string s, .int .i64 line, .int .i64 col] w fun e w' => e = .returned (.int .i64 (p : Nat)) ∧ w' = w := by
  have HL : Hid (1 + (((s.data.toList.take p).count 10 : Nat) : Int) = line ∧ cnF (s.data.toList.take p) 1 = col) := ⟨hl, hc⟩
  clear hl hc
  go_enter Tryz.func23, Tryz.ntmps23
  go_wp2
  go_loopw [7, 8, 9] (fun a b t wr => ∃ (i : Nat) (A B : Int), i ≤ p ∧ Hid (1 + (((s.data.toList.take i).count 10 : Nat) : Int) = A ∧ cnF (s.data.toList.take i) 1 = B) ∧ a = .int .i64 A ∧ b = .int .i64 B ∧ t = .int .i64 i ∧ wr = w) (fun _ _ t _ => s.size - (intOf t).toNat)
  case atStart => exact ⟨0, 1, 1, by omega, ⟨rfl, rfl⟩, rfl, rfl, rfl, rfl⟩
  case round =>
    obtain ⟨i, A, B, hi, HA, rfl, rfl, rfl, rfl⟩ := hrel
    have hil : (i : Int) ≤ (s.size : Int) := by omega
    by_cases he : i = p
    · subst he
      obtain rfl : A = line := HA.out.1.symm.trans HL.out.1
      obtain rfl : B = col := HA.out.2.symm.trans HL.out.2
      clear HA HL
      go_wp2
      go_ret
      exact ⟨rfl, rfl⟩
    · have hlt : i < s.size := by omega
      have hlI : (i : Int) < (s.size : Int) := by omega
      have hi0 : (0 : Int) ≤ (i : Int) := by omega
      have hw1 : IntKind.i64.wrap ((i : Int) + 1) = (i : Int) + 1 := by rw [IntKind.wrap_i64]; omega
      have hcb := cnF_bd (s.data.toList.take i) 1 (by omega)
      have hct := List.count_le_length (a := (10 : UInt8)) (l := s.data.toList.take i)
      have htl : (s.data.toList.take i).length = i := by rw [List.length_take, len_list]; omega
      rw [HA.out.2, htl] at hcb
      rw [htl] at hct
      have hAb : A ≤ i + 1 ∧ 1 ≤ A := by have := HA.out.1; omega
      have hwA : IntKind.i64.wrap (A + 1) = A + 1 := by rw [IntKind.wrap_i64]; omega
      have hwB : IntKind.i64.wrap (B + 1) = B + 1 := by rw [IntKind.wrap_i64]; omega
      have hby := getD_get hlt
      have htk := take_byte hlt
      have hno : A = line → ¬ B = col := fun e1 e2 => by
        refine at_inj (l := s.data.toList) (show i < p by omega) (by rw [len_list]; exact hp) ?_ ?_
        · have h1 := HA.out.1; have h2 := HL.out.1; omega
        · rw [HA.out.2, HL.out.2]; exact e2
      by_cases h10 : s.data.toList.getD i 0 = 10
      · have HA2 : Hid (1 + (((s.data.toList.take (i + 1)).count 10 : Nat) : Int) = A + 1 ∧ cnF (s.data.toList.take (i + 1)) 1 = 1) := by
          refine ⟨?_, ?_⟩
          · rw [htk, List.count_append, h10]
            have := HA.out.1
            simp; omega
          · rw [htk, cnF_app, h10]; rfl
        have hC : ((s.data.toList.getD i 0).toNat : Int) = 10 := by rw [h10]; rfl
        rw [hC] at hby
        by_cases e1 : A = line
        · have e2 := hno e1
          have b1 : (A == line) = true := by simpa using e1
          have b2 : (B == col) = false := by simpa using e2
          clear HA HL hcb hct hAb htk h10 hC hno e1
          go_wp2
          go_roundw
          case rel => exact ⟨i + 1, A + 1, 1, by omega, HA2, by first | rfl | go_num, by first | rfl | go_num, by go_num, by first | rfl | trivial⟩
          case measure => simp [intOf]; omega
        · have b1 : (A == line) = false := by simpa using e1
          clear HA HL hcb hct hAb htk h10 hC hno
          go_wp2
          go_roundw
          case rel => exact ⟨i + 1, A + 1, 1, by omega, HA2, by first | rfl | go_num, by first | rfl | go_num, by go_num, by first | rfl | trivial⟩
          case measure => simp [intOf]; omega
      · have HA2 : Hid (1 + (((s.data.toList.take (i + 1)).count 10 : Nat) : Int) = A ∧ cnF (s.data.toList.take (i + 1)) 1 = B + 1) := by
          refine ⟨?_, ?_⟩
          · rw [htk, List.count_append, List.count_eq_zero.2 (fun hm => h10 (List.mem_singleton.1 hm).symm)]
            exact HA.out.1
          · rw [htk, cnF_app, HA.out.2, cnF, if_neg h10]; rfl
        have hne : ¬ ((s.data.toList.getD i 0).toNat : Int) = 10 := fun h => h10 (nat_eq (d := 10) h)
        generalize ((s.data.toList.getD i 0).toNat : Int) = C at *
        have b10 : (C == 10) = false := by simpa using hne
        by_cases e1 : A = line
        · have e2 := hno e1
          have b1 : (A == line) = true := by simpa using e1
          have b2 : (B == col) = false := by simpa using e2
          clear HA HL hcb hct hAb htk h10 hno e1
          go_wp2
          go_roundw
          case rel => exact ⟨i + 1, A, B + 1, by omega, HA2, by first | rfl | go_num, by first | rfl | go_num, by go_num, by first | rfl | trivial⟩
          case measure => simp [intOf]; omega
        · have b1 : (A == line) = false := by simpa using e1
          clear HA HL hcb hct hAb htk h10 hno
          go_wp2
          go_roundw
          case rel => exact ⟨i + 1, A, B + 1, by omega, HA2, by first | rfl | go_num, by first | rfl | go_num, by go_num, by first | rfl | trivial⟩
          case measure => simp [intOf]; omega
theorem gp_true_short {l : List UInt8} (h : gp true l = l) : l = [] := by
  cases l with
  | nil => rfl
  | cons b r =>
    have h1 := congrArg List.length h
    by_cases hb : b = 10
    · subst hb
      rw [gp_off, gp_ten] at h1
      have := gp_len false r
      simp at h1; omega
    · rw [gp_on hb] at h1
      have := gp_len true r
      simp at h1; omega
theorem drop_eq {l : List UInt8} {i j : Nat} (hi : i ≤ l.length) (hj : j ≤ l.length) (h : l.drop i = l.drop j) : i = j := by
  have := congrArg List.length h
  rw [List.length_drop, List.length_drop] at this
  omega
set_option maxRecDepth 100000 in
set_option maxHeartbeats 8000000 in
/-- law5.gap over a whole gap -/
theorem gapT (s : ByteArray) (k m : Nat) (w : World) (hk : k ≤ m) (hm : m ≤ s.size) (hs : s.size ≤ 100000000) (hg : gp false (s.data.toList.drop k) = s.data.toList.drop m) :
    Calls Tryz.prog 24 #[.string s, .int .i64 (k : Nat), .int .i64 (m : Nat)] w fun e w' => e = .returned (.bool true) ∧ w' = w := by
  obtain ⟨G, hG⟩ : ∃ G, s.data.toList.drop m = G := ⟨_, rfl⟩
  have HD : Hid (s.data.toList.drop m = G) := hG
  have HG : Hid (gp false (s.data.toList.drop k) = G) := hg.trans hG
  clear hg hG
  go_enter Tryz.func24, Tryz.ntmps24
  go_wp2
  go_loopw [1] (fun t wr => ∃ i : Nat, i ≤ m ∧ t = .int .i64 i ∧ Hid (gp false (s.data.toList.drop i) = G) ∧ wr = w) (fun t _ => s.size - (intOf t).toNat)
  case atStart => exact ⟨k, hk, rfl, HG, rfl⟩
  case round =>
    clear HG hk
    obtain ⟨i, hi, rfl, HG, rfl⟩ := hrel
    by_cases hlm : i < m
    · have hmI : (i : Int) < (m : Int) := by omega
      have hlt : i < s.size := by omega
      have hil : (i : Int) < (s.size : Int) := by omega
      have hi0 : (0 : Int) ≤ (i : Int) := by omega
      have hby := getD_get hlt
      have hd := drop_byte hlt
      have hw1 : IntKind.i64.wrap ((i : Int) + 1) = (i : Int) + 1 := by rw [IntKind.wrap_i64]; omega
      by_cases hc : blB.contains (s.data.toList.getD i 0) = true
      · have HG2 : Hid (gp false (s.data.toList.drop (i + 1)) = G) := by show _ = _; rw [← HG.out, hd, gp_bl hc]
        have hbl := of_decide_eq_true ((bl_of (s.data.toList.getD i 0)).symm.trans hc)
        clear hd hc HG HD
        generalize ((s.data.toList.getD i 0).toNat : Int) = C at *
        have b92 : (C == 92) = false := by simp; omega
        rcases hbl with rfl | rfl | rfl | rfl
        all_goals
          go_wp2
          go_roundw
          case rel => exact ⟨i + 1, by omega, by go_num, HG2, by first | rfl | trivial⟩
          case measure => simp [intOf]; omega
      · by_cases h92 : s.data.toList.getD i 0 = 92
        · have HG2 : Hid (gp true (s.data.toList.drop i) = G) := by show _ = _; rw [← HG.out, hd, h92]; rfl
          have hC : ((s.data.toList.getD i 0).toNat : Int) = 92 := by rw [h92]; rfl
          clear hd hc HG h92
          rw [hC] at hby
          go_wp2
          go_loopw [1] (fun t wx => ∃ j : Nat, i ≤ j ∧ j ≤ m ∧ t = .int .i64 j ∧ Hid (gp true (s.data.toList.drop j) = G) ∧ wx = wr) (fun t _ => s.size - (intOf t).toNat)
          case atStart => exact ⟨i, Nat.le_refl _, by omega, rfl, HG2, rfl⟩
          case round =>
            clear HG2
            obtain ⟨j, hij, hj, rfl, HJ, rfl⟩ := hrel
            by_cases hjm : j < m
            · have hjI : (j : Int) < (m : Int) := by omega
              have hjl : j < s.size := by omega
              have hjL : (j : Int) < (s.size : Int) := by omega
              have hj0 : (0 : Int) ≤ (j : Int) := by omega
              have hbj := getD_get hjl
              have hdj := drop_byte hjl
              have hwj : IntKind.i64.wrap ((j : Int) + 1) = (j : Int) + 1 := by rw [IntKind.wrap_i64]; omega
              by_cases h10 : s.data.toList.getD j 0 = 10
              · have HG3 : Hid (gp false (s.data.toList.drop j) = G) := by show _ = _; rw [← HJ.out, hdj, h10]; rfl
                have hC : ((s.data.toList.getD j 0).toNat : Int) = 10 := by rw [h10]; rfl
                have hne : i ≠ j := by
                  rintro rfl
                  rw [hbj, hC] at hby; omega
                have hjne : ¬ (j : Int) = (m : Int) := by omega
                have hjB : ((j : Int) == (m : Int)) = false := by simpa using hjne
                rw [hC] at hbj
                clear hdj h10 hC hby HJ HD
                go_wp2
                go_roundw
                case rel => exact ⟨j, by omega, rfl, HG3, by first | rfl | trivial⟩
                case measure => simp [intOf]; omega
              · have HG3 : Hid (gp true (s.data.toList.drop (j + 1)) = G) := by show _ = _; rw [← HJ.out, hdj, gp_on h10]
                have hne : ¬ ((s.data.toList.getD j 0).toNat : Int) = 10 := fun h => h10 (nat_eq (d := 10) h)
                clear hdj h10 hby HJ HD
                generalize ((s.data.toList.getD j 0).toNat : Int) = C at *
                have b10 : (C == 10) = false := by simpa using hne
                go_wp2
                go_roundw
                case rel => exact ⟨j + 1, by omega, by omega, by go_num, HG3, by first | rfl | trivial⟩
                case measure => simp [intOf]; omega
            · obtain rfl : j = m := by omega
              have hend := gp_true_short (HJ.out.trans HD.out.symm)
              have hsz : j = s.size := by
                have := congrArg List.length hend
                rw [List.length_drop, len_list] at this
                simp at this; omega
              have HG3 : Hid (gp false (s.data.toList.drop j) = G) := by
                show _ = _
                rw [← HJ.out, hend]; rfl
              have hjI : ¬ (j : Int) < (j : Int) := by omega
              have hjB : ((j : Int) == (j : Int)) = true := by simp
              have hjS : ¬ (j : Int) < (s.size : Int) := by omega
              have hij2 : i < j := hlm
              clear hby HJ HD hend hsz
              go_wp2
              go_roundw
              case rel => exact ⟨j, by omega, rfl, HG3, by first | rfl | trivial⟩
              case measure => simp [intOf]; omega
        · exfalso
          have h1 := HG.out.trans HD.out.symm
          rw [hd, gp_stay hc h92, ← hd] at h1
          have := drop_eq (by rw [len_list]; omega) (by rw [len_list]; exact hm) h1
          omega
    · have hil : ¬ (i : Int) < (m : Int) := by omega
      clear HG HD
      go_wp2
      go_ret
      exact ⟨rfl, rfl⟩
set_option maxRecDepth 100000 in
set_option maxHeartbeats 8000000 in
/-- law5.gap over a byte that is in no gap -/
theorem gapF (s : ByteArray) (k : Nat) (w : World) (hk : k < s.size) (hc : ¬ blB.contains (s.data.toList.getD k 0) = true) (h92 : ¬ s.data.toList.getD k 0 = 92) :
    Calls Tryz.prog 24 #[.string s, .int .i64 (k : Nat), .int .i64 ((k + 1 : Nat) : Int)] w fun e w' => e = .returned (.bool false) ∧ w' = w := by
  have hbl : ¬ (((s.data.toList.getD k 0).toNat : Int) = 32 ∨ ((s.data.toList.getD k 0).toNat : Int) = 9 ∨ ((s.data.toList.getD k 0).toNat : Int) = 10 ∨ ((s.data.toList.getD k 0).toNat : Int) = 13) := fun h => hc ((bl_of _).trans (decide_eq_true h))
  have h92' : ¬ ((s.data.toList.getD k 0).toNat : Int) = 92 := fun h => h92 (nat_eq (d := 92) h)
  have hby := getD_get hk
  have hkI : (k : Int) < (k : Int) + 1 := by omega
  have hkL : (k : Int) < (s.size : Int) := by omega
  have hk0 : (0 : Int) ≤ (k : Int) := by omega
  have hcast : ((k + 1 : Nat) : Int) = (k : Int) + 1 := by omega
  rw [hcast]
  clear hcast
  generalize ((s.data.toList.getD k 0).toNat : Int) = C at *
  have c92 : (C == 92) = false := by simpa using h92'
  have c32 : (C == 32) = false := by simp; omega
  have c9 : (C == 9) = false := by simp; omega
  have c10 : (C == 10) = false := by simp; omega
  have c13 : (C == 13) = false := by simp; omega
  have d32 : ¬ C = 32 := by omega
  have d9 : ¬ C = 9 := by omega
  have d10 : ¬ C = 10 := by omega
  have d13 : ¬ C = 13 := by omega
  have n32 : (C != 32) = true := by simpa using d32
  have n9 : (C != 9) = true := by simpa using d9
  have n10 : (C != 10) = true := by simpa using d10
  have n13 : (C != 13) = true := by simpa using d13
  clear hbl hc h92
  go_enter Tryz.func24, Tryz.ntmps24
  go_wp2
  refine wp_loop_once ?_
  go_wp2
  go_ret
  exact ⟨rfl, rfl⟩
end Go.Proofs.YtcpglhcdllegnaaGreatDoor

namespace Go.Proofs.YtcpglhcdllegnaaGreatDoor
open Go.RowKit Go.Shelf
attribute [local go_sem] Oper.semAt_some

/-- law5.some's loop, so far. -/
def SmI (nb h : Nat) (ts : List Tok) (s : List (Array Value) × Nat) (W : World) : Prop :=
  ∃ v vs td ts2, Boxed W nb 3 (.int .i64 (-1)) ∧ Boxed W h 24 v ∧ W.ownsRow nb 50 8 v s.1.length vs ∧ vs = s.1.flatMap (fun x : Array Value => x.toList) ∧ (∀ k, v.ownBlock = some k → k < s.2 ∧ nb ≤ k) ∧ (v = .slice none 0 0 ↔ s.1 = []) ∧
    ts = td ++ ts2 ∧ td.length = s.1.length ∧ (∀ (i : Nat) x t, s.1[i]? = some x → td[i]? = some t → TkM W nb x t)
theorem SmI.own {nb h D : Nat} {ts : List Tok} (hn : nb < D) (hh : h < D) : OwnT D (SmI nb h ts) := by
  rintro s X Y ⟨v, vs, td, ts2, hb, hv, hr, h1, h2, h3, h4, h5, h7⟩ ht
  refine ⟨v, vs, td, ts2, ht.block nb _ hb (.inl hn), ht.block h _ hv (.inl hh), ⟨hr.1, ?_⟩, h1, h2, h3, h4, h5, fun i x t a b => (h7 i x t a b).ku (Ku.of_turns ht (fun c => by simp [isMineT, isPl, Obj.isCells]))⟩
  rcases hr.2 with hn | ⟨g, cap, cur, e1, e2, hgb, rest⟩
  · exact .inl hn
  · exact .inr ⟨g, cap, cur, e1, e2, ht.block g _ hgb (.inr (by simp [isMineT, isPl, Obj.isCells])), rest⟩
theorem sm_app {W w1 : World} {nb h t6 b n : Nat} {v v' u : Value} {vs us : List Value} {ds : Array Value} {o : Obj} (hn : Boxed W nb 3 u) (hv : Boxed W h 24 v) (hrow : W.ownsRow nb 50 8 v n vs) (hvb : ∀ k, v.ownBlock = some k → k < b ∧ nb ≤ k) (hT6 : Rw 50 W t6 ds) (hbt : b ≤ t6)
    (hown' : w1.ownsRow nb 50 8 v' (n + 1) us) (hgrow : (W.alloc o).grownBy w1 v.ownBlock) :
    ∃ g' cap', v' = .slice (some ⟨g', 0, none⟩) (n + 1) cap' ∧ Boxed w1 nb 3 u ∧ Boxed w1 h 24 v ∧ Rw 50 w1 t6 ds := by
  obtain ⟨g', cap', rfl⟩ := ownsRow_succ hown'
  have e0 := hn.lt
  have e1 := hv.lt
  have e3 := hT6.lt
  refine ⟨g', cap', rfl, ?_, ?_, ?_⟩
  · exact (hgrow.block nb (by rw [World.size_alloc]; omega) ((hn.alloc o).not_row (by decide) (hrow.alloc o))).trans (hn.alloc o)
  · exact (hgrow.block h (by rw [World.size_alloc]; omega) ((hv.alloc o).not_row (by decide) (hrow.alloc o))).trans (hv.alloc o)
  · exact (hgrow.block t6 (by rw [World.size_alloc]; omega) (fun e => by have := (hvb t6 e.symm).1; omega)).trans (hT6.alloc o)
theorem sm_step {w W w1 : World} {nb h b D : Nat} {pre : List (Array Value)} {v : Value} {vs : List Value} {g' cap' : Nat} {x : Array Value} {o : Obj} {ts td ts3 : List Tok} {tk : Tok} {A : Act}
    (hvs : vs = pre.flatMap (fun x : Array Value => x.toList)) (hrow : W.ownsRow nb 50 8 v pre.length vs) (hvb : ∀ k, v.ownBlock = some k → k < b ∧ nb ≤ k)
    (hown' : w1.ownsRow nb 50 8 (.slice (some ⟨g', 0, none⟩) (pre.length + 1) cap') (pre.length + 1) (vs ++ x.toList)) (hgrow : (W.alloc o).grownBy w1 v.ownBlock) (hn1 : Boxed w1 nb 3 (.int .i64 (-1))) (hv1 : Boxed w1 h 24 v)
    (hbel : Below w.heap.size w W) (hwh : w.heap.size ≤ nb) (hnh : nb < h) (hpD : h < D) (hDb : D + 2 ≤ b)
    (H : (∀ (i : Nat) y t, (pre ++ [x])[i]? = some y → (td ++ [tk])[i]? = some t → TkM W nb y t) ∧ ts = (td ++ [tk]) ++ ts3) (h5 : td.length = pre.length) :
    LeftT D (D + 2) b w.heap.size w (SmI nb h ts) (fun _ _ _ => False) (pre ++ [x]) W .normal A (w1.setCell ⟨h, 0, none⟩ (.slice (some ⟨g', 0, none⟩) (pre.length + 1) cap')) := by
  have O1 : Off h w1 (w1.setCell ⟨h, 0, none⟩ (.slice (some ⟨g', 0, none⟩) (pre.length + 1) cap')) := (Off.refl _ _).set 0 _
  have hn2 : some h ≠ (Value.slice (some ⟨g', 0, none⟩) (pre.length + 1) cap').ownBlock := hv1.not_row (by decide) hown'
  have hv2 := hv1.set (.slice (some ⟨g', 0, none⟩) (pre.length + 1) cap')
  have hN2 : Boxed (w1.setCell ⟨h, 0, none⟩ (.slice (some ⟨g', 0, none⟩) (pre.length + 1) cap')) nb 3 (.int .i64 (-1)) := (O1.block nb (by omega)).trans hn1
  have hown2 := own_kept hown' (W' := w1.setCell ⟨h, 0, none⟩ (.slice (some ⟨g', 0, none⟩) (pre.length + 1) cap')) (fun g hg => O1.block g (fun e => hn2 (by rw [← e]; exact hg.symm)))
  have hs1 := O1.size
  have hsg := hgrow.size
  rw [World.size_alloc] at hsg
  have cellsG : ∀ (j : Nat) (ob : Obj), v.ownBlock = some j → (W.alloc o).heap[j]? = some ob → isPl ob = false ∧ ob.isCells = true := fun j ob hj hob => by
    rcases (hrow.alloc o).2 with ⟨rfl, _⟩ | ⟨g, cap, cur, rfl, _, hgb, _⟩
    · simp [Value.ownBlock] at hj
    · obtain rfl : g = j := by simpa [Value.ownBlock] using hj
      rw [hgb] at hob; cases hob; exact ⟨by simp [isPl], rfl⟩
  have kG : KeptT (D + 2) b (W.alloc o) w1 := ⟨hgrow.size, fun k ob hk hob => (hgrow.block k (Array.getElem?_eq_some_iff.1 hob).1 (fun e => by
    rcases hk with hk | hk
    · have := (hvb k e.symm).1; omega
    · rw [(cellsG k ob e.symm hob).1] at hk; cases hk.2)).trans hob⟩
  have fG : KeepsFrom D (W.alloc o) w1 := ⟨hgrow.size, fun k ob _ hob hc => (hgrow.block k (Array.getElem?_eq_some_iff.1 hob).1 (fun e => by rw [(cellsG k ob e.symm hob).2] at hc; cases hc)).trans hob⟩
  have fB : ∀ {X Y : World}, Below X.heap.size X Y → KeepsFrom D X Y := fun hb => ⟨hb.size, fun k _ _ hk _ => (hb.block k (Array.getElem?_eq_some_iff.1 hk).1).trans hk⟩
  have hku : Ku W (w1.setCell ⟨h, 0, none⟩ (.slice (some ⟨g', 0, none⟩) (pre.length + 1) cap')) :=
    ((Ku.of_below (bel_d0 W o)).trans (Ku.of_grown (hrow.alloc o) (by decide) hgrow)).trans (Ku.of_off O1 (fun c k => by have := (show w1.heap[h]? = _ from hv1).symm.trans k; simp at this))
  refine ⟨?_, ?_, ?_, ?_⟩
  · exact ((fB (bel_d0 W o)).trans fG).trans ((KeepsOthers.setCell _ _ _).from D)
  · exact ((KeptT.of_below (bel_d0 W o)).trans kG).trans (KeptT.of_off O1 (.inl (by omega)) (by omega))
  · have q1 : Below w.heap.size w w1 := (hbel.alloc hbel.size o).grown hgrow (by rw [World.size_alloc]; have := hbel.size; omega) (fun k hk => by have := (hvb k hk).2; omega)
    exact q1.trans (O1.below (B := w.heap.size) (by omega))
  · refine ⟨_, _, td ++ [tk], ts3, hN2, hv2, by simpa using hown2, by rw [hvs]; simp, fun k hk => ?_, by simp, H.2, by simp [h5], fun i y t a b => (H.1 i y t a b).ku hku⟩
    have h1 := World.ownsRow.lt hown' k hk
    exact ⟨by show k < _; omega, h1.1⟩
set_option maxRecDepth 100000 in
set_option maxHeartbeats 400000 in
/-- law5.some with -1: all tokens up to the end or the fault -/
theorem someQ (s r0 R' : ByteArray) (g0 : Nat) (l0 c0 L' C' : Int) (ts : List Tok) (w : World) (hs : s.size ≤ 100000000)
    (b1 : gpN s.data.toList = g0) (b2 : s.extract g0 s.size = r0) (b3 : ovL (s.extract 0 g0) 1 = l0) (b4 : ovC (s.extract 0 g0) 1 = c0) (hC : Chn r0 l0 c0 ts R' L' C') (htl : ts.length ≤ 100000000) (hend : R'.size = 0 ∨ (0 < R'.size ∧ ∃ g ev, ReadNo R' g ∧ Errs w g ev)) (hT : Tabs w) :
    Calls Tryz.prog 18 #[.string s, .int .i64 (-1)] w fun e w' => (∃ v, e = .returned v ∧ (ts = [] → v = .slice none 0 0) ∧ (ts ≠ [] → ∃ g cap, v = .slice (some ⟨g, 0, none⟩) ts.length cap ∧ w.heap.size ≤ g ∧ ∀ i t, ts[i]? = some t → TkAt w' w.heap.size g i t)) ∧ Below w.heap.size w w' := by
  refine (callsIn_wide (n := 3)).1 ?_
  obtain ⟨i0, z0, hi, hz0, hz1, hz2, hz3⟩ := infoTk8
  have hseq := all_seq s r0 R' g0 l0 c0 L' C' ts w (w.heap.size + 2) hs b1 b2 b3 b4 hC hend hT
  clear b1 b2 b3 b4 hC hT hend
  refine callsIn_of_wp_marks Tryz.func18 rfl trivial ?_ rfl
  simp only [Tryz.ntmps18, List.size_toArray, List.length_cons, List.length_nil, Nat.reduceAdd, Nat.reduceSub, Array.replicate_succ, Array.replicate_zero, List.push_toArray, List.append_toArray, List.nil_append, List.cons_append]
  gi_wp2
  refine ⟨trivial, ?_⟩
  refine (all_in s _ _).mono ?_
  rintro e w' ⟨rfl, rfl⟩
  simp only [World.size_alloc, Nat.add_assoc, Nat.reduceAdd]
  gi_wp2
  have hbox : ∀ W, Below (((w.alloc (.cells #[.int .i64 (-1)] 3)).alloc (.cells #[.slice none 0 0] 24)).alloc (.cells #[.string s] 9)).heap.size (((w.alloc (.cells #[.int .i64 (-1)] 3)).alloc (.cells #[.slice none 0 0] 24)).alloc (.cells #[.string s] 9)) W → W.cell? ⟨w.heap.size + 2, 0, none⟩ = some (.string s) := fun W hW => by
    have h := Rw.new 9 ((w.alloc (.cells #[.int .i64 (-1)] 3)).alloc (.cells #[.slice none 0 0] 24)) #[.string s]
    simp only [World.size_alloc, Nat.add_assoc, Nat.reduceAdd] at h
    exact (h.below hW).cell 0
  have N2 : Boxed (((w.alloc (.cells #[.int .i64 (-1)] 3)).alloc (.cells #[.slice none 0 0] 24)).alloc (.cells #[.string s] 9)) w.heap.size 3 (.int .i64 (-1)) := ((Boxed.new w 3 (.int .i64 (-1))).alloc _).alloc _
  have B2 : Boxed (((w.alloc (.cells #[.int .i64 (-1)] 3)).alloc (.cells #[.slice none 0 0] 24)).alloc (.cells #[.string s] 9)) (w.heap.size + 1) 24 (.slice none 0 0) := by
    have h := (Boxed.new (w.alloc (.cells #[.int .i64 (-1)] 3)) 24 (.slice none 0 0)).alloc (.cells #[.string s] 9)
    rwa [World.size_alloc] at h
  have hb2 : Below w.heap.size w (((w.alloc (.cells #[.int .i64 (-1)] 3)).alloc (.cells #[.slice none 0 0] 24)).alloc (.cells #[.string s] 9)) := (((Below.refl _ _).alloc (Nat.le_refl _) _).alloc (by simp) _).alloc (by simp; omega) _
  have hs2 : (((w.alloc (.cells #[.int .i64 (-1)] 3)).alloc (.cells #[.slice none 0 0] 24)).alloc (.cells #[.string s] 9)).heap.size = w.heap.size + 3 := by simp
  generalize ((w.alloc (.cells #[.int .i64 (-1)] 3)).alloc (.cells #[.slice none 0 0] 24)).alloc (.cells #[.string s] 9) = W2 at *
  refine range_outT (gf := 37) (lb := #[.pointer (some ⟨w.heap.size + 2, 0, none⟩)]) rfl rfl rfl trivial (enters_of Tryz.func37 (by kernel_rfl) rfl) hseq (fun pre x B W W' t ⟨tk, h1, h2⟩ => ⟨tk, h1, h2.ku (Ku.of_turns t (fun c => by simp [isMineT, isPl, Obj.isCells]))⟩) hb2 hbox rfl
    (SmI w.heap.size (w.heap.size + 1) ts) (fun _ _ _ => False) ?own (fun _ _ _ _ h _ => h) ?start hb2.size
    (fun x t6 => { tmps := #[.string s, .int .i64 (-1), undef, .pointer (some ⟨w.heap.size, 0, none⟩), .slice none 0 0, .pointer (some ⟨w.heap.size + 1, 0, none⟩), .pointer (some ⟨t6, 0, none⟩), .string s, .func (.func 37) #[] #[.pointer (some ⟨w.heap.size + 2, 0, none⟩)], .agg x, undef, undef, undef, undef, undef, undef, undef, undef, undef], defers := [] }) ?assign ?body ?done ?stop
  case own => exact SmI.own (by omega) (by omega)
  case start => exact ⟨.slice none 0 0, [], [], ts, N2, B2, World.ownsRow_nil _ _ _ _, rfl, fun k hk => by simp [Value.ownBlock] at hk, by simp, rfl, rfl, fun i x t h => by simp at h⟩
  case assign =>
    rintro l m x W K ⟨pre, _, t, -, f, a1, n1, k1, a2, n2, k2, rfl, -⟩ hK
    unfold tkC at hK ⊢
    gi_wp2
    exact hK
  case stop =>
    rintro D c pre W _ _ h _
    exact h.elim
  case body =>
    rintro l m pre b x t6 W _ hlw hT6 hbt ⟨v, vs, td, ts2, hn, hv, hrow, hvs, hvb, hnil, h4, h5, h7⟩ hb2' hbW hbel ⟨t, hat, f, a1, n1, k1, a2, n2, k2, rfl, hnm⟩
    simp only at hrow hvs hvb hnil h5 h7
    have hts2 : ts2[0]? = some t := by
      rw [h4, List.getElem?_append_right (by omega), h5, Nat.sub_self] at hat; exact hat
    obtain ⟨ts3, rfl⟩ : ∃ ts3, ts2 = t :: ts3 := by
      cases ts2 with
      | nil => cases hts2
      | cons t2 ts3 => exact ⟨ts3, by simpa using hts2⟩
    have hpl : pre.length ≤ 100000000 := by rw [← h5]; have := congrArg List.length h4; simp at this; omega
    have HF : Hid ((∀ (i : Nat) y t', (pre ++ [tkC (t.k : Nat) t.x (.bool f) (.slice a1 n1 k1) (.slice a2 n2 k2) (t.wd : Nat) t.l t.c])[i]? = some y → (td ++ [t])[i]? = some t' → TkM W w.heap.size y t') ∧ ts = (td ++ [t]) ++ ts3) := by
      refine ⟨fun i y t' h1 h2 => ?_, by rw [h4]; simp⟩
      rcases Nat.lt_trichotomy i pre.length with hi' | hi' | hi'
      · rw [List.getElem?_append_left hi'] at h1
        rw [List.getElem?_append_left (by omega)] at h2
        exact h7 i y t' h1 h2
      · subst hi'
        rw [List.getElem?_append_right (Nat.le_refl _), Nat.sub_self] at h1
        rw [List.getElem?_append_right (by omega), h5, Nat.sub_self] at h2
        simp at h1 h2
        subst h1 h2
        exact ⟨f, a1, n1, k1, a2, n2, k2, rfl, hnm⟩
      · rw [List.getElem?_eq_none (by simp; omega)] at h1; cases h1
    clear hnm h4 h7 hat hts2 hseq hbox
    obtain ⟨k, x, wd, lc, cc, q⟩ := t
    simp only at hT6 HF ⊢
    unfold tkC at hT6 HF ⊢
    have hcn := hn.cell
    have hcv := hv.cell
    have y0 : W.cell? ⟨t6, 0, none⟩ = some (.int .i64 (k : Nat)) := hT6.cell 0
    have y1 : W.cell? ⟨t6, 1, none⟩ = some (.string x) := hT6.cell 1
    have y2 : W.cell? ⟨t6, 2, none⟩ = some (.bool f) := hT6.cell 2
    have y3 : W.cell? ⟨t6, 3, none⟩ = some (.slice a1 n1 k1) := hT6.cell 3
    have y4 : W.cell? ⟨t6, 4, none⟩ = some (.slice a2 n2 k2) := hT6.cell 4
    have y5 : W.cell? ⟨t6, 5, none⟩ = some (.int .i64 (wd : Nat)) := hT6.cell 5
    have y6 : W.cell? ⟨t6, 6, none⟩ = some (.int .i64 lc) := hT6.cell 6
    have y7 : W.cell? ⟨t6, 7, none⟩ = some (.int .i64 cc) := hT6.cell 7
    have hNC : ∀ (j : Nat) (u : Value), ([.int .i64 (k : Nat), .string x, .bool f, .slice a1 n1 k1, .slice a2 n2 k2, .int .i64 (wd : Nat), .int .i64 lc, .int .i64 cc] : List Value)[j]? = some u → (W.alloc (.cells #[.int .i64 (k : Nat), .string x, .bool f, .slice a1 n1 k1, .slice a2 n2 k2, .int .i64 (wd : Nat), .int .i64 lc, .int .i64 cc] 50)).cell? ((⟨W.heap.size, 0, none⟩ : Addr).add j) = some u := fun j u hj => by
      have h := (Rw.new 50 W #[.int .i64 (k : Nat), .string x, .bool f, .slice a1 n1 k1, .slice a2 n2 k2, .int .i64 (wd : Nat), .int .i64 lc, .int .i64 cc]).cell j
      rw [show (⟨W.heap.size, 0, none⟩ : Addr).add j = ⟨W.heap.size, j, none⟩ from by unfold Addr.add; split <;> simp_all, h]
      simpa using hj
    have hN1 : ∀ u ∈ ([.int .i64 (k : Nat), .string x, .bool f, .slice a1 n1 k1, .slice a2 n2 k2, .int .i64 (wd : Nat), .int .i64 lc, .int .i64 cc] : List Value), u.oneCell' = true := fun u hu => by
      simp only [List.mem_cons, List.not_mem_nil, or_false] at hu
      rcases hu with rfl | rfl | rfl | rfl | rfl | rfl | rfl | rfl <;> rfl
    have ht6w : t6 < W.heap.size := hT6.lt
    have hvw : w.heap.size + 1 < W.heap.size := hv.lt
    have hml : pre.length + 1 ≤ maxLen := by
      have : (200000000 : Nat) ≤ maxLen := by decide
      omega
    have hby : (pre.length + 1) * 104 ≤ 140737488355328 := by omega
    have hrow2 := hrow.alloc (.cells #[.int .i64 (k : Nat), .string x, .bool f, .slice a1 n1 k1, .slice a2 n2 k2, .int .i64 (wd : Nat), .int .i64 lc, .int .i64 cc] 50)
    have hbs : w.heap.size ≤ (W.alloc (.cells #[.int .i64 (k : Nat), .string x, .bool f, .slice a1 n1 k1, .slice a2 n2 k2, .int .i64 (wd : Nat), .int .i64 lc, .int .i64 cc] 50)).heap.size := by rw [World.size_alloc]; omega
    have hlen : ∃ a c, v = .slice a pre.length c := by
      rcases hrow.2 with ⟨rfl, e⟩ | ⟨g, cap, cur, rfl, _⟩
      · exact ⟨none, 0, by rw [e]⟩
      · exact ⟨_, _, rfl⟩
    obtain ⟨av, cv, rfl⟩ := hlen
    have hpn : ¬ (pre.length : Int) = -1 := by omega
    have hpB : ((pre.length : Int) == -1) = false := by simp
    gi_wp2_with (gi_at_builtin; refine wpListIn_append_own _ rfl _ _ 24 rfl w.heap.size 50 i0 z0 8 104 Tryz.underlying24 hi hz0 hz1 hz2 hz3 (by decide) (.slice av pre.length cv) pre.length vs rfl hrow2 ⟨W.heap.size, 0, none⟩ 1 1 [.int .i64 (k : Nat), .string x, .bool f, .slice a1 n1 k1, .slice a2 n2 k2, .int .i64 (wd : Nat), .int .i64 lc, .int .i64 cc] rfl rfl hNC hN1 hml hby hbs ?_; intro v' w1 hown' hgrow hnn; obtain ⟨g', cap', rfl, hn1, hv1, hT1'⟩ := sm_app hn hv hrow hvb hT6 hbt hown' hgrow; have hc1 := hv1.cell; have hf1 := hv1.frozen; have HS := (show Hid (∀ A, LeftT (w.heap.size + 3) (w.heap.size + 3 + 2) b w.heap.size w (SmI w.heap.size (w.heap.size + 1) ts) (fun _ _ _ => False) (pre ++ [_]) W .normal A (w1.setCell ⟨w.heap.size + 1, 0, none⟩ (.slice (some ⟨g', 0, none⟩) (pre.length + 1) cap'))) from fun A => sm_step hvs hrow hvb hown' hgrow hn1 hv1 hbel (Nat.le_refl _) (by omega) (by omega) (by omega) HF.out h5); clear hgrow hown' hv1 hn1 hT1')
    rw [← hs2] at HS
    exact HS.out _
  case done =>
    rintro D ys W hD hlen ⟨b, v, vs, td, ts2, hn, hv, hrow, hvs, hvb, hnil, h4, h5, h7⟩ hbel hK
    simp only at hlen hrow hvs hvb hnil h5 h7
    have hl2 : ts2 = [] := by
      have := congrArg List.length h4
      rw [List.length_append] at this
      exact List.eq_nil_of_length_eq_zero (by omega)
    subst hl2
    rw [List.append_nil] at h4
    have hc := hv.cell
    have hfin : Hid ((ts = [] → v = .slice none 0 0) ∧ (ts ≠ [] → ∃ g cap, v = .slice (some ⟨g, 0, none⟩) ts.length cap ∧ w.heap.size ≤ g ∧ ∀ (i : Nat) t, ts[i]? = some t → TkAt (W.putObj D (.deferred none)) w.heap.size g i t) ∧ Below w.heap.size w (W.putObj D (.deferred none))) := by
      refine ⟨fun he => hnil.2 (List.eq_nil_of_length_eq_zero (by rw [hlen, he]; rfl)), fun hne => ?_, hbel.trans (belowK_b (w := w) (Nat.le_refl _) W D _ _ (by have := hb2.size; omega) hK rfl rfl)⟩
      rcases hrow.2 with ⟨_, e2⟩ | ⟨g, cap, cur, e1, hg, hgb, hcap, hmx, hcs, htk⟩
      · exact absurd (List.eq_nil_of_length_eq_zero (by omega)) hne
      · refine ⟨g, cap, by rw [e1, hlen], hg, fun i t hi' => ?_⟩
        rw [e1] at hrow
        have hgD : g ≠ D := fun e => by rw [e, hK] at hgb; cases hgb
        have hil : i < ys.length := by rw [hlen]; exact (List.getElem?_eq_some_iff.1 hi').1
        have hall : ∀ (i : Nat) y, ys[i]? = some y → y.size = 8 := fun i y hy => by
          have hit : i < td.length := by rw [h5]; exact (List.getElem?_eq_some_iff.1 hy).1
          obtain ⟨f, a1, n1, k1, a2, n2, k2, rfl, -⟩ := h7 i y _ hy (List.getElem?_eq_getElem hit)
          rfl
        obtain ⟨f, a1, n1, k1, a2, n2, k2, hy, hnm⟩ := h7 i ys[i] t (List.getElem?_eq_getElem hil) (by rw [← h4]; exact hi')
        have at' : ∀ (j : Nat) (u : Value), j < 8 → (tkC (t.k : Nat) t.x (.bool f) (.slice a1 n1 k1) (.slice a2 n2 k2) (t.wd : Nat) t.l t.c)[j]? = some u → (W.putObj D (.deferred none)).cell? ⟨g, i * 8 + j, none⟩ = some u := fun j u hj hu => by
          have h8 := flat8 hall i j ys[i] (List.getElem?_eq_getElem hil) hj
          rw [← hvs, hy, hu] at h8
          have h9 := row_at hrow (i * 8 + j) u h8
          rw [← h9]
          exact World.cell?_of_block (World.putObj_heap_other hgD)
        exact ⟨at' 0 _ (by decide) rfl, at' 1 _ (by decide) rfl, at' 5 _ (by decide) rfl, at' 6 _ (by decide) rfl, at' 7 _ (by decide) rfl, f, a1, n1, k1, a2, n2, k2, at' 2 _ (by decide) rfl, at' 3 _ (by decide) rfl, at' 4 _ (by decide) rfl, hnm.ku (Ku.put _ hK rfl)⟩
    clear hrow hvs hvb hnil h4 h5 h7 hbel hlen hv hn hseq hbox
    gi_wp2
    refine ⟨by simp, .inl ⟨_, _, rfl, run_takeDeferred hK, ?_⟩⟩
    exact ⟨_, results_tmp rfl _ _ _, ⟨v, rfl, hfin.out.1, hfin.out.2.1⟩, hfin.out.2.2⟩
end Go.Proofs.YtcpglhcdllegnaaGreatDoor

namespace Go.Proofs.YtcpglhcdllegnaaGreatDoor
open Go.RowKit Go.Shelf

theorem eqL3 {w : World} {g g' : Nat} {a b : Addr} {x y : List UInt8} (ha : Err3 w g a x) (hb : Err3 w g' b y) (hne : x ≠ y) :
    (binOp .eql 26 (.iface 255 (.pointer (some a))) (.iface 255 (.pointer (some b)))).run Tryz.prog w = .ok (.bool false) w := by
  obtain ⟨i, hi, hcmp⟩ := Option.map_eq_some_iff.1 Tryz.errComp3
  obtain ⟨j, hj, hsz⟩ := Option.map_eq_some_iff.1 Tryz.errSize3
  obtain ⟨_, ⟨s, hs, es⟩, ca, ta, ka⟩ := ha
  obtain ⟨_, ⟨z, hz, ez⟩, cb, tb, kb⟩ := hb
  have hab : a ≠ b := by
    rintro rfl
    have := hs.symm.trans hz
    simp only [Option.some.injEq, Value.string.injEq] at this
    exact hne (by rw [← es, ← ez, this])
  simp only [binOp]
  simp [Op.equal, Op.maxDepth, run_equalIn_iface_ptr_other w 9998 Tryz.underlying26 Tryz.underlying255 hi hcmp hj (by omega) hab ka kb]
theorem samL3 (w : World) (a : Addr) : (binOp .eql 26 (.iface 255 (.pointer (some a))) (.iface 255 (.pointer (some a)))).run Tryz.prog w = .ok (.bool true) w := by
  obtain ⟨i, hi, hcmp⟩ := Option.map_eq_some_iff.1 Tryz.errComp3
  obtain ⟨j, hj, hsz⟩ := Option.map_eq_some_iff.1 Tryz.errSize3
  exact run_eql_iface_ptr_same (P := Tryz.prog) w a Tryz.underlying26 Tryz.underlying255 hi hcmp hj
/-- The four errors of texts. -/
structure E4 (w : World) (a b c d : Addr) (x y z v : List UInt8) : Prop where
  D : Err3 w 0 a x
  N : Err3 w 1 b y
  C : Err3 w 2 c z
  X : Err3 w 3 d v
  ne : y ≠ x ∧ z ≠ x ∧ v ≠ x ∧ z ≠ y ∧ v ≠ y ∧ v ≠ z
theorem E4.below {w w' : World} {a b c d : Addr} {x y z v : List UInt8} (h : E4 w a b c d x y z v) (hb : Below w.heap.size w w') : E4 w' a b c d x y z v := ⟨h.D.below hb, h.N.below hb, h.C.below hb, h.X.below hb, h.ne⟩
theorem E4.ers {w : World} {a b c d : Addr} {x y z v : List UInt8} (h : E4 w a b c d x y z v) : Ers w := ⟨⟨_, h.N.errs⟩, ⟨_, h.X.errs⟩, ⟨_, h.D.errs⟩, ⟨_, h.C.errs⟩⟩
theorem Err3.ev {w : World} {g : Nat} {a : Addr} {x : List UInt8} {ev : Value} (h : Err3 w g a x) (e : Errs w g ev) : ev = .iface 255 (.pointer (some a)) := Option.some.inj (e.1.symm.trans h.1)
theorem numD (w : World) {a b c d : Addr} {x y z v : List UInt8} (E : E4 w a b c d x y z v) : Calls Tryz.prog 14 #[.iface 255 (.pointer (some a))] w fun e w' => e = .returned (.int .i64 3) ∧ w' = w := by
  have n1 := samL3 w a
  obtain ⟨⟨ca, -⟩, ⟨cb, -⟩, ⟨cc, -⟩, ⟨cd, -⟩, -⟩ := E
  go_enter Tryz.func14, Tryz.ntmps14
  go_wp2
  go_ret
  exact ⟨rfl, rfl⟩
theorem numN (w : World) {a b c d : Addr} {x y z v : List UInt8} (E : E4 w a b c d x y z v) : Calls Tryz.prog 14 #[.iface 255 (.pointer (some b))] w fun e w' => e = .returned (.int .i64 5) ∧ w' = w := by
  have n1 := samL3 w b
  have n2 := eqL3 E.N E.D E.ne.1
  obtain ⟨⟨ca, -⟩, ⟨cb, -⟩, ⟨cc, -⟩, ⟨cd, -⟩, -⟩ := E
  go_enter Tryz.func14, Tryz.ntmps14
  go_wp2
  go_ret
  exact ⟨rfl, rfl⟩
theorem numC (w : World) {a b c d : Addr} {x y z v : List UInt8} (E : E4 w a b c d x y z v) : Calls Tryz.prog 14 #[.iface 255 (.pointer (some c))] w fun e w' => e = .returned (.int .i64 7) ∧ w' = w := by
  have n1 := samL3 w c
  have n2 := eqL3 E.C E.D E.ne.2.1
  have n3 := eqL3 E.C E.N E.ne.2.2.2.1
  obtain ⟨⟨ca, -⟩, ⟨cb, -⟩, ⟨cc, -⟩, ⟨cd, -⟩, -⟩ := E
  go_enter Tryz.func14, Tryz.ntmps14
  go_wp2
  go_ret
  exact ⟨rfl, rfl⟩
theorem numX (w : World) {a b c d : Addr} {x y z v : List UInt8} (E : E4 w a b c d x y z v) : Calls Tryz.prog 14 #[.iface 255 (.pointer (some d))] w fun e w' => e = .returned (.int .i64 8) ∧ w' = w := by
  have n1 := samL3 w d
  have n2 := eqL3 E.X E.D E.ne.2.2.1
  have n3 := eqL3 E.X E.N E.ne.2.2.2.2.1
  have n4 := eqL3 E.X E.C E.ne.2.2.2.2.2
  obtain ⟨⟨ca, -⟩, ⟨cb, -⟩, ⟨cc, -⟩, ⟨cd, -⟩, -⟩ := E
  go_enter Tryz.func14, Tryz.ntmps14
  go_wp2
  go_ret
  exact ⟨rfl, rfl⟩
/-- law5.number of whatever error a fault bears -/
theorem numberAt {EE : ByteArray → Int → Prop} (w : World) {a b c d : Addr} {x y z v : List UInt8} (E : E4 w a b c d x y z v) {R : ByteArray} {g : Nat} {code : Int} (h : Rn EE R g code) {ev : Value} (he : Errs w g ev) :
    0 < code ∧ Calls Tryz.prog 14 #[ev] w fun e w' => e = .returned (.int .i64 code) ∧ w' = w := by
  rcases h with ⟨_, _, _, ⟨rfl, rfl⟩ | ⟨rfl, rfl⟩ | ⟨rfl, rfl⟩⟩ | ⟨_, _, _, rfl, rfl⟩
  · rw [E.N.ev he]; exact ⟨by decide, numN w E⟩
  · rw [E.X.ev he]; exact ⟨by decide, numX w E⟩
  · rw [E.D.ev he]; exact ⟨by decide, numD w E⟩
  · rw [E.C.ev he]; exact ⟨by decide, numC w E⟩

-- where tokens stand
/-- The line and the byte in it at a place of a text. -/
def lnA (s : ByteArray) (p : Nat) : Int := 1 + (((s.data.toList.take p).count 10 : Nat) : Int)
def cnA (s : ByteArray) (p : Nat) : Int := cnF (s.data.toList.take p) 1
/-- These tokens stand from place p on, and then comes place p'. -/
def Plc (s : ByteArray) : List Tok → Nat → Nat → Prop
  | [], p, p' => p' = p
  | t :: ts, p, p' => t.l = lnA s p ∧ t.c = cnA s p ∧ 0 < t.x.size ∧ p + t.x.size ≤ s.size ∧ s.extract p (p + t.x.size) = t.x ∧ Plc s ts (p + t.x.size + gpN (s.data.toList.drop (p + t.x.size))) p'
theorem plc_of {D : ByteArray → Rat → Prop} {s : ByteArray} : ∀ {ts : List Tok} {r : ByteArray} {l c : Int} {R' : ByteArray} {L' C' : Int} {p : Nat}, Pch D r l c ts R' L' C' → r.data.toList = s.data.toList.drop p → p ≤ s.size → l = lnA s p → c = cnA s p →
    ∃ p', Plc s ts p p' ∧ p ≤ p' ∧ p' ≤ s.size ∧ R'.data.toList = s.data.toList.drop p' ∧ L' = lnA s p' ∧ C' = cnA s p'
  | [], r, l, c, R', L', C', p, h, hr, hp, hl, hc => by
    obtain ⟨rfl, rfl, rfl⟩ := h
    exact ⟨p, rfl, Nat.le_refl _, hp, hr, hl, hc⟩
  | t :: ts, r, l, c, R', L', C', p, h, hr, hp, hl, hc => by
    obtain ⟨h0, h1, h2, h3, ⟨n, hn, hx, _⟩, r1, r2, e1, e2, hP⟩ := h
    have hxs : t.x.size = n := by rw [← hx]; exact ext0 r n hn
    have hrs : r.size = s.size - p := by rw [← len_list, hr, List.length_drop, len_list]
    have hxl : t.x.data.toList = (s.data.toList.drop p).take n := by rw [← hx, ext_front, hr]
    have h1l : r1.data.toList = s.data.toList.drop (p + n) := by rw [← e1, hxs, ext_back, hr, List.drop_drop]
    obtain ⟨g, hg⟩ : ∃ g, gpN r1.data.toList = g := ⟨_, rfl⟩
    have hgl : g ≤ s.size - (p + n) := by
      have := gpN_le r1.data.toList
      rw [hg, h1l, List.length_drop, len_list] at this; exact this
    have h2l : r2.data.toList = s.data.toList.drop (p + n + g) := by rw [← e2, hg, ext_back, h1l, List.drop_drop]
    have hgb : (r1.extract 0 g).data.toList = (s.data.toList.drop (p + n)).take g := by rw [ext_front, h1l]
    have htk : s.data.toList.take (p + n + g) = s.data.toList.take p ++ t.x.data.toList ++ (r1.extract 0 g).data.toList := by
      rw [List.take_add, List.take_add, hxl, hgb]
    rw [hg] at hP
    obtain ⟨p', q1, q2, q3, q4, q5, q6⟩ := plc_of (p := p + n + g) hP h2l (by omega) (by
      unfold ovL lnA
      rw [htk, List.count_append, List.count_append, hl, lnA]
      omega) (by
      rw [ovC_cn, ovC_cn, hc, cnA, cnA, htk, cnF_app, cnF_app])
    refine ⟨p', ⟨h1.trans hl, h2.trans hc, h3, by omega, ?_, ?_⟩, by omega, q3, q4, q5, q6⟩
    · refine ba_eq ?_
      rw [ext_list, hxl, hxs, List.drop_take]
      congr 1
      omega
    · rw [hxs, ← h1l, hg]; exact q1
theorem Plc.split {s : ByteArray} {t : Tok} {ts : List Tok} {p p' : Nat} (h : Plc s (t :: ts) p p') : t.l = lnA s p ∧ t.c = cnA s p ∧ 0 < t.x.size ∧ p + t.x.size ≤ s.size ∧ s.extract p (p + t.x.size) = t.x ∧ Plc s ts (p + t.x.size + gpN (s.data.toList.drop (p + t.x.size))) p' := h
theorem stay_of {b : UInt8} {r : List UInt8} (h : gp false (b :: r) = b :: r) : ¬ blB.contains b = true ∧ ¬ b = 92 := by
  refine ⟨fun hb => ?_, fun hb => ?_⟩
  · rw [gp_bl hb] at h
    have := gp_len false r
    rw [h] at this; simp at this; omega
  · subst hb
    rw [gp_rem, gp_on (by decide)] at h
    have := gp_len true r
    rw [h] at this; simp at this; omega
end Go.Proofs.YtcpglhcdllegnaaGreatDoor

import Derived.Test.YtcpglhcdllegnabGreatDoorRefX0
import Derived.Test.YtcpglhcdllegnabGreatDoorWhAll
namespace Go.Proofs.YtcpglhcdllegnabGreatDoor
open Go.RowKit

set_option maxRecDepth 100000 in
set_option maxHeartbeats 2000000 in
/-- The document's digits. -/
theorem rdigitsV {a : Option Addr} {na ca : Nat} {x : Nat} {S : Nat} (w : World) (ha : Num w a na ca (x : Int) S) (hS : S ≤ 10000000) :
    Calls Tryz.prog 41 #[.slice a na ca] w fun e w' => ∃ v, e = .returned v ∧ OwnK 3 .i64 w' w.heap.size v (decs x) ∧ (decs x).length ≤ 20 * S ∧ Below w.heap.size w w' := by
  obtain ⟨i0, hi, hz0, hz1, hz2⟩ := info_parts Tryz.infoI64
  have hL : (decs x).length ≤ 20 * S := by
    obtain ⟨xs, h1, _, _, h4, h5, h6⟩ := ha
    have h7 := decs_val h4
    rw [h5, Int.toNat_natCast] at h7; omega
  obtain ⟨N, hN⟩ : ∃ N, (decs x).length = N := ⟨_, rfl⟩
  have HN : Hid ((decs x).length = N) := hN
  have hN1 : N ≤ 200000000 := by omega
  clear hN hL
  have HL : Hid ((decs x).length ≤ 20 * S) := by
    obtain ⟨xs, h1, _, _, h4, h5, h6⟩ := ha
    have h7 := decs_val h4
    rw [h5, Int.toNat_natCast] at h7
    show _ ≤ _; omega
  go_enter Tryz.func41, Tryz.ntmps41
  go_wp2_with fail
  refine (halvesV _ ha (by omega)).mono ?_
  rintro e w1 ⟨c1, n1, k1, rfl, H1, hb1⟩
  clear ha
  go_wp2
  go_loopw [3, 4] (fun h o wr => ∃ (hc : Option Addr) (hn hk y : Nat) (F : List Int), h = .slice hc hn hk ∧ HNum wr hc hn hk (y : Int) (2 * S) ∧ OwnK 3 .i64 wr w.heap.size o F ∧ Hid (decs x = F ++ decs y) ∧ Below w.heap.size w wr) (fun _ o _ => N - lenOf o)
  case atStart => exact ⟨c1, n1, k1, x, [], rfl, H1, OwnK.nil _ _ _ _, (show decs x = [] ++ decs x from rfl), hb1⟩
  case round =>
    clear H1 hb1
    obtain ⟨hc, hn, hk, y, F, rfl, H, hown, HD, hbel⟩ := hrel
    obtain ⟨y0, y1, y2⟩ := H.zero
    obtain ⟨oa, oc, rfl⟩ := hown.form
    by_cases hz : y = 0
    · obtain rfl : hn = 0 := y1.2 (by omega)
      subst hz
      have HF : Hid (decs x = F) := by show _ = _; rw [HD.out, decs_zero, List.append_nil]
      clear HD H y0 y1 y2
      go_wp2
      go_ret
      exact ⟨_, rfl, by rw [HF.out]; exact hown, HL.out, hbel⟩
    · have hn0 : (0 : Int) < (hn : Int) := by omega
      have hn1 : 0 < hn := by omega
      have HD2 : Hid (decs x = (F ++ [((y % 10 : Nat) : Int)]) ++ decs (y / 10)) := by show _ = _; rw [HD.out, decs_pos hz]; simp
      have hFl : F.length + 1 ≤ N := by
        have h := congrArg List.length HD2.out
        rw [HN.out] at h
        simp only [List.length_append, List.length_cons, List.length_nil] at h
        omega
      clear y0 y1 HD
      go_wp2_with fail
      refine (rpartW (d := 10) _ H (by decide) (by decide) (by omega)).mono ?_
      rintro e w2 ⟨n2, k2, rfl, H2, hb2⟩
      have hlt : ∀ k, (Value.slice oa F.length oc).ownBlock = some k → k < wr.heap.size := fun k hk => (hown.lt k hk).2
      replace hown := hown.below hb2
      replace hbel := bel_tr hbel hb2
      have hs2 := Below.size hbel
      rw [show (y : Int) / 10 = ((y / 10 : Nat) : Int) by omega] at H2
      obtain ⟨r, hr⟩ : ∃ r : Nat, y % 10 = r := ⟨_, rfl⟩
      have hr9 : r ≤ 9 := by omega
      have e1 : (y : Int) % 10 = (r : Int) := by omega
      rw [hr] at HD2
      rw [e1]
      have hwr : IntKind.i64.wrap (r : Int) = (r : Int) := by rw [IntKind.wrap_i64]; omega
      clear H hb2 hr e1
      have hrow : ∀ k, (Value.slice oa F.length oc).ownBlock = some k → w.heap.size ≤ k := fun k hk => (hown.lt k hk).1
      go_wp2_with (at_builtin; refine wpList_appendK 80 3 .i64 8 i0 Tryz.underlying80 hi hz0 hz1 hz2 (by decide) _ rfl _ _ rfl w.heap.size (.slice oa F.length oc) F F.length (show F.length = F.length from rfl) rfl (hown.alloc _) w2.heap.size _ (r : Int) rfl (cell_new1 rfl) (by omega) (by simp; omega) (w2.heap.size + 1) (by simp) ?_)
      intro g cap1 w3 hown3 hgrow _ _
      have hbel1 : Below w.heap.size w w3 := hbel.trans (((Below.refl _ _).alloc (by omega) _).trans (grown_below hgrow (by simp; omega) hrow))
      have H3 := H2.grown hgrow (fun e => absurd (hlt _ e) (Nat.lt_irrefl _))
      clear hgrow hown H2 hrow hbel hlt
      go_wp2
      go_roundw
      case rel => exact ⟨_, n2, k2, y / 10, F ++ [(r : Int)], rfl, H3, by simpa using hown3, HD2, hbel1⟩
      case measure => simp [lenOf]; omega
theorem rev_take (D : List Int) {j : Nat} (hj : j < D.length) : ((D.map (48 + ·)).reverse).take (D.length - j) = ((D.map (48 + ·)).reverse).take (D.length - (j + 1)) ++ [48 + D.getD j 0] := by
  rw [show D.length - j = (D.length - (j + 1)) + 1 by omega, List.take_succ_eq_append_getElem (by simp; omega)]
  congr 2
  rw [List.getElem_reverse, List.getElem_map]
  simp only [List.getD, List.getElem?_eq_getElem hj, Option.getD_some, List.length_map]
  congr 2
  omega
set_option maxRecDepth 100000 in
set_option maxHeartbeats 2000000 in
/-- The document's text of a natural number. -/
theorem rtextV {a : Option Addr} {na ca : Nat} {x : Nat} {S : Nat} (w : World) (ha : Num w a na ca (x : Int) S) (hS : S ≤ 10000000) :
    Calls Tryz.prog 16 #[.slice a na ca] w fun e w' => e = .returned (.string (txt x)) ∧ Below w.heap.size w w' := by
  obtain ⟨i0, hi, hz0, hz1, hz2⟩ := info_parts Tryz.infoU8
  go_enter Tryz.func16, Tryz.ntmps16
  go_wp2_with fail
  refine (rdigitsV _ ha hS).mono ?_
  rintro e w1 ⟨v, rfl, hD, hL, hb⟩
  clear ha
  rcases hD.row with ⟨rfl, hd0⟩ | ⟨g, cap, rfl, hcap, hBg, hgl, hcl⟩
  · have hx0 := decs_nil hd0
    subst hx0
    clear hD hL hd0
    go_wp2
    go_ret
    exact ⟨rfl, hb⟩
  · by_cases hn0 : (decs x).length = 0
    · have hx0 := decs_nil (List.eq_nil_of_length_eq_zero hn0)
      subst hx0
      rw [hn0]
      clear hD hL hcl hcap
      go_wp2
      go_ret
      exact ⟨rfl, hb⟩
    · have hx0 : x ≠ 0 := fun h => hn0 (by rw [h, decs_zero]; rfl)
      have HT : Hid (txt x = strOfNums ((decs x).map (48 + ·)).reverse) := by show _ = _; unfold txt; rw [if_neg hx0]
      have hbd := decs_bd x
      obtain ⟨D, hDe⟩ : ∃ D, decs x = D := ⟨_, rfl⟩
      rw [hDe] at HT hbd hcl hL hcap hn0 ⊢
      obtain ⟨L, hLe⟩ : ∃ L, D.length = L := ⟨_, rfl⟩
      have HLe : Hid (D.length = L) := hLe
      have HBD : Hid (∀ d ∈ D, 0 ≤ d ∧ d ≤ 9) := hbd
      have HCL : Hid (∀ i, i < D.length → w1.cell? ⟨g, i, none⟩ = some (.int .i64 (D.getD i 0))) := hcl
      rw [hLe] at hL hcap hn0 ⊢
      have hnI : ((L : Int) == 0) = false := by simp; omega
      have hL1 : L ≤ 200000000 := by omega
      clear hD hDe hLe hbd hcl hx0
      go_wp2
      go_loopw [4, 5] (fun b i wr => ∃ (k : Nat) (F : List Int), k ≤ L ∧ i = .int .i64 ((k : Int) - 1) ∧ OwnK 5 .u8 wr w1.heap.size b F ∧ Hid (F = ((D.map (48 + ·)).reverse).take (L - k)) ∧ Below w1.heap.size w1 wr) (fun _ i _ => (intOf i + 1).toNat)
      case atStart => exact ⟨L, [], Nat.le_refl _, rfl, OwnK.nil _ _ _ _, (show [] = List.take _ _ by rw [Nat.sub_self]; rfl), Below.refl _ _⟩
      case round =>
        clear hnI
        obtain ⟨k, F, hk, rfl, hown, HF, hbel⟩ := hrel
        have HFL : Hid (F.length = L - k) := by show _ = _; rw [HF.out, List.length_take, List.length_reverse, List.length_map, HLe.out]; omega
        by_cases hk0 : k = 0
        · subst hk0
          rcases hown.row with ⟨_, hF0⟩ | ⟨g2, cap2, rfl, hc2, hB2, hl2, hcl2⟩
          · exfalso
            have := HFL.out
            rw [hF0] at this
            simp at this
            first | omega | exact hn0 this | exact hn0 this.symm
          · have hcv := run_convert_bytes_arg (P := Tryz.prog) wr 82 5 Tryz.underlying82 Tryz.underlying5 g2 0 F.length cap2 F rfl (fun i hi => by
              rw [Nat.zero_add, hcl2 i hi]) 9 Tryz.underlying9
            have HE : Hid (strOfNums F = txt x) := by
              show _ = _
              rw [HT.out, HF.out, Nat.sub_zero, List.take_of_length_le (by simp [HLe.out])]
            have hw := bel_tr hb hbel
            clear hcl2 hown HF HCL HBD hbel hb HFL
            go_wp2
            go_ret
            exact ⟨by rw [← HE.out]; rfl, hw⟩
        · obtain ⟨j, rfl⟩ : ∃ j, k = j + 1 := ⟨k - 1, by omega⟩
          have hjD : j < D.length := by rw [HLe.out]; omega
          have hcx := kept_c hbel (HCL.out j hjD)
          have hd := HBD.out (D.getD j 0) (by simp only [List.getD, List.getElem?_eq_getElem hjD, Option.getD_some]; exact List.getElem_mem hjD)
          have HF2 : Hid (F ++ [48 + D.getD j 0] = ((D.map (48 + ·)).reverse).take (L - j)) := by
            show _ = _
            rw [HF.out, ← HLe.out, rev_take D hjD]
          obtain ⟨d, hde⟩ : ∃ d, D.getD j 0 = d := ⟨_, rfl⟩
          rw [hde] at hcx hd HF2
          have hjn : (j : Int) < (L : Int) := by omega
          have hw1 : IntKind.i64.wrap (48 + d) = 48 + d := by rw [IntKind.wrap_i64]; omega
          have hw2 : IntKind.u8.wrap (48 + d) = 48 + d := by rw [IntKind.wrap_u8]; omega
          obtain ⟨oa, oc, rfl⟩ := hown.form
          have hs2 := Below.size hbel
          have hrow : ∀ q, (Value.slice oa F.length oc).ownBlock = some q → w1.heap.size ≤ q := fun q hq => (hown.lt q hq).1
          have hFl : F.length ≤ 200000000 := by rw [HFL.out]; omega
          clear hde HF
          go_wp2_with (at_builtin; refine wpList_appendK 82 5 .u8 1 i0 Tryz.underlying82 hi hz0 hz1 hz2 (by decide) _ rfl _ _ rfl w1.heap.size (.slice oa F.length oc) F F.length (show F.length = F.length from rfl) rfl (hown.alloc _) wr.heap.size _ (48 + d) rfl (cell_new1 rfl) (by omega) (by simp; omega) (wr.heap.size + 1) (by simp) ?_)
          intro g3 cap3 w3 hown3 hgrow _ _
          have hbel1 : Below w1.heap.size w1 w3 := hbel.trans (((Below.refl _ _).alloc (by omega) _).trans (grown_below hgrow (by simp; omega) hrow))
          clear hgrow hown hrow hbel hcx HFL
          go_wp2
          go_roundw
          case rel => exact ⟨j, F ++ [48 + d], by omega, by go_num, by simpa using hown3, HF2, hbel1⟩
          case measure => simp [intOf]
end Go.Proofs.YtcpglhcdllegnabGreatDoor

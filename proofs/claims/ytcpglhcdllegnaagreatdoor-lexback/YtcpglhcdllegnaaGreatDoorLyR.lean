import Derived.Test.YtcpglhcdllegnaaGreatDoorLyNAll
import Derived.Test.YtcpglhcdllegnaaGreatDoorLyEAll
namespace Go.Proofs.YtcpglhcdllegnaaGreatDoor
open Go.RowKit Go.Shelf

theorem LegalP.head {a : List UInt8} (h : LegalP a) : begL a = false ∧ nmB.contains (a.getD 0 0) = true ∧ a ≠ [] := by
  refine ⟨h.bg, ?_, h.ne⟩
  cases a with
  | nil => exact absurd rfl h.ne
  | cons b r => exact all_head h.nm b r rfl
theorem three_names {D : ByteArray → Rat → Prop} {E : ByteArray → Int → Prop} {a b T r0 R' : ByteArray} {l c L' C' : Int} {ts : List Tok} (ha : LegalP a.data.toList) (hb : LegalP b.data.toList) (hT : T.data.toList = a.data.toList ++ (32 :: (b.data.toList ++ (92 :: 120 :: 10 :: a.data.toList))))
    (hr0 : r0.data.toList = gp false T.data.toList) (hP : Pch D r0 l c ts R' L' C') (hend : R'.size = 0 ∨ (∃ g code, Rn E R' g code)) : R'.size = 0 ∧ ∃ t1 t2 t3, ts = [t1, t2, t3] ∧ (t1.k = 1 ∧ t2.k = 1 ∧ t3.k = 1) ∧ t1.x = a ∧ t2.x = b ∧ t3.x = a := by
  have f1 := abc_app (d := 32 :: (b.data.toList ++ (92 :: 120 :: 10 :: a.data.toList))) ha.head
  rw [← hT] at f1
  rw [gp_head f1.2.1] at hr0
  have n1 := legal_app (d := 32 :: (b.data.toList ++ (92 :: 120 :: 10 :: a.data.toList))) ha (fun x r e => by cases e; decide)
  rw [← hT] at n1
  obtain ⟨t1, ts1, r1, l1, c1, rfl, k1, _, x1, q1, P1⟩ := pch_name hP hend hr0 f1.2.2 f1.1 f1.2.1 n1
  rw [hT, List.take_left] at x1
  rw [hT, List.drop_left, gp_bl (by decide)] at q1
  have f2 := abc_app (d := 92 :: 120 :: 10 :: a.data.toList) hb.head
  rw [gp_head f2.2.1] at q1
  have n2 := legal_app (d := 92 :: 120 :: 10 :: a.data.toList) hb (fun x r e => by cases e; decide)
  obtain ⟨t2, ts2, r2, l2, c2, rfl, k2, _, x2, q2, P2⟩ := pch_name P1 hend q1 f2.2.2 f2.1 f2.2.1 n2
  rw [List.take_left] at x2
  rw [List.drop_left, gp_rem, gp_on (by decide), gp_on (by decide), gp_off, gp_ten, gp_head ha.head.2.1] at q2
  have n3 := legal_app (d := []) ha (fun x r e => by cases e)
  rw [List.append_nil] at n3
  obtain ⟨t3, ts3, r3, l3, c3, rfl, k3, _, x3, q3, P3⟩ := pch_name P2 hend q2 ha.head.2.2 ha.head.1 ha.head.2.1 n3
  rw [List.take_length] at x3
  rw [List.drop_length] at q3
  obtain ⟨rfl, e⟩ := pch_end P3 q3
  exact ⟨e, t1, t2, t3, rfl, ⟨k1, k2, k3⟩, ba_eq x1, ba_eq x2, ba_eq x3⟩
theorem word_ts {D : ByteArray → Rat → Prop} {E : ByteArray → Int → Prop} {a r0 R' : ByteArray} {l c L' C' : Int} {ts : List Tok} (h : ¬ wordL a.data.toList = 0) (hr0 : r0.data.toList = gp false a.data.toList) (hP : Pch D r0 l c ts R' L' C') (hend : R'.size = 0 ∨ (∃ g code, Rn E R' g code)) : R'.size = 0 ∧ ∃ t, ts = [t] ∧ t.k = 9 ∧ t.wd = wordL a.data.toList ∧ t.x = a := by
  have f := word_head h
  rw [gp_head f.2.1] at hr0
  obtain ⟨t, ts2, r2, l2, c2, rfl, k1, k0, k2, k3, k4⟩ := pch_name hP hend hr0 f.2.2 f.1 f.2.1 (word_alone h)
  rw [List.drop_length] at k3
  obtain ⟨rfl, k5⟩ := pch_end k4 k3
  exact ⟨k5, t, rfl, k1, k0, ba_eq (by rw [k2, List.take_length])⟩
theorem colon_ts {D : ByteArray → Rat → Prop} {E : ByteArray → Int → Prop} {a T r0 R' : ByteArray} {l c L' C' : Int} {ts : List Tok} (h : ¬ wordL a.data.toList = 0) (hT : T.data.toList = a.data.toList ++ [32, 58]) (hr0 : r0.data.toList = gp false T.data.toList) (hP : Pch D r0 l c ts R' L' C') (hend : R'.size = 0 ∨ (∃ g code, Rn E R' g code)) :
    R'.size = 0 ∧ ((∃ t1 t2, ts = [t1, t2] ∧ t1.k = 1 ∧ t2.k = 5) ∨ (∃ t1 t2 t3, ts = [t1, t2, t3] ∧ t1.k = 1 ∧ t2.k = 1 ∧ t3.k = 5)) := by
  have f := abc_app (d := [32, 58]) (word_head h)
  rw [← hT] at f
  rw [gp_head f.2.1] at hr0
  rcases word_cases h with h1 | ⟨n, d, e, h1, _⟩
  · have n1 := name_colon h1
    rw [← hT] at n1
    obtain ⟨t1, ts1, r1, l1, c1, rfl, k1, _, x1, q1, P1⟩ := pch_name hP hend hr0 f.2.2 f.1 f.2.1 n1
    rw [hT, List.drop_left, gp_bl (by decide), show gp false [58] = [58] from gp_stay (by decide) (by decide)] at q1
    obtain ⟨t2, rfl, k2, k3⟩ := pch_colon P1 hend q1
    exact ⟨k3, .inl ⟨t1, t2, rfl, k1, k2⟩⟩
  · have n1 := pair_colon h1
    rw [← List.append_assoc, ← e, ← hT] at n1
    obtain ⟨t1, ts1, r1, l1, c1, rfl, k1, _, x1, q1, P1⟩ := pch_name hP hend hr0 f.2.2 f.1 f.2.1 n1
    obtain ⟨g1, g2, g3⟩ := second_colon h1
    rw [hT, e, List.append_assoc, List.drop_left, g1] at q1
    have f2 := abc_app (d := [32, 58]) ⟨g2, g3, h1.second⟩
    obtain ⟨t2, ts2, r2, l2, c2, rfl, k2, _, x2, q2, P2⟩ := pch_name P1 hend q1 f2.2.2 f2.1 f2.2.1 (name_colon h1.prE.1)
    rw [List.drop_left, gp_bl (by decide), show gp false [58] = [58] from gp_stay (by decide) (by decide)] at q2
    obtain ⟨t3, rfl, k3, k4⟩ := pch_colon P2 hend q2
    exact ⟨k4, .inr ⟨t1, t2, t3, rfl, k1, k2, k3⟩⟩
/-- law5.long -/
theorem longQ2 (a b : ByteArray) (w : World) : Calls Tryz.prog 10 #[.string a, .string b] w fun e w' => e = .returned (.bool (decide (262144 ≤ a.size ∨ 262144 ≤ b.size))) ∧ w' = w := by
  by_cases h : 262144 ≤ a.size
  · have hI : (262144 : Int) ≤ (a.size : Int) := by omega
    rw [decide_eq_true (.inl h)]
    go_enter Tryz.func10, Tryz.ntmps10
    go_wp2
    go_ret
    exact ⟨rfl, rfl⟩
  · have hI : ¬ (262144 : Int) ≤ (a.size : Int) := by omega
    by_cases h2 : 262144 ≤ b.size
    · have hJ : (262144 : Int) ≤ (b.size : Int) := by omega
      rw [decide_eq_true (.inr h2)]
      go_enter Tryz.func10, Tryz.ntmps10
      go_wp2
      go_ret
      exact ⟨rfl, rfl⟩
    · have hJ : ¬ (262144 : Int) ≤ (b.size : Int) := by omega
      rw [decide_eq_false (fun k => k.elim h h2)]
      go_enter Tryz.func10, Tryz.ntmps10
      go_wp2
      go_ret
      exact ⟨rfl, rfl⟩
set_option maxRecDepth 100000 in
set_option maxHeartbeats 8000000 in
theorem names_b (a b : ByteArray) (w : World) (ha : a.size < 262144) (hbs : b.size < 262144) (HA : Calls Tryz.prog 9 #[] w fun e w' => e = .returned (.bool true) ∧ Below w.heap.size w w') (hT : Tabs w) (hE : Ers w) (hX : oneL a.data.toList = true) (hK : kinL a.data.toList = false) (hG : legalL a.data.toList = true) (hM : wordL a.data.toList = 0) (hB : legalL b.data.toList = false) :
    Calls Tryz.prog 8 #[.string a, .string b] w fun e w' => e = .returned (.bool true) ∧ Below w.heap.size w w' := by
  have HX := fun u (h1 : Tabs u) (h2 : Ers u) => aloneQ a u (by omega) h1 h2
  have HK := fun u (h1 : Wds u) => kinQ a u (by omega) h1
  have HG := fun u (h1 : Wds u) => LegalQ a u (by omega) h1
  have HL := fun u => longQ2 a b u
  rw [decide_eq_false (by omega)] at HL
  rw [hX] at HX
  rw [hK] at HK
  rw [hG] at HG
  have HM := fun u (h1 : Wds u) => WordQ a u (by omega) h1
  rw [hM] at HM
  have HB := fun u (h1 : Wds u) => LegalQ b u (by omega) h1
  rw [hB] at HB
  clear hX hK hG hM hB
  go_enter Tryz.func8, Tryz.ntmps8
  go_wp2_with fail
  refine HA.mono ?_
  rintro e W ⟨rfl, hb⟩
  replace hT := hT.below hb
  replace hE := hE.below hb
  clear HA
  go_wp2_with fail
  refine (HL _).mono ?_
  rintro e W ⟨rfl, rfl⟩
  clear HL
  go_wp2_with fail
  refine (HX _ hT hE).mono ?_
  rintro e W ⟨rfl, hq⟩
  replace hT := hT.below hq
  replace hE := hE.below hq
  replace hb := bel_tr hb hq
  clear hq
  clear HX
  go_wp2_with fail
  refine (HK _ hT.W).mono ?_
  rintro e W ⟨rfl, hq⟩
  replace hT := hT.below hq
  replace hE := hE.below hq
  replace hb := bel_tr hb hq
  clear hq
  clear HK
  go_wp2_with fail
  refine (HG _ hT.W).mono ?_
  rintro e W ⟨rfl, hq⟩
  replace hT := hT.below hq
  replace hE := hE.below hq
  replace hb := bel_tr hb hq
  clear hq
  clear HG
  go_wp2_with fail
  refine (HB _ hT.W).mono ?_
  rintro e W ⟨rfl, hq⟩
  replace hT := hT.below hq
  replace hE := hE.below hq
  replace hb := bel_tr hb hq
  clear hq
  clear HB
  go_wp2_with fail
  refine (HM _ hT.W).mono ?_
  rintro e W ⟨rfl, hq⟩
  replace hT := hT.below hq
  replace hE := hE.below hq
  replace hb := bel_tr hb hq
  clear hq
  clear HM
  go_wp2
  go_ret
  exact ⟨rfl, hb⟩
set_option maxRecDepth 100000 in
set_option maxHeartbeats 8000000 in
theorem names_ab (a b : ByteArray) (w : World) (ha : a.size < 262144) (hbs : b.size < 262144) (HA : Calls Tryz.prog 9 #[] w fun e w' => e = .returned (.bool true) ∧ Below w.heap.size w w') (hT : Tabs w) (hE : Ers w) (hX : oneL a.data.toList = true) (hK : kinL a.data.toList = false) (hG : legalL a.data.toList = true) (hM : wordL a.data.toList = 0) (hB : legalL b.data.toList = true) :
    Calls Tryz.prog 8 #[.string a, .string b] w fun e w' => e = .returned (.bool true) ∧ Below w.heap.size w w' := by
  have HX := fun u (h1 : Tabs u) (h2 : Ers u) => aloneQ a u (by omega) h1 h2
  have HK := fun u (h1 : Wds u) => kinQ a u (by omega) h1
  have HG := fun u (h1 : Wds u) => LegalQ a u (by omega) h1
  have HL := fun u => longQ2 a b u
  rw [decide_eq_false (by omega)] at HL
  rw [hX] at HX
  rw [hK] at HK
  rw [hG] at HG
  have HM := fun u (h1 : Wds u) => WordQ a u (by omega) h1
  rw [hM] at HM
  have HB := fun u (h1 : Wds u) => LegalQ b u (by omega) h1
  rw [hB] at HB
  obtain ⟨T, hTe⟩ : ∃ T, a ++ (⟨#[32]⟩ : ByteArray) ++ b ++ (⟨#[92, 120, 10]⟩ : ByteArray) ++ a = T := ⟨_, rfl⟩
  have hTl : T.data.toList = a.data.toList ++ (32 :: (b.data.toList ++ (92 :: 120 :: 10 :: a.data.toList))) := by
    rw [← hTe, app_list, app_list, app_list, app_list]
    simp
  have hTs : T.size ≤ 1048576 := by
    rw [← len_list, hTl]
    simp
    omega
  obtain ⟨r0, ts, R', L', C', q1, q2, q3, q4⟩ := scan_all half T hTs
  have hts := three_names ((legal_iff _).1 hG) ((legal_iff _).1 hB) hTl q1 q2 (q4.imp (·.1) (fun ⟨_, g, code, h, _⟩ => ⟨g, code, h⟩))
  obtain ⟨z0, t1, t2, t3, rfl, ⟨k1, k2, k3⟩, x1, x2, x3⟩ := hts
  have HS : ScanOk T [t1, t2, t3] := q4.elim (·.2) (fun h => by omega)
  clear q1 q2 q3 q4 hTl hTs z0
  clear hX hK hG hM hB
  go_enter Tryz.func8, Tryz.ntmps8
  go_wp2_with fail
  refine HA.mono ?_
  rintro e W ⟨rfl, hb⟩
  replace hT := hT.below hb
  replace hE := hE.below hb
  clear HA
  go_wp2_with fail
  refine (HL _).mono ?_
  rintro e W ⟨rfl, rfl⟩
  clear HL
  go_wp2_with fail
  refine (HX _ hT hE).mono ?_
  rintro e W ⟨rfl, hq⟩
  replace hT := hT.below hq
  replace hE := hE.below hq
  replace hb := bel_tr hb hq
  clear hq
  clear HX
  go_wp2_with fail
  refine (HK _ hT.W).mono ?_
  rintro e W ⟨rfl, hq⟩
  replace hT := hT.below hq
  replace hE := hE.below hq
  replace hb := bel_tr hb hq
  clear hq
  clear HK
  go_wp2_with fail
  refine (HG _ hT.W).mono ?_
  rintro e W ⟨rfl, hq⟩
  replace hT := hT.below hq
  replace hE := hE.below hq
  replace hb := bel_tr hb hq
  clear hq
  clear HG
  go_wp2_with fail
  refine (HB _ hT.W).mono ?_
  rintro e W ⟨rfl, hq⟩
  replace hT := hT.below hq
  replace hE := hE.below hq
  replace hb := bel_tr hb hq
  clear hq
  clear HB
  go_wp2_with fail
  refine (HS _ hT).mono ?_
  rintro e W ⟨⟨v, rfl, -, hv⟩, hq⟩
  obtain ⟨g, cap, rfl, -, ht⟩ := hv (List.cons_ne_nil _ _)
  have c0 : W.cell? ⟨g, 0, none⟩ = some (.int .i64 ((1 : Nat) : Int)) := by have := (ht 0 _ rfl).1; rw [k1] at this; exact this
  have d0 : W.cell? ⟨g, 1, none⟩ = some (.string a) := by have := (ht 0 _ rfl).2.1; rw [x1] at this; exact this
  have c1 : W.cell? ⟨g, 8, none⟩ = some (.int .i64 ((1 : Nat) : Int)) := by have := (ht 1 _ rfl).1; rw [k2] at this; exact this
  have d1 : W.cell? ⟨g, 9, none⟩ = some (.string b) := by have := (ht 1 _ rfl).2.1; rw [x2] at this; exact this
  have c2 : W.cell? ⟨g, 16, none⟩ = some (.int .i64 ((1 : Nat) : Int)) := by have := (ht 2 _ rfl).1; rw [k3] at this; exact this
  have d2 : W.cell? ⟨g, 17, none⟩ = some (.string a) := by have := (ht 2 _ rfl).2.1; rw [x3] at this; exact this
  replace hT := hT.below hq
  replace hb := bel_tr hb hq
  clear hv ht HS hq k1 k2 k3 x1 x2 x3
  go_wp2_with fail
  refine (HM _ hT.W).mono ?_
  rintro e W ⟨rfl, hq⟩
  replace hb := bel_tr hb hq
  clear hq HM
  go_wp2
  go_ret
  exact ⟨rfl, hb⟩
set_option maxRecDepth 100000 in
set_option maxHeartbeats 8000000 in
theorem names_k (a b : ByteArray) (w : World) (ha : a.size < 262144) (hbs : b.size < 262144) (HA : Calls Tryz.prog 9 #[] w fun e w' => e = .returned (.bool true) ∧ Below w.heap.size w w') (hT : Tabs w) (hE : Ers w) (hX : oneL a.data.toList = true) (hK : kinL a.data.toList = true) (hG : legalL a.data.toList = false) (hM : wordL a.data.toList = 0) :
    Calls Tryz.prog 8 #[.string a, .string b] w fun e w' => e = .returned (.bool true) ∧ Below w.heap.size w w' := by
  have HX := fun u (h1 : Tabs u) (h2 : Ers u) => aloneQ a u (by omega) h1 h2
  have HK := fun u (h1 : Wds u) => kinQ a u (by omega) h1
  have HG := fun u (h1 : Wds u) => LegalQ a u (by omega) h1
  have HL := fun u => longQ2 a b u
  rw [decide_eq_false (by omega)] at HL
  rw [hX] at HX
  rw [hK] at HK
  rw [hG] at HG
  have HM := fun u (h1 : Wds u) => WordQ a u (by omega) h1
  rw [hM] at HM
  clear hX hK hG hM
  go_enter Tryz.func8, Tryz.ntmps8
  go_wp2_with fail
  refine HA.mono ?_
  rintro e W ⟨rfl, hb⟩
  replace hT := hT.below hb
  replace hE := hE.below hb
  clear HA
  go_wp2_with fail
  refine (HL _).mono ?_
  rintro e W ⟨rfl, rfl⟩
  clear HL
  go_wp2_with fail
  refine (HX _ hT hE).mono ?_
  rintro e W ⟨rfl, hq⟩
  replace hT := hT.below hq
  replace hE := hE.below hq
  replace hb := bel_tr hb hq
  clear hq
  clear HX
  go_wp2_with fail
  refine (HK _ hT.W).mono ?_
  rintro e W ⟨rfl, hq⟩
  replace hT := hT.below hq
  replace hE := hE.below hq
  replace hb := bel_tr hb hq
  clear hq
  clear HK
  go_wp2_with fail
  refine (HG _ hT.W).mono ?_
  rintro e W ⟨rfl, hq⟩
  replace hT := hT.below hq
  replace hE := hE.below hq
  replace hb := bel_tr hb hq
  clear hq
  clear HG
  go_wp2_with fail
  refine (HM _ hT.W).mono ?_
  rintro e W ⟨rfl, hq⟩
  replace hT := hT.below hq
  replace hE := hE.below hq
  replace hb := bel_tr hb hq
  clear hq
  clear HM
  go_wp2
  go_ret
  exact ⟨rfl, hb⟩
set_option maxRecDepth 100000 in
set_option maxHeartbeats 8000000 in
theorem names_n (a b : ByteArray) (w : World) (ha : a.size < 262144) (hbs : b.size < 262144) (HA : Calls Tryz.prog 9 #[] w fun e w' => e = .returned (.bool true) ∧ Below w.heap.size w w') (hT : Tabs w) (hE : Ers w) (hX : oneL a.data.toList = false) (hG : legalL a.data.toList = false) (hM : wordL a.data.toList = 0) :
    Calls Tryz.prog 8 #[.string a, .string b] w fun e w' => e = .returned (.bool true) ∧ Below w.heap.size w w' := by
  have HX := fun u (h1 : Tabs u) (h2 : Ers u) => aloneQ a u (by omega) h1 h2
  have HK := fun u (h1 : Wds u) => kinQ a u (by omega) h1
  have HG := fun u (h1 : Wds u) => LegalQ a u (by omega) h1
  have HL := fun u => longQ2 a b u
  rw [decide_eq_false (by omega)] at HL
  rw [hX] at HX
  generalize kinL a.data.toList = K at HK
  rw [hG] at HG
  have HM := fun u (h1 : Wds u) => WordQ a u (by omega) h1
  rw [hM] at HM
  clear hX hG hM
  go_enter Tryz.func8, Tryz.ntmps8
  go_wp2_with fail
  refine HA.mono ?_
  rintro e W ⟨rfl, hb⟩
  replace hT := hT.below hb
  replace hE := hE.below hb
  clear HA
  go_wp2_with fail
  refine (HL _).mono ?_
  rintro e W ⟨rfl, rfl⟩
  clear HL
  go_wp2_with fail
  refine (HX _ hT hE).mono ?_
  rintro e W ⟨rfl, hq⟩
  replace hT := hT.below hq
  replace hE := hE.below hq
  replace hb := bel_tr hb hq
  clear hq
  clear HX
  go_wp2_with fail
  refine (HK _ hT.W).mono ?_
  rintro e W ⟨rfl, hq⟩
  replace hT := hT.below hq
  replace hE := hE.below hq
  replace hb := bel_tr hb hq
  clear hq
  clear HK
  go_wp2_with fail
  refine (HG _ hT.W).mono ?_
  rintro e W ⟨rfl, hq⟩
  replace hT := hT.below hq
  replace hE := hE.below hq
  replace hb := bel_tr hb hq
  clear hq
  clear HG
  go_wp2_with fail
  refine (HM _ hT.W).mono ?_
  rintro e W ⟨rfl, hq⟩
  replace hT := hT.below hq
  replace hE := hE.below hq
  replace hb := bel_tr hb hq
  clear hq
  clear HM
  go_wp2
  go_ret
  exact ⟨rfl, hb⟩
set_option maxRecDepth 100000 in
set_option maxHeartbeats 8000000 in
theorem names_w (a b : ByteArray) (w : World) (ha : a.size < 262144) (hbs : b.size < 262144) (HA : Calls Tryz.prog 9 #[] w fun e w' => e = .returned (.bool true) ∧ Below w.heap.size w w') (hT : Tabs w) (hE : Ers w) (hX : oneL a.data.toList = false) (hG : legalL a.data.toList = false) (hM : ¬ wordL a.data.toList = 0) :
    Calls Tryz.prog 8 #[.string a, .string b] w fun e w' => e = .returned (.bool true) ∧ Below w.heap.size w w' := by
  have HX := fun u (h1 : Tabs u) (h2 : Ers u) => aloneQ a u (by omega) h1 h2
  have HK := fun u (h1 : Wds u) => kinQ a u (by omega) h1
  have HG := fun u (h1 : Wds u) => LegalQ a u (by omega) h1
  have HL := fun u => longQ2 a b u
  rw [decide_eq_false (by omega)] at HL
  rw [hX] at HX
  generalize kinL a.data.toList = K at HK
  rw [hG] at HG
  have HM := fun u (h1 : Wds u) => WordQ a u (by omega) h1
  obtain ⟨r0, ts, R', L', C', q1, q2, q3, q4⟩ := scan_all half a (by omega)
  have hts := word_ts hM q1 q2 (q4.imp (·.1) (fun ⟨_, g, code, h, _⟩ => ⟨g, code, h⟩))
  obtain ⟨z0, t0, rfl, k0, w0, x0⟩ := hts
  have HS : ScanOk a [t0] := q4.elim (·.2) (fun h => by omega)
  clear q1 q2 q3 q4 z0
  obtain ⟨T, hTe⟩ : ∃ T, a ++ (⟨#[32, 58]⟩ : ByteArray) = T := ⟨_, rfl⟩
  have hTl : T.data.toList = a.data.toList ++ [32, 58] := by rw [← hTe, app_list]
  have hTs : T.size ≤ 1048576 := by
    rw [← len_list, hTl]
    simp
    omega
  obtain ⟨r0, ts, R', L', C', q1, q2, q3, q4⟩ := scan_all half T hTs
  have hts := colon_ts hM hTl q1 q2 (q4.imp (·.1) (fun ⟨_, g, code, h, _⟩ => ⟨g, code, h⟩))
  obtain ⟨z0, hts⟩ := hts
  have HS2 : ScanOk T ts := q4.elim (·.2) (fun h => by omega)
  clear q1 q2 q3 q4 hTl hTs z0
  obtain ⟨M, hMe⟩ : ∃ M, wordL a.data.toList = M := ⟨_, rfl⟩
  rw [hMe] at HM hM w0
  have hMI : ¬ (M : Int) = 0 := by omega
  have hMB : ((M : Int) == 0) = false := by simpa using hMI
  clear hMe hM
  clear hX hG
  rcases hts with ⟨t1, t2, rfl, k1, k2⟩ | ⟨t1, t2, t3, rfl, k1, k2, k3⟩
  · go_enter Tryz.func8, Tryz.ntmps8
    go_wp2_with fail
    refine HA.mono ?_
    rintro e W ⟨rfl, hb⟩
    replace hT := hT.below hb
    replace hE := hE.below hb
    clear HA
    go_wp2_with fail
    refine (HL _).mono ?_
    rintro e W ⟨rfl, rfl⟩
    clear HL
    go_wp2_with fail
    refine (HX _ hT hE).mono ?_
    rintro e W ⟨rfl, hq⟩
    replace hT := hT.below hq
    replace hE := hE.below hq
    replace hb := bel_tr hb hq
    clear hq
    clear HX
    go_wp2_with fail
    refine (HK _ hT.W).mono ?_
    rintro e W ⟨rfl, hq⟩
    replace hT := hT.below hq
    replace hE := hE.below hq
    replace hb := bel_tr hb hq
    clear hq
    clear HK
    go_wp2_with fail
    refine (HG _ hT.W).mono ?_
    rintro e W ⟨rfl, hq⟩
    replace hT := hT.below hq
    replace hE := hE.below hq
    replace hb := bel_tr hb hq
    clear hq
    clear HG
    go_wp2_with fail
    refine (HM _ hT.W).mono ?_
    rintro e W ⟨rfl, hq⟩
    replace hT := hT.below hq
    replace hE := hE.below hq
    replace hb := bel_tr hb hq
    clear hq
    clear HM
    go_wp2_with fail
    refine (HS _ hT).mono ?_
    rintro e W ⟨⟨v, rfl, -, hv⟩, hq⟩
    obtain ⟨g, cap, rfl, -, ht⟩ := hv (List.cons_ne_nil _ _)
    have c0 : W.cell? ⟨g, 0, none⟩ = some (.int .i64 ((9 : Nat) : Int)) := by have := (ht 0 _ rfl).1; rw [k0] at this; exact this
    have c1 : W.cell? ⟨g, 1, none⟩ = some (.string a) := by have := (ht 0 _ rfl).2.1; rw [x0] at this; exact this
    have c5 : W.cell? ⟨g, 5, none⟩ = some (.int .i64 (M : Nat)) := by have := (ht 0 _ rfl).2.2.1; rw [w0] at this; exact this
    replace hT := hT.below hq
    replace hb := bel_tr hb hq
    clear hv ht HS hq k0 x0 w0
    go_wp2_with fail
    refine (HS2 _ hT).mono ?_
    rintro e W ⟨⟨v, rfl, -, hv⟩, hq⟩
    obtain ⟨g', cap', rfl, -, ht⟩ := hv (List.cons_ne_nil _ _)
    have m0 : W.cell? ⟨g', 0, none⟩ = some (.int .i64 ((1 : Nat) : Int)) := by have := (ht 0 _ rfl).1; rw [k1] at this; exact this
    have m1 : W.cell? ⟨g', 8, none⟩ = some (.int .i64 ((5 : Nat) : Int)) := by have := (ht 1 _ rfl).1; rw [k2] at this; exact this
    replace hb := bel_tr hb hq
    clear hv ht HS2 hq
    go_wp2
    go_ret
    exact ⟨rfl, hb⟩
  · go_enter Tryz.func8, Tryz.ntmps8
    go_wp2_with fail
    refine HA.mono ?_
    rintro e W ⟨rfl, hb⟩
    replace hT := hT.below hb
    replace hE := hE.below hb
    clear HA
    go_wp2_with fail
    refine (HL _).mono ?_
    rintro e W ⟨rfl, rfl⟩
    clear HL
    go_wp2_with fail
    refine (HX _ hT hE).mono ?_
    rintro e W ⟨rfl, hq⟩
    replace hT := hT.below hq
    replace hE := hE.below hq
    replace hb := bel_tr hb hq
    clear hq
    clear HX
    go_wp2_with fail
    refine (HK _ hT.W).mono ?_
    rintro e W ⟨rfl, hq⟩
    replace hT := hT.below hq
    replace hE := hE.below hq
    replace hb := bel_tr hb hq
    clear hq
    clear HK
    go_wp2_with fail
    refine (HG _ hT.W).mono ?_
    rintro e W ⟨rfl, hq⟩
    replace hT := hT.below hq
    replace hE := hE.below hq
    replace hb := bel_tr hb hq
    clear hq
    clear HG
    go_wp2_with fail
    refine (HM _ hT.W).mono ?_
    rintro e W ⟨rfl, hq⟩
    replace hT := hT.below hq
    replace hE := hE.below hq
    replace hb := bel_tr hb hq
    clear hq
    clear HM
    go_wp2_with fail
    refine (HS _ hT).mono ?_
    rintro e W ⟨⟨v, rfl, -, hv⟩, hq⟩
    obtain ⟨g, cap, rfl, -, ht⟩ := hv (List.cons_ne_nil _ _)
    have c0 : W.cell? ⟨g, 0, none⟩ = some (.int .i64 ((9 : Nat) : Int)) := by have := (ht 0 _ rfl).1; rw [k0] at this; exact this
    have c1 : W.cell? ⟨g, 1, none⟩ = some (.string a) := by have := (ht 0 _ rfl).2.1; rw [x0] at this; exact this
    have c5 : W.cell? ⟨g, 5, none⟩ = some (.int .i64 (M : Nat)) := by have := (ht 0 _ rfl).2.2.1; rw [w0] at this; exact this
    replace hT := hT.below hq
    replace hb := bel_tr hb hq
    clear hv ht HS hq k0 x0 w0
    go_wp2_with fail
    refine (HS2 _ hT).mono ?_
    rintro e W ⟨⟨v, rfl, -, hv⟩, hq⟩
    obtain ⟨g', cap', rfl, -, ht⟩ := hv (List.cons_ne_nil _ _)
    have m0 : W.cell? ⟨g', 0, none⟩ = some (.int .i64 ((1 : Nat) : Int)) := by have := (ht 0 _ rfl).1; rw [k1] at this; exact this
    have m1 : W.cell? ⟨g', 8, none⟩ = some (.int .i64 ((1 : Nat) : Int)) := by have := (ht 1 _ rfl).1; rw [k2] at this; exact this
    have m2 : W.cell? ⟨g', 16, none⟩ = some (.int .i64 ((5 : Nat) : Int)) := by have := (ht 2 _ rfl).1; rw [k3] at this; exact this
    replace hb := bel_tr hb hq
    clear hv ht HS2 hq
    go_wp2
    go_ret
    exact ⟨rfl, hb⟩
set_option maxRecDepth 100000 in
set_option maxHeartbeats 8000000 in
/-- law5.LexNames -/
theorem names_walk (a b : ByteArray) (w : World) (hT : Tabs w) (hE : Ers w) {ev : Value} (E : Errs w 0 ev) (hg : w.cell? ⟨4, 0, none⟩ = some (.iface 120 (.agg #[.pointer (some ⟨16, 26, none⟩)]))) :
    Calls Tryz.prog 8 #[.string a, .string b] w fun e w' => e = .returned (.bool true) ∧ Below w.heap.size w w' := by
  have HA := awake5 w hT E hg
  clear E hg
  by_cases h : 262144 ≤ a.size ∨ 262144 ≤ b.size
  · have HL := fun u => longQ2 a b u
    rw [decide_eq_true h] at HL
    go_enter Tryz.func8, Tryz.ntmps8
    go_wp2_with fail
    refine HA.mono ?_
    rintro e w1 ⟨rfl, hb⟩
    go_wp2_with fail
    refine (HL _).mono ?_
    rintro e w2 ⟨rfl, rfl⟩
    go_wp2
    go_ret
    exact ⟨rfl, hb⟩
  · have hO := legal_one a.data.toList
    cases hX : oneL a.data.toList with
    | false =>
      rw [hX, Bool.false_and] at hO
      by_cases hM : wordL a.data.toList = 0
      · exact names_n a b w (by omega) (by omega) HA hT hE hX hO hM
      · exact names_w a b w (by omega) (by omega) HA hT hE hX hO hM
    | true =>
      have hM := (nmN_one (one_parts hX).2.2.2).2.2
      rw [hX, Bool.true_and] at hO
      cases hK : kinL a.data.toList with
      | true =>
        rw [hK] at hO
        exact names_k a b w (by omega) (by omega) HA hT hE hX hK hO hM
      | false =>
        rw [hK] at hO
        cases hB : legalL b.data.toList with
        | true => exact names_ab a b w (by omega) (by omega) HA hT hE hX hK hO hM hB
        | false => exact names_b a b w (by omega) (by omega) HA hT hE hX hK hO hM hB
end Go.Proofs.YtcpglhcdllegnaaGreatDoor

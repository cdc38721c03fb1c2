import Derived.Test.YtcpglhcdllegnaaGreatDoorLySAll
import Derived.Test.YtcpglhcdllegnaaGreatDoorLyR
namespace Go.Proofs.YtcpglhcdllegnaaGreatDoor
open Go.RowKit Go.Shelf

/-- A list of tokens as a value. -/
def TkL (W : World) (B : Nat) (v : Value) (ts : List Tok) : Prop := ∃ av cv, v = .slice av ts.length cv ∧ ∀ (i : Nat) t, ts[i]? = some t → ∃ g, av = some ⟨g, 0, none⟩ ∧ TkAt W B g i t
theorem TkL.of {W : World} {B b : Nat} {v : Value} {ts : List Tok} (h1 : ts = [] → v = .slice none 0 0) (h2 : ts ≠ [] → ∃ g cap, v = .slice (some ⟨g, 0, none⟩) ts.length cap ∧ b ≤ g ∧ ∀ i t, ts[i]? = some t → TkAt W B g i t) : TkL W B v ts := by
  cases ts with
  | nil => exact ⟨none, 0, h1 rfl, fun i t h => by cases h⟩
  | cons t ts =>
    obtain ⟨g, cap, e, _, h⟩ := h2 (List.cons_ne_nil _ _)
    exact ⟨_, cap, e, fun i t hi => ⟨g, rfl, h i t hi⟩⟩
theorem plc_end {s : ByteArray} : ∀ (ts : List Tok) {p p' : Nat}, Plc s ts p p' → (∃ e, p = e + gpN (s.data.toList.drop e)) → ∃ e, p' = e + gpN (s.data.toList.drop e)
  | [], _, _, h, he => by obtain rfl := h; exact he
  | _ :: ts, _, _, h, _ => plc_end ts h.split.2.2.2.2.2 ⟨_, rfl⟩
/-- law5.some answers these tokens, up to the fault. -/
def SomeNo (s : ByteArray) (g : Nat) (ts : List Tok) : Prop := ∀ w ev, Errs w g ev → Tabs w → Calls Tryz.prog 18 #[.string s, .int .i64 (-1)] w fun e w' => (∃ v, e = .returned v ∧ (ts = [] → v = .slice none 0 0) ∧ (ts ≠ [] → ∃ g cap, v = .slice (some ⟨g, 0, none⟩) ts.length cap ∧ w.heap.size ≤ g ∧ ∀ i t, ts[i]? = some t → TkAt w' w.heap.size g i t)) ∧ Below w.heap.size w w'
theorem scan_all2 {D : ByteArray → Rat → Prop} {E : ByteArray → Int → Prop} (hD : PD D E) (s : ByteArray) (hs : s.size ≤ 1048576) : ∃ r0 ts R' L' C', r0.data.toList = gp false s.data.toList ∧ Pch D r0 (ovL (s.extract 0 (gpN s.data.toList)) 1) (ovC (s.extract 0 (gpN s.data.toList)) 1) ts R' L' C' ∧ ts.length ≤ s.size ∧
    ((R'.size = 0 ∧ ScanOk s ts) ∨ (0 < R'.size ∧ ∃ g code, Rn E R' g code ∧ ScanNo s g L' C' ∧ SomeNo s g ts)) := by
  obtain ⟨g, hg⟩ : ∃ g, gpN s.data.toList = g := ⟨_, rfl⟩
  have hgs : g ≤ s.size := by rw [← hg, ← len_list]; exact gpN_le _
  obtain ⟨r0, hr0⟩ : ∃ r0, s.extract g s.size = r0 := ⟨_, rfl⟩
  have hrs : r0.size = s.size - g := by rw [← hr0, size_extract _ _ _ (Nat.le_refl _)]
  have hxs := ext0 s g hgs
  obtain ⟨l0, hl0⟩ : ∃ l0, ovL (s.extract 0 g) 1 = l0 := ⟨_, rfl⟩
  obtain ⟨c0, hc0⟩ : ∃ c0, ovC (s.extract 0 g) 1 = c0 := ⟨_, rfl⟩
  have a1 := ovL_bd (x := s.extract 0 g) (l := 1) (by omega)
  have a2 := ovC_bd (x := s.extract 0 g) (c := 1) (by omega)
  rw [hl0] at a1
  rw [hc0] at a2
  obtain ⟨ts, R', L', C', p1, p2, p3, p4, p5⟩ := chn_all hD r0.size r0 l0 c0 (Nat.le_refl _) (by omega) a1.1 (by omega) a2.1 (by omega)
  refine ⟨r0, ts, R', L', C', by rw [← hr0, ext_back, ← hg, drop_gp], by rw [hg, hl0, hc0]; exact p2, by omega, ?_⟩
  rcases p5 with h | ⟨h, e, code, h1, h2⟩
  · exact .inl ⟨h, fun w hT => scanQ s r0 R' g l0 c0 L' C' ts w (by omega) hg hr0 hl0 hc0 p1 (by omega) h hT⟩
  · exact .inr ⟨h, e, code, h1, fun w ev hE hT => scanE s r0 R' g l0 c0 L' C' ts w (by omega) hg hr0 hl0 hc0 p1 (by omega) h h2 hE hT, fun w ev hE hT => someQ s r0 R' g l0 c0 L' C' ts w (by omega) hg hr0 hl0 hc0 p1 (by omega) (.inr ⟨h, e, ev, h2, hE⟩) hT⟩
theorem ts_at {ts : List Tok} {i N : Nat} (hN : ts.length = N) (h : i < N) : ∃ t, ts[i]? = some t ∧ ts.drop i = t :: ts.drop (i + 1) := by
  subst hN
  exact ⟨ts[i], List.getElem?_eq_getElem h, List.drop_eq_getElem_cons h⟩
set_option maxRecDepth 100000 in
set_option maxHeartbeats 8000000 in
theorem places_ok (s : ByteArray) (w : World) (hs : s.size ≤ 100000000) (HA : Calls Tryz.prog 9 #[] w fun e w' => e = .returned (.bool true) ∧ Below w.heap.size w w') (hT : Tabs w) (hlong : s.size < 262144) {ts : List Tok} {p' : Nat} (hlen : ts.length ≤ s.size) (HS : ScanOk s ts) (hP : Plc s ts (gpN s.data.toList) p') (hp' : p' = s.size) :
    Calls Tryz.prog 6 #[.string s] w fun e w' => e = .returned (.bool true) ∧ Below w.heap.size w w' := by
  have HL := fun u => longQ2 s s u
  rw [decide_eq_false (by omega)] at HL
  have HP0 : Hid (Plc s (ts.drop 0) (0 + gpN (s.data.toList.drop 0)) p') := by show Plc _ _ _ _; rw [List.drop_zero, List.drop_zero, Nat.zero_add]; exact hP
  clear hP
  go_enter Tryz.func6, Tryz.ntmps6
  go_wp2_with fail
  refine HA.mono ?_
  rintro e W ⟨rfl, hb⟩
  replace hT := hT.below hb
  clear HA
  go_wp2_with fail
  refine (HL _).mono ?_
  rintro e W ⟨rfl, rfl⟩
  clear HL
  go_wp2_with fail
  refine (HS _ hT).mono ?_
  rintro e W ⟨⟨v, rfl, v1, v2⟩, hq⟩
  obtain ⟨av, cv, rfl, HT⟩ := TkL.of v1 v2
  replace hb := bel_tr hb hq
  clear HS hT v1 v2 hq
  obtain ⟨N, hN⟩ : ∃ N, ts.length = N := ⟨_, rfl⟩
  rw [hN]
  have HN : Hid (ts.length = N) := hN
  have hNs : N ≤ 100000000 := by omega
  clear hN
  go_wp2
  go_loopw [7, 8] (fun a b wr => ∃ (e i : Nat), i ≤ N ∧ e ≤ s.size ∧ a = .int .i64 e ∧ b = .int .i64 i ∧ Hid (Plc s (ts.drop i) (e + gpN (s.data.toList.drop e)) p') ∧ Below W.heap.size W wr) (fun _ b _ => N - (intOf b).toNat)
  case atStart => exact ⟨0, 0, by omega, by omega, rfl, rfl, HP0, Below.refl _ _⟩
  case round =>
    clear HP0
    obtain ⟨e, i, hi, he, rfl, rfl, HP, hbel⟩ := hrel
    by_cases hlt : i < N
    · have hiI : (i : Int) < (N : Int) := by omega
      have hi0 : (0 : Int) ≤ (i : Int) := by omega
      have hw1 : IntKind.i64.wrap ((i : Int) + 1) = (i : Int) + 1 := by rw [IntKind.wrap_i64]; omega
      obtain ⟨t, ht1, ht2⟩ := ts_at HN.out hlt
      have HQ := HP.out
      rw [ht2] at HQ
      obtain ⟨p, hp⟩ : ∃ p, e + gpN (s.data.toList.drop e) = p := ⟨_, rfl⟩
      rw [hp] at HQ
      obtain ⟨q1, q2, q3, q4, q5, q6⟩ := HQ.split
      obtain ⟨g, rfl, tk⟩ := HT i t ht1
      obtain ⟨_, c1, _, c6, c7, _⟩ := tk
      replace c1 := kept_c hbel c1
      replace c6 := kept_c hbel c6
      replace c7 := kept_c hbel c7
      have HAt := fun u => atQ s p t.l t.c u (by omega) hs q1.symm q2.symm
      have HGp := fun u => gapT s e p u (by omega) (by omega) hs (by rw [← drop_gp, List.drop_drop, hp])
      obtain ⟨n, hn⟩ : ∃ n, t.x.size = n := ⟨_, rfl⟩
      rw [hn] at q3 q4 q5 q6
      have HQ2 : Hid (Plc s (ts.drop (i + 1)) ((p + n) + gpN (s.data.toList.drop (p + n))) p') := q6
      generalize t.x = x at *
      generalize t.l = tl at *
      generalize t.c = tc at *
      have hn0 : ¬ (n : Int) = 0 := by omega
      have hnB : ((n : Int) == 0) = false := by simpa using hn0
      have hpe : ¬ (p : Int) < (e : Int) := by omega
      have hw2 : IntKind.i64.wrap ((p : Int) + (n : Int)) = (p : Int) + (n : Int) := by rw [IntKind.wrap_i64]; omega
      have hw3 : ((p : Int) + (n : Int)).toNat = p + n := by omega
      have hpn : ¬ (s.size : Int) < (p : Int) + (n : Int) := by omega
      have hpn2 : (p : Int) + (n : Int) ≤ (s.size : Int) := by omega
      have hp0 : (0 : Int) ≤ (p : Int) := by omega
      have hpp : (p : Int) ≤ (p : Int) + (n : Int) := by omega
      have hpn0 : (0 : Int) ≤ (p : Int) + (n : Int) := by omega
      have HX : Hid (p + n ≤ s.size) := q4
      have dpe : decide ((p : Int) < (e : Int)) = false := decide_eq_false hpe
      have dpn : decide ((s.size : Int) < (p : Int) + (n : Int)) = false := decide_eq_false hpn
      have npe : ¬ p < e := by omega
      have npe2 : e ≤ p := by omega
      have npe3 : decide (p < e) = false := decide_eq_false npe
      have npn : ¬ s.size < p + n := by omega
      have npn2 : p + n ≤ s.size := q4
      have npn3 : decide (s.size < p + n) = false := decide_eq_false npn
      have dxx : (x.toList != x.toList) = false := by simp
      have hxs : (x.size : Int) = (n : Int) := by rw [hn]
      clear HP HQ q1 q2 q3 q6 ht1 ht2 hp HT HN
      have HB : ∀ u, Below wr.heap.size wr u → u.cell? ⟨g, i * 8 + 6, none⟩ = some (.int .i64 tl) ∧ u.cell? ⟨g, i * 8 + 7, none⟩ = some (.int .i64 tc) ∧ u.cell? ⟨g, i * 8 + 1, none⟩ = some (.string x) := fun u h => ⟨kept_c h c6, kept_c h c7, kept_c h c1⟩
      go_wp2_with fail
      go_region_held3 (fun w' => w'.cell? ⟨g, i * 8 + 6, none⟩ = some (.int .i64 tl) ∧ w'.cell? ⟨g, i * 8 + 7, none⟩ = some (.int .i64 tc) ∧ w'.cell? ⟨g, i * 8 + 1, none⟩ = some (.string x))
        (with_reducible refine HB _ ?_; repeat' (first | with_reducible exact Below.refl _ _ | with_reducible refine bel_dr ?_ | omega))
        ((go_at_call 23; go_fit (HAt _); rintro e v1 ⟨rfl, rfl⟩))
      obtain ⟨-, -, c1'⟩ := HB _ (bel_d1 wr)
      have HB1 : ∀ u, Below wr.drew.heap.size wr.drew u → u.cell? ⟨g, i * 8 + 1, none⟩ = some (.string x) := fun u h => kept_c h c1'
      replace hbel := bel_tr hbel (bel_d1 wr)
      clear HB c1 c6 c7 HAt
      generalize wr.drew = wq at *
      go_wp2_with fail
      go_quiet (fail)
      replace hbel := belN hbel nq
      clear HB1 c1'
      generalize wq.drewN nq = wz at *
      go_wp2_with fail
      refine (HGp _).mono ?_
      rintro e w1 ⟨rfl, rfl⟩
      clear HGp
      go_wp2
      go_roundw
      case rel => exact ⟨p + n, i + 1, by omega, HX.out, by go_num, by go_num, HQ2, hbel⟩
      case measure => simp [intOf]; omega
    · have hiI : ¬ (i : Int) < (N : Int) := by omega
      have hpe : p' = e + gpN (s.data.toList.drop e) := by
        have h := HP.out
        rw [List.drop_of_length_le (by rw [HN.out]; omega)] at h
        exact h
      clear HP HN HT
      have HGe := fun u => gapT s e s.size u he (Nat.le_refl _) hs (by rw [← drop_gp, List.drop_drop, ← hpe, hp'])
      have hbF := bel_tr hb hbel
      clear hpe hp' hbel hb
      go_wp2_with fail
      refine (HGe _).mono ?_
      rintro e w1 ⟨rfl, rfl⟩
      go_wp2
      go_ret
      exact ⟨rfl, hbF⟩
set_option maxRecDepth 100000 in
set_option maxHeartbeats 8000000 in
theorem places_no (s : ByteArray) (w : World) (hs : s.size ≤ 100000000) (HA : Calls Tryz.prog 9 #[] w fun e w' => e = .returned (.bool true) ∧ Below w.heap.size w w') (hT : Tabs w) (hlong : s.size < 262144) {ts : List Tok} {p' : Nat} (hlen : ts.length ≤ s.size) {gE : Nat} {L' C' : Int} (HS : ScanNo s gE L' C') (HM : SomeNo s gE ts) (hP : Plc s ts (gpN s.data.toList) p')
    (hp' : p' < s.size) (hL : L' = lnA s p') (hC : C' = cnA s p') (hgp : gp false (s.data.toList.drop p') = s.data.toList.drop p') {EE : ByteArray → Int → Prop} {R' : ByteArray} {code : Int} (hRn : Rn EE R' gE code) {a b c d : Addr} {x y z u4 : List UInt8} (E : E4 w a b c d x y z u4) (hg : w.cell? ⟨4, 0, none⟩ = some (.iface 120 (.agg #[.pointer (some ⟨16, 26, none⟩)]))) :
    Calls Tryz.prog 6 #[.string s] w fun e w' => e = .returned (.bool true) ∧ Below w.heap.size w w' := by
  have HL := fun u => longQ2 s s u
  rw [decide_eq_false (by omega)] at HL
  have HP0 : Hid (Plc s (ts.drop 0) (0 + gpN (s.data.toList.drop 0)) p') := by show Plc _ _ _ _; rw [List.drop_zero, List.drop_zero, Nat.zero_add]; exact hP
  have HAt := fun u => atQ s p' L' C' u (by omega) hs hL.symm hC.symm
  have hst := stay_of (by rw [← drop_byte hp']; exact hgp)
  have HGF := fun u => gapF s p' u hp' hst.1 hst.2
  have h92 : ¬ ((s.data.toList.getD p' 0).toNat : Int) = 92 := fun h => hst.2 (nat_eq (d := 92) h)
  have hby := getD_get hp'
  rw [show ((p' + 1 : Nat) : Int) = (p' : Int) + 1 by omega] at HGF
  have HNu := fun (u : World) (hu : E4 u a b c d x y z u4) ev (he : Errs u gE ev) => numberAt u hu hRn he
  obtain ⟨ev, hev⟩ := E.ers.at hRn
  clear hP hL hC hgp hst hRn
  generalize ((s.data.toList.getD p' 0).toNat : Int) = C at *
  have b92 : (C == 92) = false := by simpa using h92
  have n92 : (C != 92) = true := by simpa using h92
  go_enter Tryz.func6, Tryz.ntmps6
  go_wp2_with fail
  refine HA.mono ?_
  rintro e W ⟨rfl, hb⟩
  replace hT := hT.below hb
  replace E := E.below hb
  replace hev := hev.below hb
  replace hg := kept_c hb hg
  clear HA
  go_wp2_with fail
  refine (HL _).mono ?_
  rintro e W ⟨rfl, rfl⟩
  clear HL
  go_wp2_with fail
  refine (HS _ _ hev hT).mono ?_
  rintro e W ⟨⟨F, rfl, hF, -⟩, hq⟩
  replace hT := hT.below hq
  replace E := E.below hq
  replace hev := hev.below hq
  replace hg := kept_c hq hg
  replace hb := bel_tr hb hq
  clear HS hq
  go_wp2_with fail
  refine (HM _ _ hev hT).mono ?_
  rintro e W ⟨⟨v, rfl, v1, v2⟩, hq⟩
  obtain ⟨av, cv, rfl, HT⟩ := TkL.of v1 v2
  replace E := E.below hq
  replace hev := hev.below hq
  replace hg := kept_c hq hg
  replace hF := hF.below hq
  replace hb := bel_tr hb hq
  have HEV : Hid (Errs W gE ev ∧ E4 W a b c d x y z u4 ∧ W.cell? ⟨4, 0, none⟩ = some (.iface 120 (.agg #[.pointer (some ⟨16, 26, none⟩)])) ∧ Rw 69 W F #[.int .i64 L', .int .i64 C', ev]) := ⟨hev, E, hg, hF⟩
  clear HM hT v1 v2 hq hev E hg hF
  obtain ⟨N, hN⟩ : ∃ N, ts.length = N := ⟨_, rfl⟩
  rw [hN]
  have HN : Hid (ts.length = N) := hN
  have hNs : N ≤ 100000000 := by omega
  clear hN
  go_wp2
  go_loopw [7, 8] (fun a b wr => ∃ (e i : Nat), i ≤ N ∧ e ≤ s.size ∧ a = .int .i64 e ∧ b = .int .i64 i ∧ Hid (Plc s (ts.drop i) (e + gpN (s.data.toList.drop e)) p') ∧ Below W.heap.size W wr) (fun _ b _ => N - (intOf b).toNat)
  case atStart => exact ⟨0, 0, by omega, by omega, rfl, rfl, HP0, Below.refl _ _⟩
  case round =>
    clear HP0
    obtain ⟨e, i, hi, he, rfl, rfl, HP, hbel⟩ := hrel
    by_cases hlt : i < N
    · have hiI : (i : Int) < (N : Int) := by omega
      have hi0 : (0 : Int) ≤ (i : Int) := by omega
      have hw1 : IntKind.i64.wrap ((i : Int) + 1) = (i : Int) + 1 := by rw [IntKind.wrap_i64]; omega
      obtain ⟨t, ht1, ht2⟩ := ts_at HN.out hlt
      have HQ := HP.out
      rw [ht2] at HQ
      obtain ⟨p, hp⟩ : ∃ p, e + gpN (s.data.toList.drop e) = p := ⟨_, rfl⟩
      rw [hp] at HQ
      obtain ⟨q1, q2, q3, q4, q5, q6⟩ := HQ.split
      obtain ⟨g, rfl, tk⟩ := HT i t ht1
      obtain ⟨_, c1, _, c6, c7, _⟩ := tk
      replace c1 := kept_c hbel c1
      replace c6 := kept_c hbel c6
      replace c7 := kept_c hbel c7
      have HAt := fun u => atQ s p t.l t.c u (by omega) hs q1.symm q2.symm
      have HGp := fun u => gapT s e p u (by omega) (by omega) hs (by rw [← drop_gp, List.drop_drop, hp])
      obtain ⟨n, hn⟩ : ∃ n, t.x.size = n := ⟨_, rfl⟩
      rw [hn] at q3 q4 q5 q6
      have HQ2 : Hid (Plc s (ts.drop (i + 1)) ((p + n) + gpN (s.data.toList.drop (p + n))) p') := q6
      generalize t.x = x at *
      generalize t.l = tl at *
      generalize t.c = tc at *
      have hn0 : ¬ (n : Int) = 0 := by omega
      have hnB : ((n : Int) == 0) = false := by simpa using hn0
      have hpe : ¬ (p : Int) < (e : Int) := by omega
      have hw2 : IntKind.i64.wrap ((p : Int) + (n : Int)) = (p : Int) + (n : Int) := by rw [IntKind.wrap_i64]; omega
      have hw3 : ((p : Int) + (n : Int)).toNat = p + n := by omega
      have hpn : ¬ (s.size : Int) < (p : Int) + (n : Int) := by omega
      have hpn2 : (p : Int) + (n : Int) ≤ (s.size : Int) := by omega
      have hp0 : (0 : Int) ≤ (p : Int) := by omega
      have hpp : (p : Int) ≤ (p : Int) + (n : Int) := by omega
      have hpn0 : (0 : Int) ≤ (p : Int) + (n : Int) := by omega
      have HX : Hid (p + n ≤ s.size) := q4
      have dpe : decide ((p : Int) < (e : Int)) = false := decide_eq_false hpe
      have dpn : decide ((s.size : Int) < (p : Int) + (n : Int)) = false := decide_eq_false hpn
      have npe : ¬ p < e := by omega
      have npe2 : e ≤ p := by omega
      have npe3 : decide (p < e) = false := decide_eq_false npe
      have npn : ¬ s.size < p + n := by omega
      have npn2 : p + n ≤ s.size := q4
      have npn3 : decide (s.size < p + n) = false := decide_eq_false npn
      have dxx : (x.toList != x.toList) = false := by simp
      have hxs : (x.size : Int) = (n : Int) := by rw [hn]
      clear HP HQ q1 q2 q3 q6 ht1 ht2 hp HT HN
      have HB : ∀ u, Below wr.heap.size wr u → u.cell? ⟨g, i * 8 + 6, none⟩ = some (.int .i64 tl) ∧ u.cell? ⟨g, i * 8 + 7, none⟩ = some (.int .i64 tc) ∧ u.cell? ⟨g, i * 8 + 1, none⟩ = some (.string x) := fun u h => ⟨kept_c h c6, kept_c h c7, kept_c h c1⟩
      go_wp2_with fail
      go_region_held3 (fun w' => w'.cell? ⟨g, i * 8 + 6, none⟩ = some (.int .i64 tl) ∧ w'.cell? ⟨g, i * 8 + 7, none⟩ = some (.int .i64 tc) ∧ w'.cell? ⟨g, i * 8 + 1, none⟩ = some (.string x))
        (with_reducible refine HB _ ?_; repeat' (first | with_reducible exact Below.refl _ _ | with_reducible refine bel_dr ?_ | omega))
        ((go_at_call 23; go_fit (HAt _); rintro e v1 ⟨rfl, rfl⟩))
      obtain ⟨-, -, c1'⟩ := HB _ (bel_d1 wr)
      have HB1 : ∀ u, Below wr.drew.heap.size wr.drew u → u.cell? ⟨g, i * 8 + 1, none⟩ = some (.string x) := fun u h => kept_c h c1'
      replace hbel := bel_tr hbel (bel_d1 wr)
      clear HB c1 c6 c7 HAt
      generalize wr.drew = wq at *
      go_wp2_with fail
      go_quiet (fail)
      replace hbel := belN hbel nq
      clear HB1 c1'
      generalize wq.drewN nq = wz at *
      go_wp2_with fail
      refine (HGp _).mono ?_
      rintro e w1 ⟨rfl, rfl⟩
      clear HGp
      go_wp2
      go_roundw
      case rel => exact ⟨p + n, i + 1, by omega, HX.out, by go_num, by go_num, HQ2, hbel⟩
      case measure => simp [intOf]; omega
    · have hiI : ¬ (i : Int) < (N : Int) := by omega
      have hpe : p' = e + gpN (s.data.toList.drop e) := by
        have h := HP.out
        rw [List.drop_of_length_le (by rw [HN.out]; omega)] at h
        exact h
      clear HP HN HT
      obtain ⟨hev, E, hg, hF⟩ := HEV.out
      replace hev := hev.below hbel
      replace E := E.below hbel
      replace hg := kept_c hbel hg
      replace hF := hF.below hbel
      have hbF := bel_tr hb hbel
      have HGe := fun u => gapT s e p' u (by omega) (by omega) hs (by rw [← drop_gp, List.drop_drop, ← hpe])
      have hne : ¬ (p' : Int) < (e : Int) := by omega
      have hlt : (p' : Int) < (s.size : Int) := by omega
      have hge : ¬ (s.size : Int) ≤ (p' : Int) := by omega
      have hp0 : (0 : Int) ≤ (p' : Int) := by omega
      have hw1 : IntKind.i64.wrap ((p' : Int) + 1) = (p' : Int) + 1 := by rw [IntKind.wrap_i64]; omega
      obtain ⟨ec, q, rfl⟩ := id hev
      have HPl := placeQ F L' C' q _ hF hg
      clear HEV hpe hbel hb hF hg ec
      go_wp2_with fail
      refine HPl.mono ?_
      rintro e w1 ⟨rfl, hq⟩
      replace hev := hev.below hq
      replace E := E.below hq
      replace hbF := bel_tr hbF hq
      clear HPl hq
      go_wp2_with fail
      refine (HAt _).mono ?_
      rintro e w2 ⟨rfl, rfl⟩
      clear HAt
      obtain ⟨hcode, HNx⟩ := HNu _ E _ hev
      have hcd : ¬ code ≤ 0 := by omega
      clear HNu E hev
      go_wp2_with fail
      refine HNx.mono ?_
      rintro e w3 ⟨rfl, rfl⟩
      clear HNx
      go_wp2_with fail
      refine (HGe _).mono ?_
      rintro e w4 ⟨rfl, rfl⟩
      clear HGe
      go_wp2_with fail
      refine (HGF _).mono ?_
      rintro e w5 ⟨rfl, rfl⟩
      clear HGF
      go_wp2
      go_ret
      exact ⟨rfl, hbF⟩
set_option maxRecDepth 100000 in
set_option maxHeartbeats 8000000 in
/-- law5.LexPlaces -/
theorem places_walk (s : ByteArray) (w : World) (hT : Tabs w) {a b c d : Addr} {x y z u4 : List UInt8} (E : E4 w a b c d x y z u4) (hg : w.cell? ⟨4, 0, none⟩ = some (.iface 120 (.agg #[.pointer (some ⟨16, 26, none⟩)]))) :
    Calls Tryz.prog 6 #[.string s] w fun e w' => e = .returned (.bool true) ∧ Below w.heap.size w w' := by
  have HA := awake5 w hT E.D.errs hg
  by_cases h : 262144 ≤ s.size
  · have HL := fun u => longQ2 s s u
    rw [decide_eq_true (.inl h)] at HL
    go_enter Tryz.func6, Tryz.ntmps6
    go_wp2_with fail
    refine HA.mono ?_
    rintro e w1 ⟨rfl, hb⟩
    go_wp2_with fail
    refine (HL _).mono ?_
    rintro e w2 ⟨rfl, rfl⟩
    go_wp2
    go_ret
    exact ⟨rfl, hb⟩
  · obtain ⟨r0, ts, R', L', C', q1, q2, q3, q4⟩ := scan_all2 half s (by omega)
    have hgl := gpN_le s.data.toList
    rw [len_list] at hgl
    have hr0 : r0.data.toList = s.data.toList.drop (gpN s.data.toList) := by rw [q1, drop_gp]
    obtain ⟨p', k1, k2, k3, k4, k5, k6⟩ := plc_of (p := gpN s.data.toList) q2 hr0 hgl (by unfold ovL lnA; rw [ext_front]) (by rw [ovC_cn, cnA, ext_front])
    have hRs : R'.size = s.size - p' := by rw [← len_list, k4, List.length_drop, len_list]
    rcases q4 with ⟨h0, HS⟩ | ⟨h0, g, code, hR, HS, HM⟩
    · exact places_ok s w (by omega) HA hT (by omega) q3 HS k1 (by omega)
    · have hgp : gp false (s.data.toList.drop p') = s.data.toList.drop p' := by
        obtain ⟨e, he⟩ := plc_end ts k1 ⟨0, by rw [List.drop_zero, Nat.zero_add]⟩
        rw [he, ← List.drop_drop, drop_gp, gp_idem]
      exact places_no s w (by omega) HA hT (by omega) q3 HS HM k1 (by omega) k5 k6 hgp hR E hg
end Go.Proofs.YtcpglhcdllegnaaGreatDoor

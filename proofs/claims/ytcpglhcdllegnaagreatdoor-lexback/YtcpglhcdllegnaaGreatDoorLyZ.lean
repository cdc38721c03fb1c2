import Derived.Test.YtcpglhcdllegnaaGreatDoorLyWAll
import Derived.Test.YtcpglhcdllegnaaGreatDoorLyR
import Derived.Test.YtcpglhcdllegnaaGreatDoorQAll
namespace Go.Proofs.YtcpglhcdllegnaaGreatDoor
open Go.RowKit Go.Shelf

theorem jn_snoc : ∀ (us : List Tok) (t : Tok), jn (us ++ [t]) = if us = [] then t.x.data.toList else jn us ++ 32 :: t.x.data.toList
  | [], t => rfl
  | u :: us, t => by
    rw [if_neg (by simp), List.cons_append, jn_cons, jn_cons]
    cases us with
    | nil => simp [dj, jn]
    | cons u2 us =>
      have ih := jn_snoc (u2 :: us) t
      rw [if_neg (by simp)] at ih
      rw [List.cons_append, dj, dj, ← List.cons_append, ih]
      simp
theorem jn_len {D : ByteArray → Rat → Prop} : ∀ (ts : List Tok) {r : ByteArray} {l c : Int} {R' : ByteArray} {L' C' : Int}, Pch D r l c ts R' L' C' → (jn ts).length ≤ r.size + ts.length
  | [], _, _, _, _, _, _, _ => by simp [jn]
  | t :: ts, r, l, c, R', L', C', h => by
    obtain ⟨R, r2, l2, c2, k1, k2, k3, k4, k5, k6⟩ := pch_split h
    have ih := jn_len ts k5
    have e1 : r.size = t.x.data.toList.length + R.length := by rw [← len_list, k1, List.length_append]
    have e2 : r2.size ≤ R.length := by rw [← len_list, k4]; exact gp_len false R
    rw [jn_cons, List.length_append, List.length_cons]
    have e3 : (dj ts).length ≤ (jn ts).length + 1 := by
      cases ts with
      | nil => simp [dj]
      | cons t ts => simp [dj]
    omega
theorem jn_mono : ∀ (a b : List Tok), (jn a).length ≤ (jn (a ++ b)).length
  | [], b => by simp [jn]
  | t :: a, b => by
    rw [List.cons_append, jn_cons, jn_cons, List.length_append, List.length_append]
    cases a with
    | nil => simp [dj]
    | cons u a =>
      have := jn_mono (u :: a) b
      rw [List.cons_append] at this ⊢
      simp only [dj, List.length_cons]
      omega
theorem jn_take (ts : List Tok) (i : Nat) : (jn (ts.take i)).length ≤ (jn ts).length := by
  have := jn_mono (ts.take i) (ts.drop i)
  rwa [List.take_append_drop] at this
/-- A token's number, told. -/
theorem NumM.tr {w : World} {B k : Nat} {f : Bool} {a1 : Option Addr} {n1 k1 : Nat} {a2 : Option Addr} {n2 k2 : Nat} {q : Rat} (h : NumM w B k f a1 n1 k1 a2 n2 k2 q) : TR w f a1 n1 k1 a2 n2 k2 q 3000000 := by
  rcases h with ⟨_, h⟩ | ⟨_, rfl, rfl, rfl, rfl, rfl, rfl, rfl, rfl⟩
  · exact h.tr
  · have N0 : Num w none 0 0 0 3000000 := ((Got.nil w 0).le (by omega)).num
    exact ⟨0, 0, ⟨0, N0, rfl⟩, N0, by decide⟩
theorem TkAt.below {W W' : World} {B g i : Nat} {t : Tok} (h : TkAt W B g i t) (hb : Below W.heap.size W W') : TkAt W' B g i t := by
  obtain ⟨h1, h2, h3, h4, h5, f, a1, n1, k1, a2, n2, k2, h6, h7, h8, h9⟩ := h
  exact ⟨kept_c hb h1, kept_c hb h2, kept_c hb h3, kept_c hb h4, kept_c hb h5, f, a1, n1, k1, a2, n2, k2, kept_c hb h6, kept_c hb h7, kept_c hb h8, h9.ku (Ku.of_below hb)⟩
theorem cs_self (q : Rat) : (0 : Int) = cs q q := by unfold cs; rw [Int.sub_self]; rfl
/-- A list of tokens as a value. -/
def TkB (W : World) (B : Nat) (v : Value) (ts : List Tok) : Prop := ∃ av cv, v = .slice av ts.length cv ∧ ∀ (i : Nat) t, ts[i]? = some t → ∃ g, av = some ⟨g, 0, none⟩ ∧ TkAt W B g i t
theorem TkB.of {W : World} {B b : Nat} {v : Value} {ts : List Tok} (h1 : ts = [] → v = .slice none 0 0) (h2 : ts ≠ [] → ∃ g cap, v = .slice (some ⟨g, 0, none⟩) ts.length cap ∧ b ≤ g ∧ ∀ i t, ts[i]? = some t → TkAt W B g i t) : TkB W B v ts := by
  cases ts with
  | nil => exact ⟨none, 0, h1 rfl, fun i t h => by cases h⟩
  | cons t ts =>
    obtain ⟨g, cap, e, _, h⟩ := h2 (List.cons_ne_nil _ _)
    exact ⟨_, cap, e, fun i t hi => ⟨g, rfl, h i t hi⟩⟩
theorem take_snoc {ts : List Tok} {i N : Nat} (hN : ts.length = N) (h : i < N) : ∃ t, ts[i]? = some t ∧ ts.take (i + 1) = ts.take i ++ [t] := by
  subst hN
  exact ⟨ts[i], List.getElem?_eq_getElem h, List.take_succ_eq_append_getElem h⟩
set_option maxRecDepth 100000 in
set_option maxHeartbeats 8000000 in
theorem back_ok (s : ByteArray) (w : World) (HA : Calls Tryz.prog 9 #[] w fun e w' => e = .returned (.bool true) ∧ Below w.heap.size w w') (hT : Tabs w) (hlong : s.size < 262144) {ts ts1 : List Tok} (hlen : ts.length ≤ s.size) (HS : ScanOk s ts) {P : ByteArray} (hP : P.data.toList = jn ts) (hPs : P.size ≤ s.size + ts.length) (HS1 : ScanOk P ts1) (hl1 : ts1.length = ts.length)
    (hsame : ∀ (i : Nat) t t1, ts[i]? = some t → ts1[i]? = some t1 → SameT t t1) :
    Calls Tryz.prog 7 #[.string s] w fun e w' => e = .returned (.bool true) ∧ Below w.heap.size w w' := by
  have HL := fun u => longQ2 s s u
  rw [decide_eq_false (by omega)] at HL
  go_enter Tryz.func7, Tryz.ntmps7
  go_wp2_with fail
  refine HA.mono ?_
  rintro e W ⟨rfl, hb⟩
  replace hT := hT.below hb
  clear HA
  go_wp2_with fail
  refine (HL _).mono ?_
  rintro e W ⟨rfl, rfl⟩
  clear HL
  go_wp2_with fail
  refine (HS _ hT).mono ?_
  rintro e W ⟨⟨v, rfl, v1, v2⟩, hq⟩
  obtain ⟨av, cv, rfl, HT⟩ := TkB.of v1 v2
  replace hb := bel_tr hb hq
  replace hT := hT.below hq
  clear HS v1 v2 hq
  obtain ⟨N, hN⟩ : ∃ N, ts.length = N := ⟨_, rfl⟩
  rw [hN]
  have HN : Hid (ts.length = N ∧ ts1.length = N) := ⟨hN, by omega⟩
  have hNs : N ≤ 262144 := by omega
  have hPn : P.size ≤ s.size + N := by omega
  have HP : Hid (P.data.toList = jn ts) := hP
  have HSa : Hid (∀ (i : Nat) t t1, ts[i]? = some t → ts1[i]? = some t1 → SameT t t1) := hsame
  have HSc : Hid (ScanOk P ts1) := HS1
  clear hN hP hPs hl1 hlen hsame HS1
  go_wp2
  go_loopw [7, 8] (fun a b wr => ∃ (Q : ByteArray) (i : Nat), i ≤ N ∧ a = .string Q ∧ b = .int .i64 i ∧ Hid (Q.data.toList = jn (ts.take i)) ∧ wr = W) (fun _ b _ => N - (intOf b).toNat)
  case atStart => exact ⟨⟨#[]⟩, 0, by omega, rfl, rfl, rfl, rfl⟩
  case round =>
    obtain ⟨Q, i, hi, rfl, rfl, HQ, rfl⟩ := hrel
    by_cases hlt : i < N
    · have hiI : (i : Int) < (N : Int) := by omega
      have hi0 : (0 : Int) ≤ (i : Int) := by omega
      have hw1 : IntKind.i64.wrap ((i : Int) + 1) = (i : Int) + 1 := by rw [IntKind.wrap_i64]; omega
      obtain ⟨t, ht1, ht2⟩ := take_snoc HN.out.1 hlt
      obtain ⟨g, rfl, tk⟩ := HT i t ht1
      have c1 := tk.2.1
      have hjs := jn_snoc (ts.take i) t
      rw [← ht2] at hjs
      by_cases hz : i = 0
      · subst hz
        rw [List.take_zero, if_pos rfl] at hjs
        obtain ⟨Z, hZ⟩ : ∃ Z, Q ++ t.x = Z := ⟨_, rfl⟩
        have HQ2 : Hid (Z.data.toList = jn (ts.take (0 + 1))) := by
          show _ = _
          rw [hjs, ← hZ, app_list, HQ.out, List.take_zero]; rfl
        have hZs : Z.size ≤ 600000 := by
          have h1 := jn_take ts (0 + 1)
          rw [← HQ2.out, ← HP.out, len_list, len_list] at h1
          omega
        have hQx : Q.size ≤ 600000 ∧ t.x.size ≤ 600000 := by
          have h1 := app_size Q t.x
          rw [hZ] at h1
          omega
        obtain ⟨hQs, hxs⟩ := hQx
        have hsum : ¬ 9223372036854775807 < Q.size + t.x.size := by omega
        have hg0 : ¬ (0 : Int) < ((0 : Nat) : Int) := by omega
        generalize t.x = x at *
        clear HQ hjs ht1 ht2 HT HN HP HSa HSc tk
        go_wp2
        go_roundw
        case rel => exact ⟨Z, 0 + 1, by omega, rfl, by go_num, HQ2, by first | rfl | trivial⟩
        case measure => simp [intOf]; omega
      · rw [if_neg (by intro e; have := congrArg List.length e; rw [List.length_take, HN.out.1] at this; simp at this; omega)] at hjs
        obtain ⟨Z, hZ⟩ : ∃ Z, Q ++ (⟨#[32]⟩ : ByteArray) ++ t.x = Z := ⟨_, rfl⟩
        have HQ2 : Hid (Z.data.toList = jn (ts.take (i + 1))) := by
          show _ = _
          rw [hjs, ← hZ, app_list, app_list, HQ.out]; simp
        have hZs : Z.size ≤ 600000 := by
          have h1 := jn_take ts (i + 1)
          rw [← HQ2.out, ← HP.out, len_list, len_list] at h1
          omega
        obtain ⟨Y, hY⟩ : ∃ Y, Q ++ (⟨#[32]⟩ : ByteArray) = Y := ⟨_, rfl⟩
        rw [hY] at hZ
        have hYs : Y.size ≤ 600000 := by
          have h1 := app_size Y t.x
          rw [hZ] at h1
          omega
        have hYx : Q.size ≤ 600000 ∧ t.x.size ≤ 600000 := by
          have h1 := app_size Y t.x
          have h2 := app_size Q (⟨#[32]⟩ : ByteArray)
          rw [hZ] at h1
          rw [hY] at h2
          omega
        obtain ⟨hQs, hxs⟩ := hYx
        have hsum : ¬ 9223372036854775807 < Y.size + t.x.size := by omega
        have hsum2 : ¬ 9223372036854775807 < Q.size + 1 := by omega
        have hg0 : (0 : Int) < (i : Int) := by omega
        generalize t.x = x at *
        clear HQ hjs ht1 ht2 HT HN HP HSa HSc tk
        go_wp2
        go_roundw
        case rel => exact ⟨Z, i + 1, by omega, rfl, by go_num, HQ2, by first | rfl | trivial⟩
        case measure => simp [intOf]; omega
    · have hiI : ¬ (i : Int) < (N : Int) := by omega
      obtain rfl : Q = P := ba_eq (by rw [HQ.out, HP.out, List.take_of_length_le (by rw [HN.out.1]; omega)])
      have HS1 := HSc.out
      clear HQ HSc HP
      go_wp2_with fail
      refine (HS1 _ hT).mono ?_
      rintro e W2 ⟨⟨v, rfl, v1, v2⟩, hq⟩
      obtain ⟨av', cv', rfl, HT1⟩ := TkB.of v1 v2
      rw [HN.out.2]
      replace HT := fun i t h => (HT i t h).imp fun g k => And.intro k.1 (k.2.below hq)
      replace hb := bel_tr hb hq
      have hNN : ((N : Int) == (N : Int)) = true := by simp
      have hw2 : IntKind.i64.wrap ((s.size : Int) + (N : Int)) = (s.size : Int) + (N : Int) := by rw [IntKind.wrap_i64]; omega
      have hgt : ¬ (s.size : Int) + (N : Int) < (Q.size : Int) := by omega
      clear HS1 hT v1 v2 hq
      go_wp2
      go_loopw [11] (fun b wr => ∃ i : Nat, i ≤ N ∧ b = .int .i64 i ∧ Below W2.heap.size W2 wr) (fun b _ => N - (intOf b).toNat)
      case atStart => exact ⟨0, by omega, rfl, Below.refl _ _⟩
      case round =>
        clear hi hiI
        obtain ⟨i, hi, rfl, hbel⟩ := hrel
        by_cases hlt : i < N
        · have hiI : (i : Int) < (N : Int) := by omega
          have hi0 : (0 : Int) ≤ (i : Int) := by omega
          have hw1 : IntKind.i64.wrap ((i : Int) + 1) = (i : Int) + 1 := by rw [IntKind.wrap_i64]; omega
          obtain ⟨t, ht⟩ : ∃ t, ts[i]? = some t := ⟨_, List.getElem?_eq_getElem (by rw [HN.out.1]; exact hlt)⟩
          obtain ⟨t1, ht1⟩ : ∃ t1, ts1[i]? = some t1 := ⟨_, List.getElem?_eq_getElem (by rw [HN.out.2]; exact hlt)⟩
          obtain ⟨s1, s2, s3, s4⟩ := HSa.out i t t1 ht ht1
          obtain ⟨g, rfl, tk⟩ := HT i t ht
          obtain ⟨g', rfl, tk1⟩ := HT1 i t1 ht1
          replace tk := tk.below hbel
          replace tk1 := tk1.below hbel
          obtain ⟨a0, a1, a5, _, _, f, b1, m1, d1, b2, m2, d2, a2, a3, a4, hn⟩ := tk
          obtain ⟨e0, e1, e5, _, _, f', b1', m1', d1', b2', m2', d2', e2, e3, e4, hn'⟩ := tk1
          have T1 := hn.tr
          have T2 := hn'.tr
          rw [s1] at a0
          rw [s2] at a1
          rw [s3] at a5
          rw [s4] at T1
          have HC := fun u (h : Below wr.heap.size wr u) => cmpD 0 u (T2.below h) (T1.below h) (by omega) (by omega) (by omega) (cs_self t1.q)
          have hkk : (((t1.k : Nat) : Int) == ((t1.k : Nat) : Int)) = true := by simp
          have hww : (((t1.wd : Nat) : Int) == ((t1.wd : Nat) : Int)) = true := by simp
          generalize t1.x = x at *
          generalize t1.k = k at *
          generalize t1.wd = wd at *
          clear HT HT1 HN HSa ht ht1 s1 s2 s3 s4 hn hn' T1 T2
          have HB : ∀ u, Below wr.heap.size wr u → u.cell? ⟨g, i * 8 + 2, none⟩ = some (.bool f) ∧ u.cell? ⟨g, i * 8 + 2 + 1, none⟩ = some (.slice b1 m1 d1) ∧ u.cell? ⟨g, i * 8 + 2 + 2, none⟩ = some (.slice b2 m2 d2) ∧ u.cell? ⟨g', i * 8 + 2, none⟩ = some (.bool f') ∧ u.cell? ⟨g', i * 8 + 2 + 1, none⟩ = some (.slice b1' m1' d1') ∧ u.cell? ⟨g', i * 8 + 2 + 2, none⟩ = some (.slice b2' m2' d2') :=
            fun u h => ⟨kept_c h a2, kept_c h a3, kept_c h a4, kept_c h e2, kept_c h e3, kept_c h e4⟩
          go_wp2_with fail
          go_region_held3 (fun w' => w'.cell? ⟨g, i * 8 + 2, none⟩ = some (.bool f) ∧ w'.cell? ⟨g, i * 8 + 2 + 1, none⟩ = some (.slice b1 m1 d1) ∧ w'.cell? ⟨g, i * 8 + 2 + 2, none⟩ = some (.slice b2 m2 d2) ∧ w'.cell? ⟨g', i * 8 + 2, none⟩ = some (.bool f') ∧ w'.cell? ⟨g', i * 8 + 2 + 1, none⟩ = some (.slice b1' m1' d1') ∧ w'.cell? ⟨g', i * 8 + 2 + 2, none⟩ = some (.slice b2' m2' d2'))
            (with_reducible refine HB _ ?_; repeat' (first | with_reducible exact hc1 | with_reducible exact Below.refl _ _ | with_reducible refine bel_dr ?_ | omega))
            ((go_at_call 25; go_fit (HC _ (by first | exact Below.refl _ _ | exact bel_d1 _)); rintro e v1 ⟨rfl, hb1⟩; have hc1 : Below wr.heap.size wr v1 := (by first | exact bel_tr (bel_d1 wr) hb1 | exact hb1)))
          replace a0 := kept_c hc1 a0
          replace a1 := kept_c hc1 a1
          replace a5 := kept_c hc1 a5
          replace e0 := kept_c hc1 e0
          replace e1 := kept_c hc1 e1
          replace e5 := kept_c hc1 e5
          replace hbel := bel_tr hbel hc1
          clear HB HC a2 a3 a4 e2 e3 e4 hb1 hc1
          go_wp2_with fail
          go_quiet (fail)
          replace hbel := belN hbel nq
          clear a0 a1 a5 e0 e1 e5
          generalize v1.drewN nq = wz at *
          go_wp2
          go_roundw
          case rel => exact ⟨i + 1, by omega, by go_num, hbel⟩
          case measure => simp [intOf]; omega
        · have hiI : ¬ (i : Int) < (N : Int) := by omega
          have hbF := bel_tr hb hbel
          clear hb hbel HT HT1 HN HSa
          go_wp2
          go_ret
          exact ⟨rfl, hbF⟩
set_option maxRecDepth 100000 in
set_option maxHeartbeats 8000000 in
/-- law5.LexBack -/
theorem back_walk5 (s : ByteArray) (w : World) (hT : Tabs w) (hE : Ers w) {ev : Value} (E : Errs w 0 ev) (hg : w.cell? ⟨4, 0, none⟩ = some (.iface 120 (.agg #[.pointer (some ⟨16, 26, none⟩)]))) :
    Calls Tryz.prog 7 #[.string s] w fun e w' => e = .returned (.bool true) ∧ Below w.heap.size w w' := by
  have HA := awake5 w hT E hg
  have HL := fun u => longQ2 s s u
  by_cases h : 262144 ≤ s.size
  · rw [decide_eq_true (.inl h)] at HL
    go_enter Tryz.func7, Tryz.ntmps7
    go_wp2_with fail
    refine HA.mono ?_
    rintro e w1 ⟨rfl, hb⟩
    go_wp2_with fail
    refine (HL _).mono ?_
    rintro e w2 ⟨rfl, rfl⟩
    go_wp2
    go_ret
    exact ⟨rfl, hb⟩
  · obtain ⟨r0, ts, R', L', C', q1, q2, q3, q4⟩ := scan_all half s (by omega)
    rcases q4 with ⟨h0, HS⟩ | ⟨h0, g, code, hR, HS⟩
    · have hr0 : r0.size ≤ s.size := by rw [← len_list, q1, ← len_list s]; exact gp_len false _
      have hj := jn_len ts q2
      obtain ⟨P, hP⟩ : ∃ P : ByteArray, P.data.toList = jn ts := ⟨⟨(jn ts).toArray⟩, rfl⟩
      have hPs : P.size = (jn ts).length := by rw [← len_list, hP]
      obtain ⟨p0, ts1, R1, L1, C1, k1, k2, k3, k4⟩ := scan_all half P (by omega)
      have hg2 : gp false P.data.toList = jn ts := by
        rw [hP]
        cases ts with
        | nil => rfl
        | cons t ts => exact gp_jn q2
      obtain ⟨j1, j2, j3⟩ := pch_join (E := NumE) (fun x q q' h1 h2 => h1.2.trans h2.2.symm) (fun x q code h1 h2 => h2 h1.1) ts q2 h0 (k1.trans hg2) k2 (k4.imp (·.1) (fun ⟨_, g, code, h, _⟩ => ⟨g, code, h⟩))
      have HS1 : ScanOk P ts1 := k4.elim (·.2) (fun h => by omega)
      exact back_ok s w HA hT (by omega) q3 HS hP (by omega) HS1 j2 j3
    · rw [decide_eq_false (by omega)] at HL
      obtain ⟨ev2, hev⟩ := hE.at hR
      go_enter Tryz.func7, Tryz.ntmps7
      go_wp2_with fail
      refine HA.mono ?_
      rintro e w1 ⟨rfl, hb⟩
      go_wp2_with fail
      refine (HL _).mono ?_
      rintro e w2 ⟨rfl, rfl⟩
      go_wp2_with fail
      refine (HS _ _ (hev.below hb) (hT.below hb)).mono ?_
      rintro e w3 ⟨⟨F, rfl, -, -⟩, hq⟩
      replace hb := bel_tr hb hq
      go_wp2
      go_ret
      exact ⟨rfl, hb⟩
end Go.Proofs.YtcpglhcdllegnaaGreatDoor

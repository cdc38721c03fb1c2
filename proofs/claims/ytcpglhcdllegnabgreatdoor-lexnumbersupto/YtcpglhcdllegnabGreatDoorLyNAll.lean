import Derived.Test.YtcpglhcdllegnabGreatDoorLyKAll
namespace Go.Proofs.YtcpglhcdllegnabGreatDoor
open Go.RowKit Go.Shelf

-- lists: names and words
theorem ld_app {a d cs : List UInt8} (ha : a.all (cs.contains ·) = true) (hd : ∀ b r, d = b :: r → cs.contains b = false) : ldL (a ++ d) cs = a.length := by
  induction a with
  | nil =>
    cases d with
    | nil => rfl
    | cons b r => rw [List.nil_append, ldL_neg (by rw [hd b r rfl]; decide)]; rfl
  | cons b a ih =>
    simp only [List.all_cons, Bool.and_eq_true] at ha
    rw [List.cons_append, ldL_pos ha.1, ih ha.2]; rfl
theorem wordL_app {a e : List UInt8} (ha : a.all (nmB.contains ·) = true) (he : ∀ b r, e = b :: r → nmB.contains b = false) : wordL (a ++ e) = wordD a e := by
  unfold wordL
  rw [ld_app ha he, List.take_left, List.drop_left]
theorem nm_not : ∀ b : UInt8, nmB.contains b = true → ¬ blB.contains b = true ∧ ¬ b = 92 := fun b => byte_all (p := fun b => nmB.contains b = true → ¬ blB.contains b = true ∧ ¬ b = 92) (by decide +kernel) b
theorem gp_nm {l : List UInt8} (h : ∀ b r, l = b :: r → nmB.contains b = true) : gp false l = l := by
  cases l with
  | nil => rfl
  | cons b r => exact gp_stay (nm_not b (h b r rfl)).1 (nm_not b (h b r rfl)).2
theorem all_head {l : List UInt8} (h : l.all (nmB.contains ·) = true) : ∀ b r, l = b :: r → nmB.contains b = true := fun b r e => by subst e; simp only [List.all_cons, Bool.and_eq_true] at h; exact h.1
theorem lone_bad {a e : List UInt8} {b : UInt8} (hb : b ∈ e) (hn : nmB.contains b = false) : lookW loneT ((a ++ e).map smB) = 0 := by
  refine lone_other fun h => ?_
  rw [all_sm] at h
  have := List.all_eq_true.1 h b (List.mem_append_right _ hb)
  simp only [hn] at this
  cases this
/-- The pair's text behind a name. -/
def prE (d : List UInt8) : List UInt8 := d.take (gpN d) ++ (gp false d).take (ldL (gp false d) nmB)
theorem gp_len0 {d : List UInt8} (h : gpN d = 0) : gp false d = d := by have := drop_gp d; rw [h] at this; exact this.symm
theorem prE_head {d : List UInt8} (hd : ∀ b r, d = b :: r → nmB.contains b = false) : ∀ b r, prE d = b :: r → nmB.contains b = false := by
  intro b r e
  unfold prE at e
  by_cases h : gpN d = 0
  · rw [h, gp_len0 h] at e
    cases d with
    | nil => cases e
    | cons c t =>
      rw [ldL_neg (by rw [hd c t rfl]; decide)] at e
      cases e
  · cases d with
    | nil => exact absurd rfl h
    | cons c t =>
      obtain ⟨k, hk⟩ : ∃ k, gpN (c :: t) = k + 1 := ⟨gpN (c :: t) - 1, by omega⟩
      rw [hk] at e
      simp only [List.take_succ_cons, List.cons_append, List.cons.injEq] at e
      exact e.1 ▸ hd c t rfl
theorem pair_app {a d : List UInt8} (ha : a.all (nmB.contains ·) = true) (hd : ∀ b r, d = b :: r → nmB.contains b = false) : pairN (a ++ d) = a.length + (prE d).length ∧ (a ++ d).take (pairN (a ++ d)) = a ++ prE d := by
  have h1 : pairN (a ++ d) = a.length + gpN d + ldL (gp false d) nmB := by
    unfold pairN
    rw [ld_app ha hd, List.drop_left, show (a ++ d).drop (a.length + gpN d) = d.drop (gpN d) from by rw [List.drop_append]; simp, drop_gp]
  have h2 : (prE d).length = gpN d + ldL (gp false d) nmB := by
    unfold prE
    rw [List.length_append, List.length_take, List.length_take]
    have := gpN_le d
    have := ldL_le (gp false d) nmB
    omega
  refine ⟨by omega, ?_⟩
  rw [h1, Nat.add_assoc, List.take_length_add_append, List.take_add, drop_gp]
  rfl
theorem prW_half {a : List UInt8} (h : halfL a = false) : prW (a.map smB) = [] := by
  unfold halfL at h
  rw [half_of, decide_eq_false_iff_not] at h
  unfold prW
  rw [if_neg (fun e => h (.inl e)), if_neg (fun e => h (.inr (.inr (.inl e))))]
structure LegalP (a : List UInt8) : Prop where
  ne : a ≠ []
  bg : begL a = false
  nm : a.all (nmB.contains ·) = true
  wd : wordL a = 0
  hf : halfL a = false
theorem legal_iff (a : List UInt8) : legalL a = true ↔ LegalP a := by
  unfold legalL
  simp only [Bool.and_eq_true, Bool.not_eq_true', beq_iff_eq]
  constructor
  · rintro ⟨⟨⟨⟨h1, h2⟩, h3⟩, h4⟩, h5⟩
    exact ⟨fun e => (by subst e; cases h1), h2, h3, h4, h5⟩
  · rintro ⟨h1, h2, h3, h4, h5⟩
    refine ⟨⟨⟨⟨?_, h2⟩, h3⟩, h4⟩, h5⟩
    cases a with
    | nil => exact absurd rfl h1
    | cons b r => rfl
theorem word_nil {a : List UInt8} (ha : a.all (nmB.contains ·) = true) : wordL a = lookW loneT (a.map smB) := by
  have h := wordL_app (e := []) ha (fun b r e => by cases e)
  rw [List.append_nil] at h
  rw [h]
  unfold wordD
  rw [if_neg (fun h => absurd h.2.1 (Nat.lt_irrefl _)), List.append_nil]
theorem nmN_first {a d : List UInt8} (ha : a.all (nmB.contains ·) = true) (hd : ∀ b r, d = b :: r → nmB.contains b = false) (h1 : wordL a = 0 ∨ colL d = true) (h2 : wordD a (prE d) = 0 ∨ colL ((a ++ d).drop (pairN (a ++ d))) = true) : nmN (a ++ d) = (1, 0, a.length) := by
  unfold nmN
  rw [ld_app ha hd, List.take_left, List.drop_left, (pair_app ha hd).2, wordL_app ha (prE_head hd)]
  rw [if_neg (by rintro ⟨x, y⟩; rcases h1 with h1 | h1; exact x h1; rw [h1] at y; cases y), if_neg (by rintro ⟨x, y⟩; rcases h2 with h2 | h2; exact x h2; rw [h2] at y; cases y)]
theorem wordD_bad {a e : List UInt8} (hp : prW (a.map smB) = []) (ha : wordL a = 0) (hn : a.all (nmB.contains ·) = true) (he : ∀ b r, e = b :: r → nmB.contains b = false) : wordD a e = 0 := by
  unfold wordD
  rw [if_neg (fun h => h.1 hp)]
  cases e with
  | nil => rw [List.append_nil, ← word_nil hn]; exact ha
  | cons b r => exact lone_bad (b := b) (by simp) (he b r rfl)
/-- A name that may be, ahead of whatever else. -/
theorem legal_app {a d : List UInt8} (h : LegalP a) (hd : ∀ b r, d = b :: r → nmB.contains b = false) : nmN (a ++ d) = (1, 0, a.length) :=
  nmN_first h.nm hd (.inl h.wd) (.inl (wordD_bad (prW_half h.hf) h.wd h.nm (prE_head hd)))
theorem word_pair {a t : List UInt8} (ha : a.all (nmB.contains ·) = true) (ht : t.all (nmB.contains ·) = true) : wordL (a ++ 32 :: t) = if ¬ prW (a.map smB) = [] ∧ t.map smB = prW (a.map smB) then 3 else 0 := by
  rw [wordL_app ha (fun b r e => by cases e; decide)]
  unfold wordD
  rw [gp_bl (by decide), gp_nm (all_head ht), lone_bad (b := 32) (by simp) (by decide)]
  simp
def kinL (a : List UInt8) : Bool := wordL (a ++ [32, 116, 111]) == 3 || wordL (a ++ [32, 116, 104, 97, 116]) == 3 || wordL ([115, 117, 98, 106, 101, 99, 116, 32] ++ a) == 3 || wordL ([115, 117, 99, 104, 32] ++ a) == 3
theorem prW_to {l : List UInt8} : prW l = [116, 111] ↔ l = [115, 117, 98, 106, 101, 99, 116] := by
  unfold prW
  split
  · exact ⟨fun _ => by assumption, fun _ => rfl⟩
  · rename_i h
    split
    · exact ⟨fun e => (by cases e), fun e => absurd e h⟩
    · exact ⟨fun e => (by cases e), fun e => absurd e h⟩
theorem prW_that {l : List UInt8} : prW l = [116, 104, 97, 116] ↔ l = [115, 117, 99, 104] := by
  unfold prW
  split
  · rename_i h
    exact ⟨fun e => (by cases e), fun e => (by rw [e] at h; cases h)⟩
  · split
    · exact ⟨fun _ => by assumption, fun _ => rfl⟩
    · rename_i h
      exact ⟨fun e => (by cases e), fun e => absurd e h⟩
theorem if3 (p : Prop) [Decidable p] : ((if p then 3 else 0 : Nat) == 3) = decide p := by by_cases h : p <;> simp [h]
theorem kin_half {a : List UInt8} (ha : a.all (nmB.contains ·) = true) : kinL a = halfL a := by
  unfold kinL halfL
  rw [show ([115, 117, 98, 106, 101, 99, 116, 32] ++ a : List UInt8) = [115, 117, 98, 106, 101, 99, 116] ++ 32 :: a from rfl, show ([115, 117, 99, 104, 32] ++ a : List UInt8) = [115, 117, 99, 104] ++ 32 :: a from rfl,
    show (a ++ [32, 116, 111] : List UInt8) = a ++ 32 :: [116, 111] from rfl, show (a ++ [32, 116, 104, 97, 116] : List UInt8) = a ++ 32 :: [116, 104, 97, 116] from rfl]
  rw [word_pair ha (by decide), word_pair ha (by decide), word_pair (by decide) ha, word_pair (by decide) ha, if3, if3, if3, if3, half_of]
  rw [show (([115, 117, 98, 106, 101, 99, 116] : List UInt8).map smB) = [115, 117, 98, 106, 101, 99, 116] by decide, show (([115, 117, 99, 104] : List UInt8).map smB) = [115, 117, 99, 104] by decide,
    show prW [115, 117, 98, 106, 101, 99, 116] = [116, 111] by decide, show prW [115, 117, 99, 104] = [116, 104, 97, 116] by decide, show (([116, 111] : List UInt8).map smB) = [116, 111] by decide, show (([116, 104, 97, 116] : List UInt8).map smB) = [116, 104, 97, 116] by decide]
  have e1 : (¬ prW (a.map smB) = [] ∧ [116, 111] = prW (a.map smB)) ↔ a.map smB = [115, 117, 98, 106, 101, 99, 116] := by
    rw [← prW_to]
    exact ⟨fun h => h.2.symm, fun h => ⟨by rw [h]; decide, h.symm⟩⟩
  have e2 : (¬ prW (a.map smB) = [] ∧ [116, 104, 97, 116] = prW (a.map smB)) ↔ a.map smB = [115, 117, 99, 104] := by
    rw [← prW_that]
    exact ⟨fun h => h.2.symm, fun h => ⟨by rw [h]; decide, h.symm⟩⟩
  rw [← Bool.decide_or, ← Bool.decide_or, ← Bool.decide_or]
  congr 1
  apply propext
  rw [e1, e2]
  constructor
  · rintro (((h | h) | ⟨_, h⟩) | ⟨_, h⟩)
    · exact .inl h
    · exact .inr (.inr (.inl h))
    · exact .inr (.inl h)
    · exact .inr (.inr (.inr h))
  · rintro (h | h | h | h)
    · exact .inl (.inl (.inl h))
    · exact .inl (.inr ⟨by decide, h⟩)
    · exact .inl (.inl (.inr h))
    · exact .inr ⟨by decide, h⟩
/-- A text that is one name alone. -/
def oneL (a : List UInt8) : Bool := !(a == []) && !begL a && nmB.contains (a.getD 0 0) && nmN a == (1, 0, a.length)
theorem nmN_one {a : List UInt8} {wd : Nat} (h : nmN a = (1, wd, a.length)) : wd = 0 ∧ a.all (nmB.contains ·) = true ∧ wordL a = 0 := by
  unfold nmN at h
  split at h
  · cases h
  · split at h
    · cases h
    · rename_i h1 h2
      simp only [Prod.mk.injEq, true_and] at h
      obtain ⟨rfl, hl⟩ := h
      refine ⟨rfl, (ld_full a nmB).1 hl, ?_⟩
      rw [hl, List.take_length, List.drop_length] at h1
      exact Decidable.byContradiction fun e => h1 ⟨e, rfl⟩
theorem legal_one (a : List UInt8) : legalL a = (oneL a && !kinL a) := by
  cases h : oneL a with
  | true =>
    unfold oneL at h
    simp only [Bool.and_eq_true, Bool.not_eq_true', beq_iff_eq] at h
    obtain ⟨⟨⟨h1, h2⟩, h3⟩, h4⟩ := h
    obtain ⟨_, h5, h6⟩ := nmN_one h4
    rw [kin_half h5]
    unfold legalL
    simp only [h2, h5, h6]
    rw [h1]
    rfl
  | false =>
    rw [Bool.false_and, ← Bool.not_eq_true, legal_iff]
    intro hL
    have h4 := legal_app (d := []) hL (fun b r e => by cases e)
    rw [List.append_nil] at h4
    have h1 : (a == []) = false := by
      cases a with
      | nil => exact absurd rfl hL.ne
      | cons b r => rfl
    have h3 : nmB.contains (a.getD 0 0) = true := by
      cases a with
      | nil => exact absurd rfl hL.ne
      | cons b r => exact all_head hL.nm b r rfl
    unfold oneL at h
    rw [h1, hL.bg, h3, h4] at h
    simp at h
end Go.Proofs.YtcpglhcdllegnabGreatDoor

namespace Go.Proofs.YtcpglhcdllegnabGreatDoor
open Go.RowKit Go.Shelf

theorem lone_head : ∀ e ∈ loneT, 97 ≤ (e.1.headD 0).toNat ∧ (e.1.headD 0).toNat ≤ 122 := by decide +kernel
theorem sm_abc (b : UInt8) (h : 97 ≤ (smB b).toNat ∧ (smB b).toNat ≤ 122) : nmB.contains b = true ∧ ¬ b = 46 ∧ dgB.contains b = false := by
  revert h
  exact byte_all (p := fun b => 97 ≤ (smB b).toNat ∧ (smB b).toNat ≤ 122 → nmB.contains b = true ∧ ¬ b = 46 ∧ dgB.contains b = false) (by decide +kernel) b
theorem look_ex {T : List (List UInt8 × Nat)} {t : List UInt8} (h : ¬ lookW T t = 0) : ∃ e ∈ T, e.1 = t := Decidable.byContradiction fun k => h (look_none fun e he e1 => k ⟨e, he, e1⟩)
/-- A text's first byte is a letter. -/
theorem abc_head {a : List UInt8} (h : 97 ≤ ((a.map smB).headD 0).toNat ∧ ((a.map smB).headD 0).toNat ≤ 122) : begL a = false ∧ nmB.contains (a.getD 0 0) = true ∧ a ≠ [] := by
  cases a with
  | nil => simp at h
  | cons b r =>
    obtain ⟨h1, h2, h3⟩ := sm_abc b (by simpa using h)
    refine ⟨?_, h1, by simp⟩
    unfold begL
    rw [List.headD_cons, h3, Bool.or_false, List.head?_cons]
    simpa using h2
theorem abc_app {a d : List UInt8} (h : begL a = false ∧ nmB.contains (a.getD 0 0) = true ∧ a ≠ []) : begL (a ++ d) = false ∧ nmB.contains ((a ++ d).getD 0 0) = true ∧ a ++ d ≠ [] := by
  cases a with
  | nil => exact absurd rfl h.2.2
  | cons b r => exact ⟨h.1, h.2.1, by simp⟩
/-- The second half of a pair, and how its text lies. -/
structure PairP (n d : List UInt8) : Prop where
  nm : n.all (nmB.contains ·) = true
  hd : ∀ b r, d = b :: r → nmB.contains b = false
  one : n.map smB = [115, 117, 98, 106, 101, 99, 116] ∨ n.map smB = [115, 117, 99, 104]
  gap : (gp false d).length < d.length
  two : (gp false d).map smB = prW (n.map smB)
theorem PairP.ne {n d : List UInt8} (h : PairP n d) : ¬ prW (n.map smB) = [] := by
  rcases h.one with e | e <;> rw [e] <;> decide
theorem word_cases {a : List UInt8} (h : ¬ wordL a = 0) : (a.all (nmB.contains ·) = true) ∨ (∃ n d, a = n ++ d ∧ PairP n d ∧ wordL a = 3) := by
  obtain ⟨n, hn⟩ : ∃ n, a.take (ldL a nmB) = n := ⟨_, rfl⟩
  obtain ⟨d, hd⟩ : ∃ d, a.drop (ldL a nmB) = d := ⟨_, rfl⟩
  have ea : a = n ++ d := by rw [← hn, ← hd, List.take_append_drop]
  have hnm : n.all (nmB.contains ·) = true := hn ▸ all_ld a nmB
  have hdh : ∀ b r, d = b :: r → nmB.contains b = false := fun b r e => head_ld a nmB b r (hd.trans e)
  have hw : wordL a = wordD n d := by unfold wordL; rw [hn, hd]
  by_cases hc : ¬ prW (n.map smB) = [] ∧ (gp false d).length < d.length ∧ (gp false d).map smB = prW (n.map smB)
  · refine .inr ⟨n, d, ea, ⟨hnm, hdh, ?_, hc.2.1, hc.2.2⟩, ?_⟩
    · have := hc.1
      unfold prW at this
      split at this
      · exact .inl (by assumption)
      · split at this
        · exact .inr (by assumption)
        · exact absurd rfl this
    · rw [hw]; unfold wordD; rw [if_pos hc]
  · refine .inl ?_
    cases d with
    | nil => rw [ea, List.append_nil]; exact hnm
    | cons b r =>
      rw [hw] at h
      unfold wordD at h
      rw [if_neg hc] at h
      exact absurd (lone_bad (b := b) (by simp) (hdh b r rfl)) h
theorem word_head {a : List UInt8} (h : ¬ wordL a = 0) : begL a = false ∧ nmB.contains (a.getD 0 0) = true ∧ a ≠ [] := by
  rcases word_cases h with h1 | ⟨n, d, rfl, h1, _⟩
  · rw [word_nil h1] at h
    obtain ⟨e, he, e1⟩ := look_ex h
    exact abc_head (by rw [← e1]; exact lone_head e he)
  · refine abc_app (abc_head ?_)
    rcases h1.one with e | e <;> rw [e] <;> decide
theorem PairP.prE {n d : List UInt8} (h : PairP n d) : (gp false d).all (nmB.contains ·) = true ∧ Go.Proofs.YtcpglhcdllegnabGreatDoor.prE d = d := by
  have h1 : (gp false d).all (nmB.contains ·) = true := by rw [← all_sm, h.two]; exact prW_nm _
  refine ⟨h1, ?_⟩
  unfold Go.Proofs.YtcpglhcdllegnabGreatDoor.prE
  rw [(ld_full _ _).2 h1, List.take_length, ← drop_gp, List.take_append_drop]
theorem PairP.w0 {n d : List UInt8} (h : PairP n d) : wordL n = 0 := by
  rw [word_nil h.nm]
  rcases h.one with e | e <;> rw [e] <;> decide +kernel
/-- A word alone. -/
theorem word_alone {a : List UInt8} (h : ¬ wordL a = 0) : nmN a = (9, wordL a, a.length) := by
  rcases word_cases h with h1 | ⟨n, d, rfl, h1, _⟩
  · unfold nmN
    rw [(ld_full _ _).2 h1, List.take_length, List.drop_length, if_pos ⟨h, rfl⟩]
  · have hp := pair_app h1.nm h1.hd
    rw [h1.prE.2] at hp
    unfold nmN
    rw [ld_app h1.nm h1.hd, List.take_left, if_neg (fun k => k.1 h1.w0), hp.2, hp.1, ← List.length_append, List.drop_length, if_pos ⟨h, rfl⟩]
theorem wordD_32 (a : List UInt8) : wordD a (prE [32, 58]) = 0 := by
  rw [show prE [32, 58] = [32] by decide +kernel]
  unfold wordD
  rw [if_neg (fun k => k.1 (by rw [← k.2.2]; decide)), lone_bad (b := 32) (by simp) (by decide)]
theorem hd32 : ∀ b r, ([32, 58] : List UInt8) = b :: r → nmB.contains b = false := fun b r e => by cases e; decide
/-- Names ahead of a colon. -/
theorem name_colon {a : List UInt8} (h : a.all (nmB.contains ·) = true) : nmN (a ++ [32, 58]) = (1, 0, a.length) := nmN_first h hd32 (.inr (by decide +kernel)) (.inl (wordD_32 a))
theorem gp_app (m : Bool) (l e : List UInt8) (h : gp m l ≠ []) : gp m (l ++ e) = gp m l ++ e := by
  induction l generalizing m with
  | nil => cases m <;> exact absurd rfl h
  | cons b l ih =>
    rw [List.cons_append]
    cases m with
    | true =>
      by_cases hb : b = 10
      · subst hb
        rw [gp_off, gp_ten] at h ⊢
        rw [gp_off, gp_ten]; exact ih false h
      · rw [gp_on hb] at h ⊢
        rw [gp_on hb]; exact ih true h
    | false =>
      by_cases h1 : blB.contains b = true
      · rw [gp_bl h1] at h ⊢
        rw [gp_bl h1]; exact ih false h
      · by_cases h2 : b = 92
        · subst h2
          rw [gp_rem, gp_on (by decide)] at h ⊢
          rw [gp_rem, gp_on (by decide)]; exact ih true h
        · rw [gp_stay h1 h2, gp_stay h1 h2, List.cons_append]
theorem PairP.second {n d : List UInt8} (h : PairP n d) : gp false d ≠ [] := fun e => by
  have := h.two
  rw [e] at this
  exact h.ne this.symm
theorem pair_colon {n d : List UInt8} (h : PairP n d) : nmN (n ++ (d ++ [32, 58])) = (1, 0, n.length) := by
  have hd : ∀ b r, d ++ [32, 58] = b :: r → nmB.contains b = false := fun b r e => by
    cases d with
    | nil => exact absurd h.gap (by simp)
    | cons c t => simp only [List.cons_append, List.cons.injEq] at e; exact h.hd b t (by rw [e.1])
  have hg := gp_app false d [32, 58] h.second
  have hN : gpN (d ++ [32, 58]) = gpN d := by
    unfold gpN
    rw [hg, List.length_append, List.length_append]
    have := h.gap
    omega
  have hE : prE (d ++ [32, 58]) = d := by
    have h1 := h.prE
    unfold prE at h1 ⊢
    rw [hg, hN, ld_app h1.1 hd32, List.take_left, List.take_append_of_le_length (gpN_le d), ← drop_gp, List.take_append_drop]
  refine nmN_first h.nm hd (.inl h.w0) (.inr ?_)
  have hp := pair_app h.nm hd
  rw [hE] at hp
  rw [hp.1, ← List.append_assoc, ← List.length_append, List.drop_left]
  decide +kernel
theorem second_colon {n d : List UInt8} (h : PairP n d) : gp false (d ++ [32, 58]) = gp false d ++ [32, 58] ∧ begL (gp false d) = false ∧ nmB.contains ((gp false d).getD 0 0) = true := by
  refine ⟨gp_app false d [32, 58] h.second, ?_⟩
  have := abc_head (a := gp false d) (by rw [h.two]; rcases h.one with e | e <;> rw [e] <;> decide)
  exact ⟨this.1, this.2.1⟩

-- what stands there, by what is read
theorem pch_name {D : ByteArray → Rat → Prop} {E : ByteArray → Int → Prop} {r : ByteArray} {l c : Int} {ts : List Tok} {R' : ByteArray} {L' C' : Int} (h : Pch D r l c ts R' L' C') (hend : R'.size = 0 ∨ (∃ g code, Rn E R' g code)) {A : List UInt8} (hA : r.data.toList = A) (h0 : A ≠ []) (hB : begL A = false) (hC : nmB.contains (A.getD 0 0) = true) {K WD N : Nat} (hK : nmN A = (K, WD, N)) :
    ∃ t ts2 r2 l2 c2, ts = t :: ts2 ∧ t.k = K ∧ t.wd = WD ∧ t.x.data.toList = A.take N ∧ r2.data.toList = gp false (A.drop N) ∧ Pch D r2 l2 c2 ts2 R' L' C' := by
  subst hA
  cases ts with
  | nil =>
    obtain ⟨rfl, _⟩ := h
    rcases hend with h1 | ⟨g, code, h1⟩
    · exact absurd (List.eq_nil_of_length_eq_zero (by rw [len_list]; exact h1)) h0
    · rcases h1 with ⟨h1, _⟩ | ⟨_, h1, _⟩
      · rw [hB] at h1; cases h1
      · rw [hC] at h1; cases h1
  | cons t ts =>
    obtain ⟨_, _, _, _, ⟨n, hn, hx, hR⟩, r1, r2, e1, e2, hP⟩ := h
    rcases hR with ⟨h1, _⟩ | ⟨_, _, h1, _⟩ | ⟨_, h1, _⟩
    · rw [hB] at h1; cases h1
    · rw [hK] at h1
      simp only [Prod.mk.injEq] at h1
      obtain ⟨rfl, rfl, rfl⟩ := h1
      have hxs : t.x.size = N := by rw [← hx]; exact ext0 r N hn
      have f1 : r1.data.toList = r.data.toList.drop N := by rw [← e1, hxs, ext_back]
      refine ⟨t, ts, r2, _, _, rfl, rfl, rfl, by rw [← hx, ext_front], ?_, hP⟩
      rw [← e2, ext_back, drop_gp, f1]
    · rw [hC] at h1; cases h1
theorem pch_colon {D : ByteArray → Rat → Prop} {E : ByteArray → Int → Prop} {r : ByteArray} {l c : Int} {ts : List Tok} {R' : ByteArray} {L' C' : Int} (h : Pch D r l c ts R' L' C') (hend : R'.size = 0 ∨ (∃ g code, Rn E R' g code)) (hA : r.data.toList = [58]) :
    ∃ t, ts = [t] ∧ t.k = 5 ∧ R'.size = 0 := by
  obtain rfl : r = ⟨#[58]⟩ := ba_eq hA
  have b1 : begL (⟨#[58]⟩ : ByteArray).data.toList = false := by decide
  have b2 : nmB.contains ((⟨#[58]⟩ : ByteArray).data.toList.getD 0 0) = false := by decide +kernel
  have b3 : ∀ j, j < 9 → (sgX j).data.toList.isPrefixOf (⟨#[58]⟩ : ByteArray).data.toList = false := by decide +kernel
  have b4 : (sgX 9).data.toList.isPrefixOf (⟨#[58]⟩ : ByteArray).data.toList = true := by decide +kernel
  cases ts with
  | nil =>
    obtain ⟨rfl, _⟩ := h
    rcases hend with h1 | ⟨g, code, h1⟩
    · exact absurd h1 (by decide)
    · rcases h1 with ⟨h1, _⟩ | ⟨_, _, h1, _⟩
      · rw [b1] at h1; cases h1
      · have := h1 9 (by decide); rw [b4] at this; cases this
  | cons t ts =>
    obtain ⟨_, _, _, _, ⟨n, hn, hx, hR⟩, r1, r2, e1, e2, hP⟩ := h
    rcases hR with ⟨h1, _⟩ | ⟨_, h1, _⟩ | ⟨_, _, _, _, i, hi, y1, y2, y3, y4⟩
    · rw [b1] at h1; cases h1
    · rw [b2] at h1; cases h1
    · have hi9 : i = 9 := by
        by_cases h9 : i < 9
        · have := b3 i h9; rw [y1] at this; cases this
        · omega
      subst hi9
      have hxs : t.x.size = 1 := by rw [← hx, ext0 _ n hn, y4]; rfl
      have f1 : r1.size = 0 := by rw [← e1, size_extract _ _ _ (Nat.le_refl _), hxs]; rfl
      have f2 : r2.size = 0 := by rw [← e2, size_extract _ _ _ (Nat.le_refl _), f1]; omega
      cases ts with
      | nil =>
        obtain ⟨rfl, _⟩ := hP
        exact ⟨t, rfl, y3, f2⟩
      | cons t2 ts =>
        have := hP.1
        omega
theorem pch_end {D : ByteArray → Rat → Prop} {r : ByteArray} {l c : Int} {ts : List Tok} {R' : ByteArray} {L' C' : Int} (h : Pch D r l c ts R' L' C') (hA : r.data.toList = []) : ts = [] ∧ R'.size = 0 := by
  have h0 : r.size = 0 := by rw [← len_list, hA]; rfl
  cases ts with
  | nil =>
    obtain ⟨rfl, _⟩ := h
    exact ⟨rfl, h0⟩
  | cons t ts =>
    have := h.1
    omega
end Go.Proofs.YtcpglhcdllegnabGreatDoor

namespace Go.Proofs.YtcpglhcdllegnabGreatDoor
open Go.RowKit Go.Shelf

/-- The errors that a fault may bear. -/
structure Ers (w : World) : Prop where
  N : ∃ ev, Errs w 11 ev
  X : ∃ ev, Errs w 12 ev
  D : ∃ ev, Errs w 0 ev
  C : ∃ ev, Errs w 4 ev
theorem Ers.below {w w' : World} (h : Ers w) (hb : Below w.heap.size w w') : Ers w' := by
  obtain ⟨⟨a, h1⟩, ⟨b, h2⟩, ⟨c, h3⟩, ⟨d, h4⟩⟩ := h
  exact ⟨⟨a, h1.below hb⟩, ⟨b, h2.below hb⟩, ⟨c, h3.below hb⟩, ⟨d, h4.below hb⟩⟩
theorem Ers.at {E : ByteArray → Int → Prop} {w : World} (h : Ers w) {R : ByteArray} {g : Nat} {code : Int} (r : Rn E R g code) : ∃ ev, Errs w g ev := by
  rcases r with ⟨_, _, _, ⟨rfl, _⟩ | ⟨rfl, _⟩ | ⟨rfl, _⟩⟩ | ⟨_, _, _, rfl, _⟩
  · exact h.N
  · exact h.X
  · exact h.D
  · exact h.C
/-- Scan answers these tokens. -/
def ScanOk (s : ByteArray) (ts : List Tok) : Prop := ∀ w, Tabs w → Calls Tryz.prog 7 #[.string s] w fun e w' => (∃ v, e = .returned (.tuple #[v, .nilIface]) ∧ (ts = [] → v = .slice none 0 0) ∧ (ts ≠ [] → ∃ g cap, v = .slice (some ⟨g, 0, none⟩) ts.length cap ∧ w.heap.size ≤ g ∧ ∀ i t, ts[i]? = some t → TkAt w' w.heap.size g i t)) ∧ Below w.heap.size w w'
/-- Scan answers a fault there. -/
def ScanNo (s : ByteArray) (g : Nat) (L' C' : Int) : Prop := ∀ w ev, Errs w g ev → Tabs w → Calls Tryz.prog 7 #[.string s] w fun e w' => (∃ F, e = .returned (.tuple #[.slice none 0 0, .iface 71 (.pointer (some ⟨F, 0, none⟩))]) ∧ Rw 75 w' F #[.int .i64 L', .int .i64 C', ev] ∧ w.heap.size ≤ F) ∧ Below w.heap.size w w'
theorem scan_all {D : ByteArray → Rat → Prop} {E : ByteArray → Int → Prop} (hD : PD D E) (s : ByteArray) (hs : s.size ≤ 1048576) : ∃ r0 ts R' L' C', r0.data.toList = gp false s.data.toList ∧ Pch D r0 (ovL (s.extract 0 (gpN s.data.toList)) 1) (ovC (s.extract 0 (gpN s.data.toList)) 1) ts R' L' C' ∧ ts.length ≤ s.size ∧
    ((R'.size = 0 ∧ ScanOk s ts) ∨ (0 < R'.size ∧ ∃ g code, Rn E R' g code ∧ ScanNo s g L' C')) := by
  obtain ⟨g, hg⟩ : ∃ g, gpN s.data.toList = g := ⟨_, rfl⟩
  have hgs : g ≤ s.size := by rw [← hg, ← len_list]; exact gpN_le _
  obtain ⟨r0, hr0⟩ : ∃ r0, s.extract g s.size = r0 := ⟨_, rfl⟩
  have hrs : r0.size = s.size - g := by rw [← hr0, size_extract _ _ _ (Nat.le_refl _)]
  have hxs := ext0 s g hgs
  obtain ⟨l0, hl0⟩ : ∃ l0, ovL (s.extract 0 g) 1 = l0 := ⟨_, rfl⟩
  obtain ⟨c0, hc0⟩ : ∃ c0, ovC (s.extract 0 g) 1 = c0 := ⟨_, rfl⟩
  have a1 := ovL_bd (x := s.extract 0 g) (l := 1) (by omega)
  have a2 := ovC_bd (x := s.extract 0 g) (c := 1) (by omega)
  rw [hl0] at a1
  rw [hc0] at a2
  obtain ⟨ts, R', L', C', p1, p2, p3, p4, p5⟩ := chn_all hD r0.size r0 l0 c0 (Nat.le_refl _) (by omega) a1.1 (by omega) a2.1 (by omega)
  refine ⟨r0, ts, R', L', C', by rw [← hr0, ext_back, ← hg, drop_gp], by rw [hg, hl0, hc0]; exact p2, by omega, ?_⟩
  rcases p5 with h | ⟨h, e, code, h1, h2⟩
  · exact .inl ⟨h, fun w hT => scanQ s r0 R' g l0 c0 L' C' ts w (by omega) hg hr0 hl0 hc0 p1 (by omega) h hT⟩
  · exact .inr ⟨h, e, code, h1, fun w ev hE hT => scanE s r0 R' g l0 c0 L' C' ts w (by omega) hg hr0 hl0 hc0 p1 (by omega) h h2 hE hT⟩
theorem sgK_name : ∀ i, i < 10 → sgK i ≠ 1 := by decide
theorem gp_same {l : List UInt8} (h : (gp false l).length = l.length) : gp false l = l := by
  obtain ⟨p, hp⟩ := gp_suf false l
  have := congrArg List.length hp
  rw [List.length_append] at this
  have h0 : p = [] := List.eq_nil_of_length_eq_zero (by omega)
  rw [h0, List.nil_append] at hp
  exact hp.symm
theorem one_parts {a : List UInt8} (h : oneL a = true) : a ≠ [] ∧ begL a = false ∧ nmB.contains (a.getD 0 0) = true ∧ nmN a = (1, 0, a.length) := by
  unfold oneL at h
  simp only [Bool.and_eq_true, Bool.not_eq_true', beq_iff_eq] at h
  exact ⟨fun e => by rw [e] at h; simp at h, h.1.1.2, h.1.2, h.2⟩
theorem gp_head {a : List UInt8} (h : nmB.contains (a.getD 0 0) = true) : gp false a = a := gp_nm fun b r e => by subst e; exact h
theorem one_yes {D : ByteArray → Rat → Prop} {E : ByteArray → Int → Prop} {s r0 R' : ByteArray} {l c L' C' : Int} {ts : List Tok} (hr0 : r0.data.toList = gp false s.data.toList) (hP : Pch D r0 l c ts R' L' C') (hend : R'.size = 0 ∨ (∃ g code, Rn E R' g code)) (h : oneL s.data.toList = true) : R'.size = 0 ∧ ∃ t, ts = [t] ∧ t.k = 1 ∧ t.x = s := by
  obtain ⟨h1, h2, h3, h4⟩ := one_parts h
  rw [gp_head h3] at hr0
  obtain ⟨t, ts2, r2, l2, c2, rfl, k1, _, k2, k3, k4⟩ := pch_name hP hend hr0 h1 h2 h3 h4
  rw [List.drop_length] at k3
  obtain ⟨rfl, k5⟩ := pch_end k4 k3
  exact ⟨k5, t, rfl, k1, ba_eq (by rw [k2, List.take_length])⟩
theorem one_no {D : ByteArray → Rat → Prop} {s r0 R' : ByteArray} {l c L' C' : Int} {t : Tok} (hr0 : r0.data.toList = gp false s.data.toList) (hP : Pch D r0 l c [t] R' L' C') (h : oneL s.data.toList = false) (hk : t.k = 1) : ¬ t.x = s := by
  intro hx
  obtain ⟨h0, _, _, _, ⟨n, hn, hx2, hR⟩, _⟩ := hP
  rw [hx] at hx2
  have e1 : s.size = n := by rw [← hx2]; exact ext0 r0 n hn
  have e2 : r0.data.toList.length = s.data.toList.length := by
    have := gp_len false s.data.toList
    rw [← hr0] at this
    rw [len_list] at this ⊢
    rw [len_list] at this ⊢
    omega
  have e3 : gp false s.data.toList = s.data.toList := gp_same (by rw [← hr0]; exact e2)
  obtain rfl : r0 = s := ba_eq (hr0.trans e3)
  rcases hR with ⟨_, h1, _⟩ | ⟨b1, b2, b3, _⟩ | ⟨_, _, _, _, i, hi, _, _, h1, _⟩
  · omega
  · rw [hk, ← e1, ← len_list] at b3
    obtain ⟨e, _⟩ := nmN_one b3
    rw [e] at b3
    have b4 : (r0.data.toList == []) = false := by
      cases hl : r0.data.toList with
      | nil => have := len_list r0; rw [hl] at this; simp at this; omega
      | cons b r => rfl
    unfold oneL at h
    rw [b4, b1, b2, b3] at h
    simp at h
  · exact sgK_name i hi (by omega)
end Go.Proofs.YtcpglhcdllegnabGreatDoor

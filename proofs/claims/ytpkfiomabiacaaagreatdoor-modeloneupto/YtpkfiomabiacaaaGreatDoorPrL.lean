import Derived.Test.YtpkfiomabiacaaaGreatDoorPrK
namespace Go.Proofs.YtpkfiomabiacaaaGreatDoor
open Go.RowKit Go.Maps

theorem own_below {w w' : World} {k : TypeId} {R : Value → Option (DataW Value × List MemPlace)} {b n : Nat} {D : DataW Value} (h : w.ownsMap Tryz.prog k R b n D) (hb : Below w.heap.size w w') : w'.ownsMap Tryz.prog k R b n D := by
  have hl := h.lt
  obtain ⟨es, c, e1, e2⟩ := h
  exact ⟨es, c, (hb.block b hl).trans e1, e2⟩
/-- The names that are taken behind j claims. -/
def Tkn (T : Txt) (j : Nat) (s : ByteArray) : Prop := s = T.nm ∨ ∃ q, q < j ∧ (T.C q).nm = s ∧ s.data.toList ≠ []
set_option maxRecDepth 100000 in
set_option maxHeartbeats 8000000 in
/-- takenNames(t), no name twice. -/
theorem takenQ (T : Txt) (w : World) (hT : TX w T) (hK : T.K ≤ 1048576) (hnd : ∀ j, j < T.cn → (T.C j).nm.data.toList ≠ [] → ¬ Tkn T j (T.C j).nm) :
    Calls Tryz.prog 61 #[T.val] w fun e w' => ∃ b D, e = .returned (.tuple #[.map (some b), .nilIface]) ∧ w'.ownsMap Tryz.prog 9 rawR b (T.cn + 1) D ∧ w.heap.size ≤ b ∧ (∀ s, Maps.has D (kS s) = true ↔ Tkn T T.cn s) ∧ (∀ s, D.atKey (kS s) (.held (.agg #[])) = .held (.agg #[])) ∧ Below w.heap.size w w' := by
  have hnm : T.nm.size ≤ 1000000000 := by have := hT.all; omega
  have hcn : T.cn ≤ 1048576 := by have := hT.all; have := tot_len T.ZC T.cn; omega
  have HND : Hid (∀ j, j < T.cn → (T.C j).nm.data.toList ≠ [] → ¬ Tkn T j (T.C j).nm) := hnd
  clear hnd
  have hmm := @run_makeMap Tryz.prog
  have R0 := Rw.new 72 w #[.bool T.mx, .string T.nm, .slice T.ia T.n T.ic, .slice T.ca T.cn T.cc, .slice none 0 0, .slice none 0 0, .slice none 0 0]
  have hb0 := bel_d0 w (.cells #[.bool T.mx, .string T.nm, .slice T.ia T.n T.ic, .slice T.ca T.cn T.cc, .slice none 0 0, .slice none 0 0, .slice none 0 0] 72)
  have es : (w.alloc (.cells #[.bool T.mx, .string T.nm, .slice T.ia T.n T.ic, .slice T.ca T.cn T.cc, .slice none 0 0, .slice none 0 0, .slice none 0 0] 72)).heap.size = w.heap.size + 1 := by simp
  have M0 := World.ownsMap_made (w.alloc (.cells #[.bool T.mx, .string T.nm, .slice T.ia T.n T.ic, .slice T.ca T.cn T.cc, .slice none 0 0, .slice none 0 0, .slice none 0 0] 72)) Tryz.prog 9 rawR
  rw [es] at M0
  have R1 := R0.alloc (.map #[] 0)
  have hb1 := bel_tr hb0 (bel_d0 (w.alloc (.cells #[.bool T.mx, .string T.nm, .slice T.ia T.n T.ic, .slice T.ca T.cn T.cc, .slice none 0 0, .slice none 0 0, .slice none 0 0] 72)) (.map #[] 0))
  have hIM := M0.isMap
  obtain ⟨w3, hrun0, ho, hg⟩ := M0.update (string_keyed Tryz.underlying9) Tryz.underlying106 (by decide) (keyS hnm) (val := .agg #[]) (d := .held (.agg #[])) (ps := []) rfl
  have es2 : ((w.alloc (.cells #[.bool T.mx, .string T.nm, .slice T.ia T.n T.ic, .slice T.ca T.cn T.cc, .slice none 0 0, .slice none 0 0, .slice none 0 0] 72)).alloc (.map #[] 0)).heap.size = w.heap.size + 1 + 1 := by simp
  have R3 := R1.kept hg (fun e => by simp at e)
  have hb3 := hb1.trans (grown_below hg (by omega) (fun k e => by cases e; omega))
  have x3 := (R3.cell 3).trans (show _ = some (.slice T.ca T.cn T.cc) from rfl)
  have h3 : ∀ s, Maps.has ((DataW.map [] : DataW Value).put (kS T.nm) (.held (.agg #[]))) (kS s) = true ↔ Tkn T 0 s := by
    intro s
    by_cases e : s = T.nm
    · subst e
      rw [has_put_same hIM (key_str _)]
      exact ⟨fun _ => .inl rfl, fun _ => rfl⟩
    · rw [has_put_other (fun e2 => e (kS_inj e2))]
      constructor
      · intro h; cases h
      · rintro (h | ⟨q, hq, _⟩)
        · exact absurd h e
        · omega
  have v3 : ∀ s, ((DataW.map [] : DataW Value).put (kS T.nm) (.held (.agg #[]))).atKey (kS s) (.held (.agg #[])) = .held (.agg #[]) := by
    intro s
    by_cases e : s = T.nm
    · subst e
      exact atKey_put_same hIM (key_str _) _ _
    · rw [atKey_put_other (fun e2 => e (kS_inj e2))]
      rfl
  clear R0 R1 M0 hb0 hb1 es es2 hg
  unfold Txt.val
  go_enter Tryz.func61, Tryz.ntmps61
  go_wp2
  clear hmm hrun0
  go_loopw [17] (fun s17 wr => ∃ (j : Nat) (D : DataW Value), j ≤ T.cn ∧ s17 = .int .i64 j ∧ wr.ownsMap Tryz.prog 9 rawR (w.heap.size + 1) (j + 1) D ∧ (∀ s, Maps.has D (kS s) = true ↔ Tkn T j s) ∧ (∀ s, D.atKey (kS s) (.held (.agg #[])) = .held (.agg #[])) ∧ Below w.heap.size w wr) (fun s17 _ => T.cn - (intOf s17).toNat)
  case atStart => exact ⟨0, _, Nat.zero_le _, rfl, ho, h3, v3, hb3⟩
  case round =>
    clear ho h3 v3 hb3 x3 R3
    obtain ⟨j, D, hj, rfl, hO, hH, hV, hB⟩ := hrel
    by_cases hlt : j < T.cn
    · have hkI : (j : Int) < (T.cn : Int) := by omega
      have hkI2 : (j : Int) * 12 = ((j * 12 : Nat) : Int) := by omega
      have hal := hT.all
      have hnj := HND.out j hlt
      rcases hT.c with h0 | ⟨cb, co, eca, hel⟩
      · omega
      have hC := hel j hlt
      have hZj := tot_le (Z := T.ZC) hlt
      have hns : (T.C j).nm.size ≤ 1000000000 := by have := hC.snm; omega
      obtain ⟨nm, enm⟩ : ∃ x, x = (T.C j).nm := ⟨_, rfl⟩
      obtain ⟨ln, eln⟩ : ∃ x, x = (T.C j).ln := ⟨_, rfl⟩
      obtain ⟨cl, ecl⟩ : ∃ x, x = (T.C j).cl := ⟨_, rfl⟩
      obtain ⟨n, en⟩ : ∃ x, x = (T.C j).n := ⟨_, rfl⟩
      obtain ⟨hl, ehl⟩ : ∃ x, x = (T.C j).hlo := ⟨_, rfl⟩
      obtain ⟨hh, ehh⟩ : ∃ x, x = (T.C j).hhi := ⟨_, rfl⟩
      have x0 := kept_c hB hC.nm
      have x1 := kept_c hB hC.ln
      have x2 := kept_c hB hC.cl
      obtain ⟨ia, ic, Zi, x3, _, _, _⟩ := hC.items
      have x4 := kept_c hB hC.hlo
      obtain ⟨p2, a2, n2, k2, d2, m2, l2, x5, x6, x7, _⟩ := hC.lo
      have x8 := kept_c hB hC.hhi
      obtain ⟨p3, a3, n3, k3, d3, m3, l3, x9, x10, x11, _⟩ := hC.hi
      replace x3 := kept_c hB x3
      replace x5 := kept_c hB x5
      replace x6 := kept_c hB x6
      replace x7 := kept_c hB x7
      replace x9 := kept_c hB x9
      replace x10 := kept_c hB x10
      replace x11 := kept_c hB x11
      rw [← enm] at x0 hns hnj
      rw [← eln] at x1
      rw [← ecl] at x2
      rw [← en] at x3
      rw [← ehl] at x4
      rw [← ehh] at x8
      have EN : Hid (nm = (T.C j).nm) := enm
      clear hel hC enm eln ecl en ehl ehh
      have hz0 := bel_d0 wr (.cells #[.string nm, .int .i64 ln, .int .i64 cl, .slice ia n ic, .bool hl, .bool p2, .slice a2 n2 k2, .slice d2 m2 l2, .bool hh, .bool p3, .slice a3 n3 k3, .slice d3 m3 l3] 67)
      have O4 := own_below hO hz0
      have hB4 := bel_tr hB hz0
      rw [eca]
      by_cases he : nm.data.toList = []
      · have he2 : nm.toList = [] := by rw [ByteArray.toList_eq]; exact he
        have he3 : nm.toList.isEmpty = true := by simpa using he2
        have HN : ∀ s, Maps.has D (kS s) = true ↔ Tkn T (j + 1) s := fun s => (hH s).trans (by
          constructor
          · rintro (h | ⟨q, hq, h1, h2⟩)
            · exact .inl h
            · exact .inr ⟨q, by omega, h1, h2⟩
          · rintro (h | ⟨q, hq, h1, h2⟩)
            · exact .inl h
            · rcases (by omega : q < j ∨ q = j) with h3 | rfl
              · exact .inr ⟨q, h3, h1, h2⟩
              · rw [← EN.out] at h1; rw [← h1] at h2; exact absurd he h2)
        have O5 := O4.mono (Nat.le_succ (j + 1))
        clear hO O4 hB hz0 hH
        go_wp2
        go_roundw
        case rel => exact ⟨j + 1, D, by omega, by go_num, O5, HN, hV, hB4⟩
        case measure => simp [intOf]; omega
      · have he2 : ¬ nm.toList = [] := by rw [ByteArray.toList_eq]; exact he
        have he3 : nm.toList.isEmpty = false := by simpa using he2
        have hno : ¬ Tkn T j nm := hnj he
        have hh0 : Maps.has D (kS nm) = false := by
          cases e : Maps.has D (kS nm)
          · rfl
          · exact absurd ((hH nm).1 e) hno
        obtain ⟨x, y, hrun, hx⟩ := O4.look_ok (string_keyed Tryz.underlying9) (t := 106) (e := 140) Tryz.underlying106 (z := .agg #[]) (Tryz.zeroValue140 _) (zd := .held (.agg #[])) (zp := []) rfl (keyS hns)
        rw [hh0] at hrun
        rw [atKey_of_not_has hh0] at hx
        simp only [rawR, Option.some.injEq, Prod.mk.injEq, DataW.held.injEq] at hx
        obtain ⟨rfl, _⟩ := hx
        have hz1 := bel_d0 (wr.alloc (.cells #[.string nm, .int .i64 ln, .int .i64 cl, .slice ia n ic, .bool hl, .bool p2, .slice a2 n2 k2, .slice d2 m2 l2, .bool hh, .bool p3, .slice a3 n3 k3, .slice d3 m3 l3] 67)) (.cells #[] 140)
        have O5 := own_below O4 hz1
        have hB5 := bel_tr hB4 hz1
        obtain ⟨w6, hrun6, ho6, hg6⟩ := O5.update (string_keyed Tryz.underlying9) Tryz.underlying106 (by unfold maxLen; omega) (keyS hns) (val := .agg #[]) (d := .held (.agg #[])) (ps := []) rfl
        have hIM := hO.isMap
        have hs5 := hB5.size
        have BN : Below w.heap.size w w6 := hB5.trans (grown_below hg6 hs5 (fun k e => by cases e; omega))
        have HN : ∀ s, Maps.has (D.put (kS nm) (.held (.agg #[]))) (kS s) = true ↔ Tkn T (j + 1) s := fun s => by
          by_cases e : s = nm
          · subst e
            rw [has_put_same hIM (key_str _)]
            exact ⟨fun _ => .inr ⟨j, by omega, EN.out.symm, he⟩, fun _ => rfl⟩
          · rw [has_put_other (fun e2 => e (kS_inj e2)), hH s]
            constructor
            · rintro (h | ⟨q, hq, h1, h2⟩)
              · exact .inl h
              · exact .inr ⟨q, by omega, h1, h2⟩
            · rintro (h | ⟨q, hq, h1, h2⟩)
              · exact .inl h
              · rcases (by omega : q < j ∨ q = j) with h3 | rfl
                · exact .inr ⟨q, h3, h1, h2⟩
                · exact absurd (h1.symm.trans EN.out.symm) e
        have VN : ∀ s, (D.put (kS nm) (.held (.agg #[]))).atKey (kS s) (.held (.agg #[])) = .held (.agg #[]) := fun s => by
          by_cases e : s = nm
          · subst e
            exact atKey_put_same hIM (key_str _) _ _
          · rw [atKey_put_other (fun e2 => e (kS_inj e2))]
            exact hV s
        have n0 := kept_c hz1 (box_new wr #[.string nm, .int .i64 ln, .int .i64 cl, .slice ia n ic, .bool hl, .bool p2, .slice a2 n2 k2, .slice d2 m2 l2, .bool hh, .bool p3, .slice a3 n3 k3, .slice d3 m3 l3] 67 0 _ rfl)
        clear hO O4 O5 hB hB4 hB5 hz0 hz1 hH hg6
        go_wp2
        go_roundw
        case rel => exact ⟨j + 1, _, by omega, by go_num, ho6, HN, VN, BN⟩
        case measure => simp [intOf]; omega
    · have hkI : ¬ (j : Int) < (T.cn : Int) := by omega
      obtain rfl : j = T.cn := by omega
      go_wp2
      exact bodyPost_ret (v := .tuple #[.map (some (w.heap.size + 1)), .nilIface]) (by simp [results, Tryz.results61, go_sem]) rfl ⟨w.heap.size + 1, rfl, D, hO, by omega, hH, hV, hB⟩
end Go.Proofs.YtpkfiomabiacaaaGreatDoor

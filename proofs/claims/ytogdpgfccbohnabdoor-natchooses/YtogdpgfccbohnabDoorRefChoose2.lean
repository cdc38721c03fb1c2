import Derived.Test.YtogdpgfccbohnabDoorRefChoose
namespace Go.Proofs.YtogdpgfccbohnabDoor
open Go.RowKit

theorem chs_pas (i j : Nat) (hi : 1 ≤ i) (hj : 1 ≤ j) : ((chs (i - 1) (j - 1) : Nat) : Int) + ((chs (i - 1) j : Nat) : Int) = ((chs i j : Nat) : Int) := by
  obtain ⟨a, rfl⟩ : ∃ a, i = a + 1 := ⟨i - 1, by omega⟩
  obtain ⟨b, rfl⟩ : ∃ b, j = b + 1 := ⟨j - 1, by omega⟩
  simp only [Nat.add_sub_cancel]
  rw [← Int.natCast_add]; rfl
theorem rnormG {a : Option Addr} {na ca : Nat} {x : Int} {S : Nat} (w : World) (h : Num w a na ca x S) (hS : S ≤ 400000000) :
    Calls Tryd.prog 53 #[.slice a na ca] w fun e w' => ∃ c n cc, e = .returned (.slice c n cc) ∧ Got w' w.heap.size (.slice c n cc) x S ∧ Below w.heap.size w w' := by
  obtain ⟨xs, a1, a2, a3, a4, a5, a6⟩ := h
  have t1 : tlen xs ≤ xs.length := tl_le _ _
  refine (rnorm_any a na ca xs w a1 a2 (by omega) a3 a4).mono ?_
  rintro e w' ⟨c, cc, rfl, ho, hb⟩
  exact ⟨c, _, cc, rfl, ⟨trimL xs, ho, NF.trimL a4, by rw [val_trimL]; exact a5, by rw [length_trimL]; omega⟩, hb⟩

set_option maxRecDepth 100000 in
set_option maxHeartbeats 1000000 in
/-- The document's choice, by Pascal's rule. -/
theorem rchooseG (n k : Nat) (w : World) (hn : n ≤ 300) (hk : k ≤ n) :
    Calls Tryd.prog 23 #[.int .i64 n, .int .i64 k] w fun e w' => ∃ c m cc, e = .returned (.slice c m cc) ∧ Got w' w.heap.size (.slice c m cc) (chs n k) 5 ∧ Below w.heap.size w w' := by
  obtain ⟨M, hM1, hM2, HM⟩ : ∃ M : Nat, M ≤ k ∧ M ≤ n - k ∧ Hid (chs n M = chs n k ∧ (M = k ∨ M = n - k)) := by
    rcases Nat.lt_or_ge (n - k) k with h | h
    · exact ⟨n - k, by omega, by omega, chs_symm hk, .inr rfl⟩
    · exact ⟨k, by omega, by omega, rfl, .inl rfl⟩
  have hkn : ¬ (n : Int) < (k : Int) := by omega
  have T0 := tri_one w 0
  have hb0 : Below w.heap.size w ((w.alloc (.cells #[Value.int .u64 1] 43)).alloc (.cells #[.slice (some ⟨w.heap.size, 0, none⟩) 1 1] 23)) := ((Below.refl _ _).alloc (Nat.le_refl _) _).alloc (by simp) _
  by_cases hlt : n - k < k
  · have hMI : (n : Int) - (k : Int) = (M : Int) := by have := HM.out.2; omega
    have hMI2 : (M : Int) < (k : Int) := by omega
    go_wp2
    go_loopw [6, 7] (fun rv s wr => ∃ (i g cap L : Nat), 1 ≤ i ∧ i ≤ n + 1 ∧ s = .int .i64 i ∧ rv = .slice (some ⟨g, 0, none⟩) L cap ∧ L ≤ i ∧ L ≤ M + 1 ∧ (L = i ∨ L = M + 1) ∧ Tri wr w.heap.size w.heap.size rv (i - 1) L ∧ Below w.heap.size w wr) (fun _ s _ => n + 1 - (intOf s).toNat)
    case atStart => exact ⟨1, w.heap.size + 1, 1, 1, by omega, by omega, rfl, rfl, by omega, by omega, .inl rfl, T0.mono (by omega), hb0⟩
    case round =>
      clear T0 hb0
      obtain ⟨i, g, cap, L, hi1, hi2, rfl, rfl, hL1, hL2, hL3, TR, hbel⟩ := hrel
      by_cases hin : i ≤ n
      · have hinI : (i : Int) ≤ (n : Int) := by omega
        have hgr : g < wr.heap.size := by obtain ⟨vs, t, _⟩ := TR; exact (t.lt g rfl).2
        have hb1 : Below wr.heap.size wr ((wr.alloc (.cells #[Value.int .u64 1] 43)).alloc (.cells #[.slice (some ⟨wr.heap.size, 0, none⟩) 1 1] 23)) := ((Below.refl _ _).alloc (Nat.le_refl _) _).alloc (by simp) _
        have TN0 := tri_one wr i
        have TR0 := TR.below hb1
        have hbel0 := bel_tr hbel hb1
        have hsz := hbel.size
        have TN0' : Tri ((wr.alloc (.cells #[Value.int .u64 1] 43)).alloc (.cells #[.slice (some ⟨wr.heap.size, 0, none⟩) 1 1] 23)) w.heap.size (wr.heap.size + 1) (.slice (some ⟨wr.heap.size + 1, 0, none⟩) 1 1) i 1 := by
          obtain ⟨vs, t1, t2, t3⟩ := TN0
          exact ⟨vs, t1, t2, fun q hq => by obtain ⟨v, e, G⟩ := t3 q hq; exact ⟨v, e, G.mono hsz⟩⟩
        obtain ⟨H0, hH0⟩ : ∃ H0, H0 = wr.heap.size + 1 := ⟨_, rfl⟩
        rw [← hH0] at TN0'
        have hgH : g < H0 := by omega
        have hwH : w.heap.size ≤ H0 := by omega
        have HSA : Hid (H0 ≤ ((wr.alloc (.cells #[Value.int .u64 1] 43)).alloc (.cells #[.slice (some ⟨wr.heap.size, 0, none⟩) 1 1] 23)).heap.size) := by show _ ≤ _; simp; omega
        have HH0 : Hid (wr.heap.size + 1 = H0) := hH0.symm
        clear TN0 TR hbel hb1 hH0
        go_wp2
        go_loopw [8, 9] (fun nv s wr => ∃ (j : Nat), 1 ≤ j ∧ (j ≤ i + 1 ∧ j ≤ M + 1) ∧ s = .int .i64 j ∧ Tri wr w.heap.size H0 nv i j ∧ Tri wr w.heap.size w.heap.size (.slice (some ⟨g, 0, none⟩) L cap) (i - 1) L ∧ (∀ k, nv.ownBlock = some k → H0 ≤ k) ∧ Below w.heap.size w wr ∧ H0 ≤ wr.heap.size) (fun _ s _ => M + 2 - (intOf s).toNat)
        case atStart => exact ⟨1, by omega, by omega, rfl, (by rw [HH0.out]; exact TN0'), TR0, fun k hk => by simp only [Value.ownBlock, Option.some.injEq] at hk; have := HH0.out; omega, hbel0, HSA.out⟩
        case round =>
          clear TN0' TR0 hbel0 HSA HH0
          obtain ⟨j, hj1, hj2, rfl, TN, TR, hnb, hbel, hszr⟩ := hrel
          obtain ⟨hj2, hj3⟩ := hj2
          by_cases hji1 : j ≤ i
          · by_cases hji2 : j ≤ M
            · skip
              obtain ⟨vs, hTN, hvs, hGN⟩ := TN
              have HVS : Hid (vs.length = j) := hvs
              clear hvs
              obtain ⟨ga, gc, er, hcap, hcells⟩ := TR.at (by omega)
              simp only [Value.slice.injEq, Option.some.injEq, Addr.mk.injEq, and_true] at er
              obtain ⟨eg, _, ec⟩ := er
              subst eg ec
              obtain ⟨a1, n1, c1, hc1, G1⟩ := hcells (j - 1) (by omega)
              have hji : (j : Int) - 1 < (L : Int) := by omega
              have hj0 : (0 : Int) ≤ (j : Int) - 1 := by omega
              have hidx : ((j : Int) - 1).toNat = j - 1 := by omega
              have hle1 : (j : Int) ≤ (i : Int) := by omega
              have hle2 : (j : Int) ≤ (M : Int) := by omega
              go_wp2_with fail
              refine (rnormG _ G1.num (by omega)).mono ?_
              rintro e w2 ⟨a2, n2, c2, rfl, GS, hb⟩
              replace GS := GS.mono (B' := w.heap.size) hbel.size
              have TR' := TR.below hb
              have hTN' := hTN.below hb
              have hGN' : ∀ q, q < j → ∃ v, vs[q]? = some v ∧ Got w2 w.heap.size v (chs i q) 5 := fun q hq => by obtain ⟨v, e, G⟩ := hGN q hq; exact ⟨v, e, G.below hb⟩
              have hbel' := bel_tr hbel hb
              have hs2 : wr.heap.size ≤ w2.heap.size := hb.size
              clear TR hTN hGN hbel hb G1 hc1
              have TR := TR'
              have hTN := hTN'
              have hGN := hGN'
              have hbel := hbel'
              clear TR' hTN' hGN' hbel'
              by_cases hjl : j < L
              · obtain ⟨a3, n3, c3, hc3, G3⟩ := (TR.at (by omega)).elim fun g' h => h.elim fun c' h => by
                  obtain ⟨e', _, h⟩ := h
                  simp only [Value.slice.injEq, Option.some.injEq, Addr.mk.injEq, and_true] at e'
                  obtain ⟨rfl, _, _⟩ := e'
                  exact h j hjl
                have hjl' : (j : Int) < (L : Int) := by omega
                go_wp2_with fail
                refine (raddV _ GS.num G3.num (by omega)).mono ?_
                rintro e w3 ⟨a4, n4, c4, rfl, GA, hb⟩
                replace GA := GA.mono (B' := w.heap.size) hbel.size
                have GS2 : Got w3 w.heap.size (.slice a4 n4 c4) (chs i j) 5 := (GA.val (chs_pas i j (by omega) (by omega))).shrink (chs_small (by omega))
                have TR' := TR.below hb
                have hTN' := hTN.below hb
                have hGN' : ∀ q, q < j → ∃ v, vs[q]? = some v ∧ Got w3 w.heap.size v (chs i q) 5 := fun q hq => by obtain ⟨v, e, G⟩ := hGN q hq; exact ⟨v, e, G.below hb⟩
                have hbel' := bel_tr hbel hb
                have hs3 : w2.heap.size ≤ w3.heap.size := hb.size
                clear TR hTN hGN hbel hb G3 hc3 GS GA
                have TR := TR'
                have hTN := hTN'
                have hGN := hGN'
                have hbel := hbel'
                have GS := GS2
                clear TR' hTN' hGN' hbel' GS2
                go_wp2_with (at_builtin; refine wpList_appendT1 _ rfl _ _ rfl H0 u8 vs j HVS rfl (hTN.alloc _) w3.heap.size _ (.slice a4 n4 c4) rfl (cell_new1 rfl) rfl (by omega) (by simp; omega) (w3.heap.size + 1) (by simp) ?_)
                intro g2 cap2 wa hown hgrow hat _
                have TN2 := tri_add HVS.out hTN hGN GS hown hgrow
                have hTN3 : Tri w3 w.heap.size H0 u8 i j := ⟨vs, hTN, HVS.out, hGN⟩
                have TR2 := tri_keep TR hTN3 (fun k hk => by cases hk; exact hgH) hnb hgrow
                have hszn := hTN.lt
                have hb2 : Below w.heap.size w wa := hbel.trans (((Below.refl w.heap.size w3).alloc (by omega) _).trans (grown_below hgrow (by simp; omega) (fun q hq => by have := (hTN.lt q hq).1; omega)))
                have hsza : H0 ≤ wa.heap.size := by have := hgrow.size; simp at this; omega
                have hnb2 : ∀ k, (Value.slice (some ⟨g2, 0, none⟩) (j + 1) cap2).ownBlock = some k → H0 ≤ k := fun k hk => by
                  simp only [Value.ownBlock, Option.some.injEq] at hk
                  subst hk
                  rcases hat with e | e
                  · exact hnb _ e
                  · omega
                clear hown hgrow hat hTN hGN GS TR hTN3 hbel hszn hnb
                go_wp2
                go_roundw
                case rel => exact ⟨j + 1, by omega, by omega, by go_num, TN2, TR2, hnb2, hb2, hsza⟩
                case measure => simp [intOf]; omega
              · have hjl' : ¬ (j : Int) < (L : Int) := by omega
                have hji2 : j = i := by omega
                have GS2 : Got w2 w.heap.size (.slice a2 n2 c2) (chs i j) 5 := GS.val (by
                  have e := chs_pas i j (by omega) (by omega)
                  rw [chs_gt (i - 1) j (by omega)] at e
                  omega)
                clear GS
                have GS := GS2
                clear GS2 hji2
                go_wp2_with (at_builtin; refine wpList_appendT1 _ rfl _ _ rfl H0 u8 vs j HVS rfl (hTN.alloc _) w2.heap.size _ (.slice a2 n2 c2) rfl (cell_new1 rfl) rfl (by omega) (by simp; omega) (w2.heap.size + 1) (by simp) ?_)
                intro g2 cap2 wa hown hgrow hat _
                have TN2 := tri_add HVS.out hTN hGN GS hown hgrow
                have hTN3 : Tri w2 w.heap.size H0 u8 i j := ⟨vs, hTN, HVS.out, hGN⟩
                have TR2 := tri_keep TR hTN3 (fun k hk => by cases hk; exact hgH) hnb hgrow
                have hszn := hTN.lt
                have hb2 : Below w.heap.size w wa := hbel.trans (((Below.refl w.heap.size w2).alloc (by omega) _).trans (grown_below hgrow (by simp; omega) (fun q hq => by have := (hTN.lt q hq).1; omega)))
                have hsza : H0 ≤ wa.heap.size := by have := hgrow.size; simp at this; omega
                have hnb2 : ∀ k, (Value.slice (some ⟨g2, 0, none⟩) (j + 1) cap2).ownBlock = some k → H0 ≤ k := fun k hk => by
                  simp only [Value.ownBlock, Option.some.injEq] at hk
                  subst hk
                  rcases hat with e | e
                  · exact hnb _ e
                  · omega
                clear hown hgrow hat hTN hGN GS TR hTN3 hbel hszn hnb
                go_wp2
                go_roundw
                case rel => exact ⟨j + 1, by omega, by omega, by go_num, TN2, TR2, hnb2, hb2, hsza⟩
                case measure => simp [intOf]; omega
            · have hle1 : (j : Int) ≤ (i : Int) := by omega
              have hle2 : ¬ (j : Int) ≤ (M : Int) := by omega
              obtain ⟨g3, cap3, eu, _, _⟩ := TN.at (by omega)
              have TN3 := TN.mono hwH
              subst eu
              clear TN TR hnb
              go_wp2
              go_roundw
              case rel => exact ⟨i + 1, g3, cap3, j, by omega, by omega, by go_num, rfl, by omega, by omega, by omega, TN3, hbel⟩
              case measure => simp [intOf]; omega
          · have hle1 : ¬ (j : Int) ≤ (i : Int) := by omega
            obtain ⟨g3, cap3, eu, _, _⟩ := TN.at (by omega)
            have TN3 := TN.mono hwH
            subst eu
            clear TN TR hnb
            go_wp2
            go_roundw
            case rel => exact ⟨i + 1, g3, cap3, j, by omega, by omega, by go_num, rfl, by omega, by omega, by omega, TN3, hbel⟩
            case measure => simp [intOf]; omega
      · have hinI : ¬ (i : Int) ≤ (n : Int) := by omega
        obtain rfl : i = n + 1 := by omega
        obtain ⟨ga, gc, er, hcap, hcells⟩ := TR.at (by omega)
        simp only [Value.slice.injEq, Option.some.injEq, Addr.mk.injEq, and_true] at er
        obtain ⟨eg, _, ec⟩ := er
        subst eg ec
        obtain ⟨a1, n1, c1, hc1, G1⟩ := hcells M (by omega)
        have hML : (M : Int) < (L : Int) := by omega
        rw [Nat.add_sub_cancel] at G1
        clear hcells TR
        go_wp2_with fail
        refine (rnormG _ G1.num (by omega)).mono ?_
        rintro e w2 ⟨a2, n2, c2, rfl, GS, hb⟩
        replace GS := GS.mono (B' := w.heap.size) hbel.size
        have hbel' := bel_tr hbel hb
        clear hbel hb G1 hc1
        rw [HM.out.1] at GS
        go_wp2
        go_ret
        exact ⟨a2, n2, c2, rfl, GS, hbel'⟩
  · obtain rfl : M = k := by have := HM.out.2; omega
    have hMI2 : ¬ (n : Int) - (M : Int) < (M : Int) := by omega
    go_wp2
    go_loopw [6, 7] (fun rv s wr => ∃ (i g cap L : Nat), 1 ≤ i ∧ i ≤ n + 1 ∧ s = .int .i64 i ∧ rv = .slice (some ⟨g, 0, none⟩) L cap ∧ L ≤ i ∧ L ≤ M + 1 ∧ (L = i ∨ L = M + 1) ∧ Tri wr w.heap.size w.heap.size rv (i - 1) L ∧ Below w.heap.size w wr) (fun _ s _ => n + 1 - (intOf s).toNat)
    case atStart => exact ⟨1, w.heap.size + 1, 1, 1, by omega, by omega, rfl, rfl, by omega, by omega, .inl rfl, T0.mono (by omega), hb0⟩
    case round =>
      clear T0 hb0
      obtain ⟨i, g, cap, L, hi1, hi2, rfl, rfl, hL1, hL2, hL3, TR, hbel⟩ := hrel
      by_cases hin : i ≤ n
      · have hinI : (i : Int) ≤ (n : Int) := by omega
        have hgr : g < wr.heap.size := by obtain ⟨vs, t, _⟩ := TR; exact (t.lt g rfl).2
        have hb1 : Below wr.heap.size wr ((wr.alloc (.cells #[Value.int .u64 1] 43)).alloc (.cells #[.slice (some ⟨wr.heap.size, 0, none⟩) 1 1] 23)) := ((Below.refl _ _).alloc (Nat.le_refl _) _).alloc (by simp) _
        have TN0 := tri_one wr i
        have TR0 := TR.below hb1
        have hbel0 := bel_tr hbel hb1
        have hsz := hbel.size
        have TN0' : Tri ((wr.alloc (.cells #[Value.int .u64 1] 43)).alloc (.cells #[.slice (some ⟨wr.heap.size, 0, none⟩) 1 1] 23)) w.heap.size (wr.heap.size + 1) (.slice (some ⟨wr.heap.size + 1, 0, none⟩) 1 1) i 1 := by
          obtain ⟨vs, t1, t2, t3⟩ := TN0
          exact ⟨vs, t1, t2, fun q hq => by obtain ⟨v, e, G⟩ := t3 q hq; exact ⟨v, e, G.mono hsz⟩⟩
        obtain ⟨H0, hH0⟩ : ∃ H0, H0 = wr.heap.size + 1 := ⟨_, rfl⟩
        rw [← hH0] at TN0'
        have hgH : g < H0 := by omega
        have hwH : w.heap.size ≤ H0 := by omega
        have HSA : Hid (H0 ≤ ((wr.alloc (.cells #[Value.int .u64 1] 43)).alloc (.cells #[.slice (some ⟨wr.heap.size, 0, none⟩) 1 1] 23)).heap.size) := by show _ ≤ _; simp; omega
        have HH0 : Hid (wr.heap.size + 1 = H0) := hH0.symm
        clear TN0 TR hbel hb1 hH0
        go_wp2
        go_loopw [8, 9] (fun nv s wr => ∃ (j : Nat), 1 ≤ j ∧ (j ≤ i + 1 ∧ j ≤ M + 1) ∧ s = .int .i64 j ∧ Tri wr w.heap.size H0 nv i j ∧ Tri wr w.heap.size w.heap.size (.slice (some ⟨g, 0, none⟩) L cap) (i - 1) L ∧ (∀ k, nv.ownBlock = some k → H0 ≤ k) ∧ Below w.heap.size w wr ∧ H0 ≤ wr.heap.size) (fun _ s _ => M + 2 - (intOf s).toNat)
        case atStart => exact ⟨1, by omega, by omega, rfl, (by rw [HH0.out]; exact TN0'), TR0, fun k hk => by simp only [Value.ownBlock, Option.some.injEq] at hk; have := HH0.out; omega, hbel0, HSA.out⟩
        case round =>
          clear TN0' TR0 hbel0 HSA HH0
          obtain ⟨j, hj1, hj2, rfl, TN, TR, hnb, hbel, hszr⟩ := hrel
          obtain ⟨hj2, hj3⟩ := hj2
          by_cases hji1 : j ≤ i
          · by_cases hji2 : j ≤ M
            · skip
              obtain ⟨vs, hTN, hvs, hGN⟩ := TN
              have HVS : Hid (vs.length = j) := hvs
              clear hvs
              obtain ⟨ga, gc, er, hcap, hcells⟩ := TR.at (by omega)
              simp only [Value.slice.injEq, Option.some.injEq, Addr.mk.injEq, and_true] at er
              obtain ⟨eg, _, ec⟩ := er
              subst eg ec
              obtain ⟨a1, n1, c1, hc1, G1⟩ := hcells (j - 1) (by omega)
              have hji : (j : Int) - 1 < (L : Int) := by omega
              have hj0 : (0 : Int) ≤ (j : Int) - 1 := by omega
              have hidx : ((j : Int) - 1).toNat = j - 1 := by omega
              have hle1 : (j : Int) ≤ (i : Int) := by omega
              have hle2 : (j : Int) ≤ (M : Int) := by omega
              go_wp2_with fail
              refine (rnormG _ G1.num (by omega)).mono ?_
              rintro e w2 ⟨a2, n2, c2, rfl, GS, hb⟩
              replace GS := GS.mono (B' := w.heap.size) hbel.size
              have TR' := TR.below hb
              have hTN' := hTN.below hb
              have hGN' : ∀ q, q < j → ∃ v, vs[q]? = some v ∧ Got w2 w.heap.size v (chs i q) 5 := fun q hq => by obtain ⟨v, e, G⟩ := hGN q hq; exact ⟨v, e, G.below hb⟩
              have hbel' := bel_tr hbel hb
              have hs2 : wr.heap.size ≤ w2.heap.size := hb.size
              clear TR hTN hGN hbel hb G1 hc1
              have TR := TR'
              have hTN := hTN'
              have hGN := hGN'
              have hbel := hbel'
              clear TR' hTN' hGN' hbel'
              by_cases hjl : j < L
              · obtain ⟨a3, n3, c3, hc3, G3⟩ := (TR.at (by omega)).elim fun g' h => h.elim fun c' h => by
                  obtain ⟨e', _, h⟩ := h
                  simp only [Value.slice.injEq, Option.some.injEq, Addr.mk.injEq, and_true] at e'
                  obtain ⟨rfl, _, _⟩ := e'
                  exact h j hjl
                have hjl' : (j : Int) < (L : Int) := by omega
                go_wp2_with fail
                refine (raddV _ GS.num G3.num (by omega)).mono ?_
                rintro e w3 ⟨a4, n4, c4, rfl, GA, hb⟩
                replace GA := GA.mono (B' := w.heap.size) hbel.size
                have GS2 : Got w3 w.heap.size (.slice a4 n4 c4) (chs i j) 5 := (GA.val (chs_pas i j (by omega) (by omega))).shrink (chs_small (by omega))
                have TR' := TR.below hb
                have hTN' := hTN.below hb
                have hGN' : ∀ q, q < j → ∃ v, vs[q]? = some v ∧ Got w3 w.heap.size v (chs i q) 5 := fun q hq => by obtain ⟨v, e, G⟩ := hGN q hq; exact ⟨v, e, G.below hb⟩
                have hbel' := bel_tr hbel hb
                have hs3 : w2.heap.size ≤ w3.heap.size := hb.size
                clear TR hTN hGN hbel hb G3 hc3 GS GA
                have TR := TR'
                have hTN := hTN'
                have hGN := hGN'
                have hbel := hbel'
                have GS := GS2
                clear TR' hTN' hGN' hbel' GS2
                go_wp2_with (at_builtin; refine wpList_appendT1 _ rfl _ _ rfl H0 u8 vs j HVS rfl (hTN.alloc _) w3.heap.size _ (.slice a4 n4 c4) rfl (cell_new1 rfl) rfl (by omega) (by simp; omega) (w3.heap.size + 1) (by simp) ?_)
                intro g2 cap2 wa hown hgrow hat _
                have TN2 := tri_add HVS.out hTN hGN GS hown hgrow
                have hTN3 : Tri w3 w.heap.size H0 u8 i j := ⟨vs, hTN, HVS.out, hGN⟩
                have TR2 := tri_keep TR hTN3 (fun k hk => by cases hk; exact hgH) hnb hgrow
                have hszn := hTN.lt
                have hb2 : Below w.heap.size w wa := hbel.trans (((Below.refl w.heap.size w3).alloc (by omega) _).trans (grown_below hgrow (by simp; omega) (fun q hq => by have := (hTN.lt q hq).1; omega)))
                have hsza : H0 ≤ wa.heap.size := by have := hgrow.size; simp at this; omega
                have hnb2 : ∀ k, (Value.slice (some ⟨g2, 0, none⟩) (j + 1) cap2).ownBlock = some k → H0 ≤ k := fun k hk => by
                  simp only [Value.ownBlock, Option.some.injEq] at hk
                  subst hk
                  rcases hat with e | e
                  · exact hnb _ e
                  · omega
                clear hown hgrow hat hTN hGN GS TR hTN3 hbel hszn hnb
                go_wp2
                go_roundw
                case rel => exact ⟨j + 1, by omega, by omega, by go_num, TN2, TR2, hnb2, hb2, hsza⟩
                case measure => simp [intOf]; omega
              · have hjl' : ¬ (j : Int) < (L : Int) := by omega
                have hji2 : j = i := by omega
                have GS2 : Got w2 w.heap.size (.slice a2 n2 c2) (chs i j) 5 := GS.val (by
                  have e := chs_pas i j (by omega) (by omega)
                  rw [chs_gt (i - 1) j (by omega)] at e
                  omega)
                clear GS
                have GS := GS2
                clear GS2 hji2
                go_wp2_with (at_builtin; refine wpList_appendT1 _ rfl _ _ rfl H0 u8 vs j HVS rfl (hTN.alloc _) w2.heap.size _ (.slice a2 n2 c2) rfl (cell_new1 rfl) rfl (by omega) (by simp; omega) (w2.heap.size + 1) (by simp) ?_)
                intro g2 cap2 wa hown hgrow hat _
                have TN2 := tri_add HVS.out hTN hGN GS hown hgrow
                have hTN3 : Tri w2 w.heap.size H0 u8 i j := ⟨vs, hTN, HVS.out, hGN⟩
                have TR2 := tri_keep TR hTN3 (fun k hk => by cases hk; exact hgH) hnb hgrow
                have hszn := hTN.lt
                have hb2 : Below w.heap.size w wa := hbel.trans (((Below.refl w.heap.size w2).alloc (by omega) _).trans (grown_below hgrow (by simp; omega) (fun q hq => by have := (hTN.lt q hq).1; omega)))
                have hsza : H0 ≤ wa.heap.size := by have := hgrow.size; simp at this; omega
                have hnb2 : ∀ k, (Value.slice (some ⟨g2, 0, none⟩) (j + 1) cap2).ownBlock = some k → H0 ≤ k := fun k hk => by
                  simp only [Value.ownBlock, Option.some.injEq] at hk
                  subst hk
                  rcases hat with e | e
                  · exact hnb _ e
                  · omega
                clear hown hgrow hat hTN hGN GS TR hTN3 hbel hszn hnb
                go_wp2
                go_roundw
                case rel => exact ⟨j + 1, by omega, by omega, by go_num, TN2, TR2, hnb2, hb2, hsza⟩
                case measure => simp [intOf]; omega
            · have hle1 : (j : Int) ≤ (i : Int) := by omega
              have hle2 : ¬ (j : Int) ≤ (M : Int) := by omega
              obtain ⟨g3, cap3, eu, _, _⟩ := TN.at (by omega)
              have TN3 := TN.mono hwH
              subst eu
              clear TN TR hnb
              go_wp2
              go_roundw
              case rel => exact ⟨i + 1, g3, cap3, j, by omega, by omega, by go_num, rfl, by omega, by omega, by omega, TN3, hbel⟩
              case measure => simp [intOf]; omega
          · have hle1 : ¬ (j : Int) ≤ (i : Int) := by omega
            obtain ⟨g3, cap3, eu, _, _⟩ := TN.at (by omega)
            have TN3 := TN.mono hwH
            subst eu
            clear TN TR hnb
            go_wp2
            go_roundw
            case rel => exact ⟨i + 1, g3, cap3, j, by omega, by omega, by go_num, rfl, by omega, by omega, by omega, TN3, hbel⟩
            case measure => simp [intOf]; omega
      · have hinI : ¬ (i : Int) ≤ (n : Int) := by omega
        obtain rfl : i = n + 1 := by omega
        obtain ⟨ga, gc, er, hcap, hcells⟩ := TR.at (by omega)
        simp only [Value.slice.injEq, Option.some.injEq, Addr.mk.injEq, and_true] at er
        obtain ⟨eg, _, ec⟩ := er
        subst eg ec
        obtain ⟨a1, n1, c1, hc1, G1⟩ := hcells M (by omega)
        have hML : (M : Int) < (L : Int) := by omega
        rw [Nat.add_sub_cancel] at G1
        clear hcells TR
        go_wp2_with fail
        refine (rnormG _ G1.num (by omega)).mono ?_
        rintro e w2 ⟨a2, n2, c2, rfl, GS, hb⟩
        replace GS := GS.mono (B' := w.heap.size) hbel.size
        have hbel' := bel_tr hbel hb
        clear hbel hb G1 hc1
        go_wp2
        go_ret
        exact ⟨a2, n2, c2, rfl, GS, hbel'⟩
end Go.Proofs.YtogdpgfccbohnabDoor
